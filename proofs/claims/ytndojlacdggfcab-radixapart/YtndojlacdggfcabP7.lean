import Derived.Test.YtndojlacdggfcabP6
namespace Go.Proofs.Ytndojlacdggfcab
open Go.RowKit

theorem rflat_app (a b : List Rn) : rflat (a ++ b) = rflat a ++ rflat b := by simp [rflat]
theorem rflat_take {R : List Rn} {A j : Nat} {u : Value} (h : (rflat (R.take A))[j]? = some u) : (rflat R)[j]? = some u := by
  have e : rflat R = rflat (R.take A) ++ rflat (R.drop A) := by rw [← rflat_app, List.take_append_drop]
  rw [e, List.getElem?_append_left (List.getElem?_eq_some_iff.1 h).1]
  exact h
theorem rflat_drop {R : List Rn} {A j : Nat} {u : Value} (hA : A ≤ R.length) (h : (rflat (R.drop A))[j]? = some u) : (rflat R)[A * 3 + j]? = some u := by
  have e : rflat R = rflat (R.take A) ++ rflat (R.drop A) := by rw [← rflat_app, List.take_append_drop]
  have hl : (rflat (R.take A)).length = A * 3 := by rw [rflat_len, List.length_take]; omega
  rw [e, List.getElem?_append_right (by omega), hl, Nat.add_sub_cancel_left]
  exact h

theorem app_step {w0 A B : World} {base : Nat} {v v' : Value} {n m : Nat} {xs ys : List Value} (hk : Keeps (fun _ => False) w0 A) (hb : w0.heap.size ≤ base) (ho : A.ownsRow base 38 3 v n xs) (hr : B.ownsRow base 38 3 v' m ys) (hg : A.grownBy B v.ownBlock) :
    Hid (Keeps (fun _ => False) w0 B ∧ B.ownsRow base 38 3 v' m ys) :=
  ⟨hk.step hg (fun c hc => .inr (Nat.le_trans hb (ho.lt c hc).1)), hr⟩
theorem app_step' {w0 A B : World} {base : Nat} {v v' : Value} {n m : Nat} {xs ys : List Value} {o : Obj} (hk : Keeps (fun _ => False) w0 A) (hb : w0.heap.size ≤ base) (ho : A.ownsRow base 38 3 v n xs) (hr : B.ownsRow base 38 3 v' m ys) (hg : (A.alloc o).grownBy B v.ownBlock) (hs : base ≤ A.heap.size) :
    Hid (Keeps (fun _ => False) w0 B ∧ B.ownsRow base 38 3 v' m ys ∧ base ≤ B.heap.size) :=
  ⟨(hk.trans (Keeps.new A o)).step hg (fun c hc => .inr (Nat.le_trans hb (ho.lt c hc).1)), hr, Nat.le_trans hs (Nat.le_trans (Keeps.new A o).size hg.size)⟩
theorem app_first {w0 wr B : World} {a b c v' : Value} {m : Nat} {ys : List Value} (hk : Keeps (fun _ => False) w0 (wr.alloc (.cells #[a, b, c] 38))) (hx : (wr.alloc (.cells #[a, b, c] 38)).heap[wr.heap.size]? = some (.cells #[a, b, c] 38)) (hr : B.ownsRow (wr.heap.size + 1) 38 3 v' m ys) (hg : (wr.alloc (.cells #[a, b, c] 38)).grownBy B none) :
    B.cell? ⟨wr.heap.size, 0, none⟩ = some a ∧ B.cell? ⟨wr.heap.size, 1, none⟩ = some b ∧ B.cell? ⟨wr.heap.size, 2, none⟩ = some c ∧ wr.heap.size + 1 ≤ B.heap.size ∧ Hid (Keeps (fun _ => False) w0 B ∧ B.ownsRow (wr.heap.size + 1) 38 3 v' m ys ∧ wr.heap.size + 1 ≤ B.heap.size) := by
  have hkB : Keeps (fun _ => False) (wr.alloc (.cells #[a, b, c] 38)) B := Keeps.of hg (by intro k h; cases h)
  have hB := hkB.at hx id
  have hs : wr.heap.size + 1 ≤ B.heap.size := heap_lt hB
  refine ⟨?_, ?_, ?_, hs, hk.trans hkB, hr, hs⟩ <;> simp [World.cell?, hB]

/-- The list that Runs gave, where it lies. -/
theorem open_row {W : World} {base : Nat} {sa : Option Addr} {n sc : Nat} {xs : List Value} (h : W.ownsRow base 38 3 (.slice sa n sc) n xs) :
    (sa = none ∧ n = 0 ∧ sc = 0) ∨ ∃ gb, sa = some ⟨gb, 0, none⟩ ∧ n ≤ sc ∧ sc ≤ 9223372036854775807 ∧ ∀ j u, xs[j]? = some u → W.cell? ⟨gb, j, none⟩ = some u := by
  rcases h.2 with ⟨h1, h2⟩ | ⟨gb, c, cur, h1, hb, hg, hnc, hcm, _⟩
  · cases h1; exact .inl ⟨rfl, h2, rfl⟩
  · cases h1
    refine .inr ⟨gb, rfl, hnc, Nat.le_trans hcm (by decide), fun j u hj => ?_⟩
    have := h.cells (g := gb) rfl j u hj
    have hadd : (⟨gb, 0, none⟩ : Addr).add j = ⟨gb, j, none⟩ := by unfold Addr.add; split <;> simp_all
    rwa [hadd] at this

/-- What stands while RadixRound plays. -/
def RS (w W : World) (a : Option Addr) (L : List Put) (t : Nat) (g : Nat → Int) : Prop := Keeps (fun _ => False) w W ∧ PutsIn W a L ∧ TreeAt W t g
theorem RS.keep {w A B : World} {a : Option Addr} {L : List Put} {t : Nat} {g : Nat → Int} (h : RS w A a L t g) (k : Keeps (fun _ => False) A B) : RS w B a L t g := ⟨h.1.trans k, h.2.1.grown k, h.2.2.keep k⟩

set_option maxRecDepth 100000 in
set_option maxHeartbeats 4000000 in
theorem round_walk (w : World) (p : Option Addr) (l : List Put) (cap : Nat) (x : Int) (hp : PutsIn w p l) (hl : l.length * 24 ≤ 140737488355328) :
    Calls Try.prog 3 #[.slice p l.length cap, .int .i64 x] w fun e w' => e = .returned (.bool true) ∧ Keeps (fun _ => False) w w' := by
  obtain ⟨i0, hi, hz0, hz1, hz2⟩ := info_parts info38
  obtain ⟨g, hg⟩ : ∃ g, g = play ((goodL l).take 400) := ⟨_, rfl⟩
  have hLl := goodL_len l
  have hgs : ∀ o, o < 512 → 0 ≤ g o ∧ g o ≤ 999999 := fun o ho => by rw [hg]; exact play_sat (fun v => 0 ≤ v ∧ v ≤ 999999) ⟨by omega, by omega⟩ (goodL l) goodL_sat o ho
  have hpl : ∀ o, o < 512 → g o = lastV (goodL l) (o : Int) := fun o ho => by rw [hg]; exact play_last _ o ho
  obtain ⟨R, hR⟩ : ∃ R, runsOf (els g 0 0 512) = R := ⟨_, rfl⟩
  obtain ⟨ok1, ok2, ok3⟩ := runs_ok g hgs
  have hRl := Nat.le_trans (runsOf_len (els g 0 0 512)) (els_len g 0 0 512)
  have hEl := els_len g 0 0 512
  rw [hR] at ok1 ok2 ok3 hRl
  have hGood := good_any w p l cap hp hl
  have hGrown : ∀ W a c, Keeps (fun _ => False) w W → PutsIn W a (goodL l) → Calls Try.prog 10 #[.slice a l.length c] W fun e w' => ∃ t, e = .returned (.tuple #[.pointer (some ⟨t, 0, none⟩), .bool true]) ∧ Hid (RS w w' a (goodL l) t g) := fun W a c hk hP => by
    have := grown_any W a (goodL l) c hP (by rw [hLl]; simp [maxLen]; omega)
    rw [hLl, ← hg] at this
    exact this.mono fun e w' ⟨t, h1, _, h2, h3⟩ => ⟨t, h1, hk.trans h2, hP.grown h2, h3⟩
  have hRuns : ∀ W t, TreeAt W t g → Calls Try.prog 11 #[.pointer (some ⟨t, 0, none⟩)] W fun e w' => ∃ a c, e = .returned (.slice a R.length c) ∧ Hid (Keeps (fun _ => False) W w' ∧ ∃ base, w'.ownsRow base 38 3 (.slice a R.length c) R.length (rflat R)) := fun W t hT =>
    (runs_any W t g hT).mono fun e w' ⟨s, he, hh⟩ => by
      rw [hR] at hh
      have hs := hh.out.2
      obtain ⟨a, capR, rfl⟩ : ∃ a capR, s = .slice a R.length capR := by
        rcases hs.2 with ⟨h1, h2⟩ | ⟨gb, c, _, h1, _⟩
        · exact ⟨none, 0, by rw [h1, h2]⟩
        · exact ⟨_, c, h1⟩
      exact ⟨a, capR, he, hh.out.1, _, hs⟩
  have hLoad : ∀ W a c, (∃ base, W.ownsRow base 38 3 (.slice a R.length c) R.length (rflat R)) → Calls Try.prog 12 #[.slice a R.length c] W fun e w' => ∃ t, e = .returned (.tuple #[.pointer (some ⟨t, 0, none⟩), .int .i64 0]) ∧ Hid (Keeps (fun _ => False) W w' ∧ TreeAt w' t g) := fun W a c ⟨base, hr⟩ =>
    (load_any W a R c (rn_of_row (Row.of_own hr)) (by simp [maxLen]; omega) ok2).mono fun e w' hh => by
      rcases hh with ⟨_, t', he, h3⟩ | ⟨h, _⟩
      · exact ⟨t', he, h3.out.2.1, h3.out.2.2.congr ok3⟩
      · rw [ok1] at h; cases h
  have hLen : ∀ W t, TreeAt W t g → Calls Try.prog 13 #[.pointer (some ⟨t, 0, none⟩)] W fun e w' => e = .returned (.int .i64 ((els g 0 0 512).length : Int)) ∧ Hid (Keeps (fun _ => False) W w') := fun W t hT => len_any W t g hT
  have hSame : ∀ W a c b d, (∃ base, W.ownsRow base 38 3 (.slice a R.length c) R.length (rflat R)) → (∃ base, W.ownsRow base 38 3 (.slice b R.length d) R.length (rflat R)) → Calls Try.prog 14 #[.slice a R.length c, .slice b R.length d] W fun e w' => e = .returned (.bool true) ∧ Hid (Keeps (fun _ => False) W w') := fun W a c b d ⟨_, h1⟩ ⟨_, h2⟩ =>
    (sameRuns_any W _ _ R (Row.of_own h1) (Row.of_own h2) (by omega)).mono fun e w' ⟨h1, m, h2⟩ => ⟨h1, by rw [h2]; exact Keeps.drewN _ _ _⟩
  have hLast : ∀ W a c (o : Int), PutsIn W a (goodL l) → Calls Try.prog 16 #[.slice a l.length c, .int .i64 o] W fun e w' => e = .returned (.int .i64 (lastV (goodL l) o)) ∧ W = w' := fun W a c o hP => by
    have := last_any W a (goodL l) c o hP (by rw [hLl]; simp [maxLen]; omega)
    rw [hLl] at this
    exact this.mono fun e w' ⟨h1, h2⟩ => ⟨h1, h2.symm⟩
  have hGet : ∀ W t (o : Int), TreeAt W t g → Calls Try.prog 15 #[.pointer (some ⟨t, 0, none⟩), .int .i64 o] W fun e w' => e = .returned (.int .i64 (getF g o)) ∧ Hid (Keeps (fun _ => False) W w') := fun W t o hT => get_any W t g o hT
  have hA := plc_lt x (show 1 ≤ R.length + 1 by omega)
  have hPl := fun W => (place3_any x (R.length + 1) W (by omega) (by omega)).mono (R' := fun e w' => e = .returned (.int .i64 (plc x (R.length + 1))) ∧ W = w') (fun e w' ⟨h1, h2⟩ => ⟨h1, h2.symm⟩)
  generalize plc x (R.length + 1) = A at hA hPl
  have hMid : ∀ b : Rn, okRun b = false → bdR b → ∀ n, n = A + 1 + (R.length - A) → ∀ W v, (∃ base, W.ownsRow base 38 3 v n (rflat (R.take A) ++ rcells b ++ rflat (R.drop A))) → Calls Try.prog 12 #[v] W fun e w' => e = .returned (.tuple #[.pointer none, .int .i64 70]) ∧ Hid (Keeps (fun _ => False) W w') := fun b hb hbd n hn W v ⟨base, hr⟩ => by
    obtain ⟨M, hM⟩ : ∃ M, M = R.take A ++ [b] ++ R.drop A := ⟨_, rfl⟩
    have e1 : rflat (R.take A) ++ rcells b ++ rflat (R.drop A) = rflat M := by rw [hM, rflat_app, rflat_app]; simp [rflat]
    have e2 : n = M.length := by rw [hM, hn]; simp; omega
    rw [e1, e2] at hr
    obtain ⟨a, c, rfl⟩ : ∃ a c, v = .slice a M.length c := by
      rcases hr.2 with ⟨h1, h2⟩ | ⟨gb, c, _, h1, _⟩
      · exact ⟨none, 0, by rw [h1, h2]⟩
      · exact ⟨_, c, h1⟩
    refine (load_any W a M c (rn_of_row (Row.of_own hr)) (by rw [← e2]; simp [maxLen]; omega) (fun r hr => ?_)).mono fun e w' hh => ?_
    · rw [hM] at hr
      rcases List.mem_append.1 hr with hr | hr
      · rcases List.mem_append.1 hr with hr | hr
        · exact ok2 r (List.mem_of_mem_take hr)
        · rw [List.mem_singleton.1 hr]; exact hbd
      · exact ok2 r (List.mem_of_mem_drop hr)
    · rcases hh with ⟨h, _⟩ | ⟨_, h1, h2⟩
      · rw [hM] at h
        simp [hb] at h
      · exact ⟨h1, h2⟩
  have hTakeL : (rflat (R.take A)).length = A * 3 := by rw [rflat_len, List.length_take]; omega
  have hDropL : (rflat (R.drop A)).length = (R.length - A) * 3 := by rw [rflat_len, List.length_drop]
  have HMID := Hid.mk' hMid
  have HPL := Hid.mk' hpl
  have hLl' : l.length ≤ 9223372036854775807 := by omega
  clear hp hg hLl hgs hR ok1 ok2 ok3 hMid hpl hl
  go_enter Try.func3, Try.ntmps3
  go_wp2_with (first
    | (go_at_call 14; refine (hSame w7 a7 c7 a3 c3 H7.out.2.1 H7.out.2.2).mono ?_; rintro e w8 ⟨rfl, H8⟩)
    | (go_at_call 11; refine (hRuns w6 u H6.out.2.2).mono ?_; rintro e w7 ⟨a7, c7, rfl, H7'⟩; have H7 : Hid (Keeps (fun _ => False) w4 w7 ∧ (∃ base, w7.ownsRow base 38 3 (.slice a7 R.length c7) R.length (rflat R)) ∧ (∃ base, w7.ownsRow base 38 3 (.slice a3 R.length c3) R.length (rflat R))) := ⟨H6.out.1.trans H7'.out.1, H7'.out.2, H4.out.2.1.imp fun _ h => ownsRow_keeps h (H6.out.1.trans H7'.out.1) (fun _ _ h => h)⟩)
    | (go_at_call 13; refine (hLen w5 t H5.out.2).mono ?_; rintro e w6 ⟨rfl, H6'⟩; have H6 : Hid (Keeps (fun _ => False) w4 w6 ∧ TreeAt w6 t g ∧ TreeAt w6 u g) := ⟨H5.out.1.trans H6'.out, H5.out.2.keep H6'.out, H4.out.2.2.keep (H5.out.1.trans H6'.out)⟩)
    | (go_at_call 13; refine (hLen w4 u H4.out.2.2).mono ?_; rintro e w5 ⟨rfl, H5'⟩; have H5 : Hid (Keeps (fun _ => False) w4 w5 ∧ TreeAt w5 t g) := ⟨H5'.out, H4.out.1.2.2.keep H5'.out⟩)
    | (go_at_call 12; refine (hLoad w3 a3 c3 H3.out.2).mono ?_; rintro e w4 ⟨u, rfl, H4'⟩; have H4 : Hid (RS w w4 ga (goodL l) t g ∧ (∃ base, w4.ownsRow base 38 3 (.slice a3 R.length c3) R.length (rflat R)) ∧ TreeAt w4 u g) := ⟨H3.out.1.keep H4'.out.1, H3.out.2.imp fun _ h => ownsRow_keeps h H4'.out.1 (fun _ _ h => h), H4'.out.2⟩)
    | (go_at_call 11; refine (hRuns w2 t H2.out.2.2).mono ?_; rintro e w3 ⟨a3, c3, rfl, H3'⟩; have H3 : Hid (RS w w3 ga (goodL l) t g ∧ (∃ base, w3.ownsRow base 38 3 (.slice a3 R.length c3) R.length (rflat R))) := ⟨H2.out.keep H3'.out.1, H3'.out.2⟩)
    | (go_at_call 10; refine (hGrown w1 ga gc H1.out.1 H1.out.2).mono ?_; rintro e w2 ⟨t, rfl, H2⟩)
    | (go_at_call 9; refine hGood.mono ?_; rintro e w1 ⟨ga, gc, rfl, H1⟩))
  have hG : ∀ W (o : Int), Keeps (fun _ => False) w4 W → Calls Try.prog 15 #[.pointer (some ⟨u, 0, none⟩), .int .i64 o] W fun e w' => e = .returned (.int .i64 (getF g o)) ∧ Hid (Keeps (fun _ => False) w4 w') := fun W o hk => (hGet W u o (H4.out.2.2.keep hk)).mono fun e w' ⟨h1, h2⟩ => ⟨h1, hk.trans h2.out⟩
  have hL : ∀ W (o : Int), Keeps (fun _ => False) w4 W → Calls Try.prog 16 #[.slice ga l.length gc, .int .i64 o] W fun e w' => e = .returned (.int .i64 (lastV (goodL l) o)) ∧ W = w' := fun W o hk => hLast W ga gc o (H4.out.1.2.1.grown hk)
  have HS8 : Hid (Keeps (fun _ => False) w4 w8) := H7.out.1.trans H8.out
  clear hGet hLast hSame hLen hLoad hRuns hGrown hGood
  go_loopw [10] (fun i wr => ∃ k : Nat, k ≤ 512 ∧ i = .int .i64 k ∧ Hid (Keeps (fun _ => False) w4 wr)) (fun i _ => 512 - (intOf i).toNat)
  case atStart => exact ⟨0, by omega, rfl, HS8⟩
  case round =>
    obtain ⟨k, hk, rfl, H9⟩ := hrel
    by_cases h1 : k < 512
    · have h1' : (k : Int) < 512 := by omega
      have ha := fun W (h : Hid (Keeps (fun _ => False) w4 W)) => hL W (k : Int) h.out
      have hb := hG wr (k : Int) H9.out
      rw [← HPL.out k h1] at ha
      rw [getF_nat g h1] at hb
      generalize g k = gk at ha hb
      clear hL hG
      go_wp2_with (first
        | (go_at_call 16; refine (ha w9 H9b).mono ?_; rintro e w10 ⟨rfl, hw⟩; subst hw)
        | (go_at_call 15; refine hb.mono ?_; rintro e w9 ⟨rfl, H9b⟩))
      go_roundw
      case rel => exact ⟨k + 1, by omega, by go_num, H9b⟩
      case measure => simp [intOf]; omega
    · have h1' : ¬ (k : Int) < 512 := by omega
      clear hL hG
      obtain ⟨base, hbase⟩ := H4.out.2.1
      have hOR := open_row hbase
      have HOR : Hid (∀ W, Keeps (fun _ => False) w4 W → ∀ gb, a3 = some ⟨gb, 0, none⟩ → ∀ j v, (rflat R)[j]? = some v → W.cell? ⟨gb, j, none⟩ = some v) := fun W hk gb hgb j v hj => by
        rcases hOR with ⟨h, _⟩ | ⟨gb', h, _, _, hc⟩
        · rw [h] at hgb; cases hgb
        · rw [h] at hgb; cases hgb; exact hk.cell (hc j v hj) id
      have hOR' : (a3 = none ∧ R.length = 0 ∧ c3 = 0) ∨ ∃ gb, a3 = some ⟨gb, 0, none⟩ ∧ R.length ≤ c3 ∧ c3 ≤ 9223372036854775807 := by
        rcases hOR with h | ⟨gb, h1, h2, h3, _⟩
        · exact .inl h
        · exact .inr ⟨gb, h1, h2, h3⟩
      clear hOR hbase
      go_wp2_with (first | (go_at_call 17; refine (hPl wr).mono ?_; rintro e w11 ⟨rfl, hw⟩; subst hw))
      clear hPl
      go_loopw [11, 12, 13, 14, 15] (fun i _ _ _ _ wr => ∃ k : Nat, k ≤ 5 ∧ i = .int .i64 k ∧ Hid (Keeps (fun _ => False) w4 wr)) (fun i _ _ _ _ _ => 5 - (intOf i).toNat)
      case atStart => exact ⟨0, by omega, rfl, H9⟩
      case round =>
        obtain ⟨k, hk, rfl, H11⟩ := hrel
        have hb8 : w4.heap.size ≤ wr.heap.size + 1 := by have := H11.out.size; omega
        have hTake : ∀ W, Keeps (fun _ => False) w4 W → ∀ gb, a3 = some ⟨gb, 0, none⟩ → 0 < A → ∃ ad, a3 = some ad ∧ ∀ j u, (rflat (R.take A))[j]? = some u → W.cell? (ad.add j) = some u := fun W hk gb hgb _ => ⟨⟨gb, 0, none⟩, hgb, fun j u hj => by rw [addr_add, Nat.zero_add]; exact HOR.out W hk gb hgb j u (rflat_take hj)⟩
        have hDrop : ∀ W, Keeps (fun _ => False) w4 W → ∀ gb, a3 = some ⟨gb, 0, none⟩ → 0 < R.length - A → ∃ ad, some (⟨gb, A * 3, none⟩ : Addr) = some ad ∧ ∀ j u, (rflat (R.drop A))[j]? = some u → W.cell? (ad.add j) = some u := fun W hk gb hgb _ => ⟨⟨gb, A * 3, none⟩, rfl, fun j u hj => by rw [addr_add]; exact HOR.out W hk gb hgb _ u (rflat_drop (by omega) hj)⟩
        by_cases h5 : k < 5
        · rcases hOR' with ⟨rfl, hR0, hc0⟩ | ⟨gb, rfl, hRc, hcm⟩
          · have HZ := Hid.mk' (show R.length = 0 ∧ A = 0 ∧ c3 = 0 from ⟨hR0, by omega, hc0⟩)
            have hAc : A ≤ c3 := by omega
            have hRc : R.length ≤ c3 := by omega
            have hcm : c3 ≤ 9223372036854775807 := by omega
            clear hR0 hc0
            rcases (by omega : k = 0 ∨ k = 1 ∨ k = 2 ∨ k = 3 ∨ k = 4) with rfl | rfl | rfl | rfl | rfl
            --CASESNIL
            · have HM := Hid.mk' (HMID.out ((510, 1, 3)) (by decide) (by unfold bdR; decide))
              have hk0 := Keeps.new wr (.cells #[.int .i64 510, .int .i64 1, .int .i64 3] 38)
              have hbx := (MapKept.heap_alloc wr (.cells #[.int .i64 510, .int .i64 1, .int .i64 3] 38)).1
              have HX := Hid.mk' (And.intro (H11.out.trans hk0) hbx)
              clear hk0 hbx
              go_wp2_with (first
                | (go_at_call 12; refine (HM.out _ (by omega) w3 v3 ⟨_, HB3.out.2⟩).mono ?_; rintro e w4 ⟨rfl, H4⟩)
                | (at_builtin; refine wpList_append_any (w := w2) rfl _ _ 27 rfl (wr.heap.size + 1) 38 i0 (.agg #[.int .i64 0, .int .i64 0, .int .i64 0]) 3 24 Try.underlying27 hi hz0 hz1 hz2 rfl (by decide) _ _ _ rfl HB2.out.2.1 _ _ _ (rflat (R.drop A)) rfl (by have := hDropL; omega) (fun h0 => absurd h0 (by have := HZ.out; omega)) (rflat_one _) (by simp [maxLen]; omega) (by omega) HB2.out.2.2 ?_; intro v3 w3 hr3 hg3; have HB3 : Hid (_ ∧ _) := app_step HB2.out.1 hb8 HB2.out.2.1 hr3 hg3; clear hr3 hg3)
                | (at_builtin; refine wpList_append_own _ rfl _ _ 27 rfl (wr.heap.size + 1) 38 i0 (.agg #[.int .i64 0, .int .i64 0, .int .i64 0]) 3 24 Try.underlying27 hi hz0 hz1 hz2 rfl (by decide) _ _ _ rfl (World.ownsRow.alloc HB1.out.2.1 _) ⟨w1.heap.size, 0, none⟩ 1 1 [.int .i64 510, .int .i64 1, .int .i64 3] rfl rfl (cells_three_new _ _ _ _ _) (by simp [Value.oneCell']) (by simp [maxLen]; omega) (by omega) (by simp; omega) ?_; intro v2 w2 hr2 hg2 _; have HB2 : Hid (_ ∧ _ ∧ _) := app_step' HB1.out.1 hb8 HB1.out.2.1 hr2 hg2 hle1; clear hr2 hg2)
                | (at_builtin; refine wpList_append_any (w := wr.alloc _) rfl _ _ 27 rfl (wr.heap.size + 1) 38 i0 (.agg #[.int .i64 0, .int .i64 0, .int .i64 0]) 3 24 Try.underlying27 hi hz0 hz1 hz2 rfl (by decide) _ 0 [] rfl (World.ownsRow_nil _ _ _ _) _ _ _ (rflat (R.take A)) rfl (by have := hTakeL; omega) (fun h0 => absurd h0 (by have := HZ.out; omega)) (rflat_one _) (by simp [maxLen]; omega) (by omega) (by simp) ?_; intro v1 w1 hr1 hg1; obtain ⟨y0, y1, y2, hle1, HB1⟩ := app_first HX.out.1 HX.out.2 hr1 hg1; clear hr1 hg1))
              go_roundw
              case rel => exact ⟨0 + 1, by omega, by go_num, HB3.out.1.trans H4.out⟩
              case measure => simp [intOf]
            · have HM := Hid.mk' (HMID.out ((5, 0, 1)) (by decide) (by unfold bdR; decide))
              have hk0 := Keeps.new wr (.cells #[.int .i64 5, .int .i64 0, .int .i64 1] 38)
              have hbx := (MapKept.heap_alloc wr (.cells #[.int .i64 5, .int .i64 0, .int .i64 1] 38)).1
              have HX := Hid.mk' (And.intro (H11.out.trans hk0) hbx)
              clear hk0 hbx
              go_wp2_with (first
                | (go_at_call 12; refine (HM.out _ (by omega) w3 v3 ⟨_, HB3.out.2⟩).mono ?_; rintro e w4 ⟨rfl, H4⟩)
                | (at_builtin; refine wpList_append_any (w := w2) rfl _ _ 27 rfl (wr.heap.size + 1) 38 i0 (.agg #[.int .i64 0, .int .i64 0, .int .i64 0]) 3 24 Try.underlying27 hi hz0 hz1 hz2 rfl (by decide) _ _ _ rfl HB2.out.2.1 _ _ _ (rflat (R.drop A)) rfl (by have := hDropL; omega) (fun h0 => absurd h0 (by have := HZ.out; omega)) (rflat_one _) (by simp [maxLen]; omega) (by omega) HB2.out.2.2 ?_; intro v3 w3 hr3 hg3; have HB3 : Hid (_ ∧ _) := app_step HB2.out.1 hb8 HB2.out.2.1 hr3 hg3; clear hr3 hg3)
                | (at_builtin; refine wpList_append_own _ rfl _ _ 27 rfl (wr.heap.size + 1) 38 i0 (.agg #[.int .i64 0, .int .i64 0, .int .i64 0]) 3 24 Try.underlying27 hi hz0 hz1 hz2 rfl (by decide) _ _ _ rfl (World.ownsRow.alloc HB1.out.2.1 _) ⟨w1.heap.size, 0, none⟩ 1 1 [.int .i64 5, .int .i64 0, .int .i64 1] rfl rfl (cells_three_new _ _ _ _ _) (by simp [Value.oneCell']) (by simp [maxLen]; omega) (by omega) (by simp; omega) ?_; intro v2 w2 hr2 hg2 _; have HB2 : Hid (_ ∧ _ ∧ _) := app_step' HB1.out.1 hb8 HB1.out.2.1 hr2 hg2 hle1; clear hr2 hg2)
                | (at_builtin; refine wpList_append_any (w := wr.alloc _) rfl _ _ 27 rfl (wr.heap.size + 1) 38 i0 (.agg #[.int .i64 0, .int .i64 0, .int .i64 0]) 3 24 Try.underlying27 hi hz0 hz1 hz2 rfl (by decide) _ 0 [] rfl (World.ownsRow_nil _ _ _ _) _ _ _ (rflat (R.take A)) rfl (by have := hTakeL; omega) (fun h0 => absurd h0 (by have := HZ.out; omega)) (rflat_one _) (by simp [maxLen]; omega) (by omega) (by simp) ?_; intro v1 w1 hr1 hg1; obtain ⟨y0, y1, y2, hle1, HB1⟩ := app_first HX.out.1 HX.out.2 hr1 hg1; clear hr1 hg1))
              go_roundw
              case rel => exact ⟨1 + 1, by omega, by go_num, HB3.out.1.trans H4.out⟩
              case measure => simp [intOf]
            · have HM := Hid.mk' (HMID.out ((5, 1, 0)) (by decide) (by unfold bdR; decide))
              have hk0 := Keeps.new wr (.cells #[.int .i64 5, .int .i64 1, .int .i64 0] 38)
              have hbx := (MapKept.heap_alloc wr (.cells #[.int .i64 5, .int .i64 1, .int .i64 0] 38)).1
              have HX := Hid.mk' (And.intro (H11.out.trans hk0) hbx)
              clear hk0 hbx
              go_wp2_with (first
                | (go_at_call 12; refine (HM.out _ (by omega) w3 v3 ⟨_, HB3.out.2⟩).mono ?_; rintro e w4 ⟨rfl, H4⟩)
                | (at_builtin; refine wpList_append_any (w := w2) rfl _ _ 27 rfl (wr.heap.size + 1) 38 i0 (.agg #[.int .i64 0, .int .i64 0, .int .i64 0]) 3 24 Try.underlying27 hi hz0 hz1 hz2 rfl (by decide) _ _ _ rfl HB2.out.2.1 _ _ _ (rflat (R.drop A)) rfl (by have := hDropL; omega) (fun h0 => absurd h0 (by have := HZ.out; omega)) (rflat_one _) (by simp [maxLen]; omega) (by omega) HB2.out.2.2 ?_; intro v3 w3 hr3 hg3; have HB3 : Hid (_ ∧ _) := app_step HB2.out.1 hb8 HB2.out.2.1 hr3 hg3; clear hr3 hg3)
                | (at_builtin; refine wpList_append_own _ rfl _ _ 27 rfl (wr.heap.size + 1) 38 i0 (.agg #[.int .i64 0, .int .i64 0, .int .i64 0]) 3 24 Try.underlying27 hi hz0 hz1 hz2 rfl (by decide) _ _ _ rfl (World.ownsRow.alloc HB1.out.2.1 _) ⟨w1.heap.size, 0, none⟩ 1 1 [.int .i64 5, .int .i64 1, .int .i64 0] rfl rfl (cells_three_new _ _ _ _ _) (by simp [Value.oneCell']) (by simp [maxLen]; omega) (by omega) (by simp; omega) ?_; intro v2 w2 hr2 hg2 _; have HB2 : Hid (_ ∧ _ ∧ _) := app_step' HB1.out.1 hb8 HB1.out.2.1 hr2 hg2 hle1; clear hr2 hg2)
                | (at_builtin; refine wpList_append_any (w := wr.alloc _) rfl _ _ 27 rfl (wr.heap.size + 1) 38 i0 (.agg #[.int .i64 0, .int .i64 0, .int .i64 0]) 3 24 Try.underlying27 hi hz0 hz1 hz2 rfl (by decide) _ 0 [] rfl (World.ownsRow_nil _ _ _ _) _ _ _ (rflat (R.take A)) rfl (by have := hTakeL; omega) (fun h0 => absurd h0 (by have := HZ.out; omega)) (rflat_one _) (by simp [maxLen]; omega) (by omega) (by simp) ?_; intro v1 w1 hr1 hg1; obtain ⟨y0, y1, y2, hle1, HB1⟩ := app_first HX.out.1 HX.out.2 hr1 hg1; clear hr1 hg1))
              go_roundw
              case rel => exact ⟨2 + 1, by omega, by go_num, HB3.out.1.trans H4.out⟩
              case measure => simp [intOf]
            · have HM := Hid.mk' (HMID.out ((-1, 1, 1)) (by decide) (by unfold bdR; decide))
              have hk0 := Keeps.new wr (.cells #[.int .i64 (-1), .int .i64 1, .int .i64 1] 38)
              have hbx := (MapKept.heap_alloc wr (.cells #[.int .i64 (-1), .int .i64 1, .int .i64 1] 38)).1
              have HX := Hid.mk' (And.intro (H11.out.trans hk0) hbx)
              clear hk0 hbx
              go_wp2_with (first
                | (go_at_call 12; refine (HM.out _ (by omega) w3 v3 ⟨_, HB3.out.2⟩).mono ?_; rintro e w4 ⟨rfl, H4⟩)
                | (at_builtin; refine wpList_append_any (w := w2) rfl _ _ 27 rfl (wr.heap.size + 1) 38 i0 (.agg #[.int .i64 0, .int .i64 0, .int .i64 0]) 3 24 Try.underlying27 hi hz0 hz1 hz2 rfl (by decide) _ _ _ rfl HB2.out.2.1 _ _ _ (rflat (R.drop A)) rfl (by have := hDropL; omega) (fun h0 => absurd h0 (by have := HZ.out; omega)) (rflat_one _) (by simp [maxLen]; omega) (by omega) HB2.out.2.2 ?_; intro v3 w3 hr3 hg3; have HB3 : Hid (_ ∧ _) := app_step HB2.out.1 hb8 HB2.out.2.1 hr3 hg3; clear hr3 hg3)
                | (at_builtin; refine wpList_append_own _ rfl _ _ 27 rfl (wr.heap.size + 1) 38 i0 (.agg #[.int .i64 0, .int .i64 0, .int .i64 0]) 3 24 Try.underlying27 hi hz0 hz1 hz2 rfl (by decide) _ _ _ rfl (World.ownsRow.alloc HB1.out.2.1 _) ⟨w1.heap.size, 0, none⟩ 1 1 [.int .i64 (-1), .int .i64 1, .int .i64 1] rfl rfl (cells_three_new _ _ _ _ _) (by simp [Value.oneCell']) (by simp [maxLen]; omega) (by omega) (by simp; omega) ?_; intro v2 w2 hr2 hg2 _; have HB2 : Hid (_ ∧ _ ∧ _) := app_step' HB1.out.1 hb8 HB1.out.2.1 hr2 hg2 hle1; clear hr2 hg2)
                | (at_builtin; refine wpList_append_any (w := wr.alloc _) rfl _ _ 27 rfl (wr.heap.size + 1) 38 i0 (.agg #[.int .i64 0, .int .i64 0, .int .i64 0]) 3 24 Try.underlying27 hi hz0 hz1 hz2 rfl (by decide) _ 0 [] rfl (World.ownsRow_nil _ _ _ _) _ _ _ (rflat (R.take A)) rfl (by have := hTakeL; omega) (fun h0 => absurd h0 (by have := HZ.out; omega)) (rflat_one _) (by simp [maxLen]; omega) (by omega) (by simp) ?_; intro v1 w1 hr1 hg1; obtain ⟨y0, y1, y2, hle1, HB1⟩ := app_first HX.out.1 HX.out.2 hr1 hg1; clear hr1 hg1))
              go_roundw
              case rel => exact ⟨3 + 1, by omega, by go_num, HB3.out.1.trans H4.out⟩
              case measure => simp [intOf]
            · have HM := Hid.mk' (HMID.out ((1, 1, 9223372036854775807)) (by decide) (by unfold bdR; decide))
              have hk0 := Keeps.new wr (.cells #[.int .i64 1, .int .i64 1, .int .i64 9223372036854775807] 38)
              have hbx := (MapKept.heap_alloc wr (.cells #[.int .i64 1, .int .i64 1, .int .i64 9223372036854775807] 38)).1
              have HX := Hid.mk' (And.intro (H11.out.trans hk0) hbx)
              clear hk0 hbx
              go_wp2_with (first
                | (go_at_call 12; refine (HM.out _ (by omega) w3 v3 ⟨_, HB3.out.2⟩).mono ?_; rintro e w4 ⟨rfl, H4⟩)
                | (at_builtin; refine wpList_append_any (w := w2) rfl _ _ 27 rfl (wr.heap.size + 1) 38 i0 (.agg #[.int .i64 0, .int .i64 0, .int .i64 0]) 3 24 Try.underlying27 hi hz0 hz1 hz2 rfl (by decide) _ _ _ rfl HB2.out.2.1 _ _ _ (rflat (R.drop A)) rfl (by have := hDropL; omega) (fun h0 => absurd h0 (by have := HZ.out; omega)) (rflat_one _) (by simp [maxLen]; omega) (by omega) HB2.out.2.2 ?_; intro v3 w3 hr3 hg3; have HB3 : Hid (_ ∧ _) := app_step HB2.out.1 hb8 HB2.out.2.1 hr3 hg3; clear hr3 hg3)
                | (at_builtin; refine wpList_append_own _ rfl _ _ 27 rfl (wr.heap.size + 1) 38 i0 (.agg #[.int .i64 0, .int .i64 0, .int .i64 0]) 3 24 Try.underlying27 hi hz0 hz1 hz2 rfl (by decide) _ _ _ rfl (World.ownsRow.alloc HB1.out.2.1 _) ⟨w1.heap.size, 0, none⟩ 1 1 [.int .i64 1, .int .i64 1, .int .i64 9223372036854775807] rfl rfl (cells_three_new _ _ _ _ _) (by simp [Value.oneCell']) (by simp [maxLen]; omega) (by omega) (by simp; omega) ?_; intro v2 w2 hr2 hg2 _; have HB2 : Hid (_ ∧ _ ∧ _) := app_step' HB1.out.1 hb8 HB1.out.2.1 hr2 hg2 hle1; clear hr2 hg2)
                | (at_builtin; refine wpList_append_any (w := wr.alloc _) rfl _ _ 27 rfl (wr.heap.size + 1) 38 i0 (.agg #[.int .i64 0, .int .i64 0, .int .i64 0]) 3 24 Try.underlying27 hi hz0 hz1 hz2 rfl (by decide) _ 0 [] rfl (World.ownsRow_nil _ _ _ _) _ _ _ (rflat (R.take A)) rfl (by have := hTakeL; omega) (fun h0 => absurd h0 (by have := HZ.out; omega)) (rflat_one _) (by simp [maxLen]; omega) (by omega) (by simp) ?_; intro v1 w1 hr1 hg1; obtain ⟨y0, y1, y2, hle1, HB1⟩ := app_first HX.out.1 HX.out.2 hr1 hg1; clear hr1 hg1))
              go_roundw
              case rel => exact ⟨4 + 1, by omega, by go_num, HB3.out.1.trans H4.out⟩
              case measure => simp [intOf]
            --ENDNIL
          · by_cases hAc : A = c3
            · obtain rfl : R.length = c3 := by omega
              subst hAc
              rcases (by omega : k = 0 ∨ k = 1 ∨ k = 2 ∨ k = 3 ∨ k = 4) with rfl | rfl | rfl | rfl | rfl
              --CASESEQ
              · have HM := Hid.mk' (HMID.out ((510, 1, 3)) (by decide) (by unfold bdR; decide))
                have hk0 := Keeps.new wr (.cells #[.int .i64 510, .int .i64 1, .int .i64 3] 38)
                have hbx := (MapKept.heap_alloc wr (.cells #[.int .i64 510, .int .i64 1, .int .i64 3] 38)).1
                have HX := Hid.mk' (And.intro (H11.out.trans hk0) hbx)
                clear hk0 hbx
                go_wp2_with (first
                  | (go_at_call 12; refine (HM.out _ (by omega) w3 v3 ⟨_, HB3.out.2⟩).mono ?_; rintro e w4 ⟨rfl, H4⟩)
                  | (at_builtin; refine wpList_append_any (w := w2) rfl _ _ 27 rfl (wr.heap.size + 1) 38 i0 (.agg #[.int .i64 0, .int .i64 0, .int .i64 0]) 3 24 Try.underlying27 hi hz0 hz1 hz2 rfl (by decide) _ _ _ rfl HB2.out.2.1 _ _ _ (rflat (R.drop R.length)) rfl (by have := hDropL; omega) (fun h0 => absurd h0 (by omega)) (rflat_one _) (by simp [maxLen]; omega) (by omega) HB2.out.2.2 ?_; intro v3 w3 hr3 hg3; have HB3 : Hid (_ ∧ _) := app_step HB2.out.1 hb8 HB2.out.2.1 hr3 hg3; clear hr3 hg3)
                  | (at_builtin; refine wpList_append_own _ rfl _ _ 27 rfl (wr.heap.size + 1) 38 i0 (.agg #[.int .i64 0, .int .i64 0, .int .i64 0]) 3 24 Try.underlying27 hi hz0 hz1 hz2 rfl (by decide) _ _ _ rfl (World.ownsRow.alloc HB1.out.2.1 _) ⟨w1.heap.size, 0, none⟩ 1 1 [.int .i64 510, .int .i64 1, .int .i64 3] rfl rfl (cells_three_new _ _ _ _ _) (by simp [Value.oneCell']) (by simp [maxLen]; omega) (by omega) (by simp; omega) ?_; intro v2 w2 hr2 hg2 _; have HB2 : Hid (_ ∧ _ ∧ _) := app_step' HB1.out.1 hb8 HB1.out.2.1 hr2 hg2 hle1; clear hr2 hg2)
                  | (at_builtin; refine wpList_append_any (w := wr.alloc _) rfl _ _ 27 rfl (wr.heap.size + 1) 38 i0 (.agg #[.int .i64 0, .int .i64 0, .int .i64 0]) 3 24 Try.underlying27 hi hz0 hz1 hz2 rfl (by decide) _ 0 [] rfl (World.ownsRow_nil _ _ _ _) _ _ _ (rflat (R.take R.length)) rfl (by have := hTakeL; omega) (hTake _ HX.out.1 gb rfl) (rflat_one _) (by simp [maxLen]; omega) (by omega) (by simp) ?_; intro v1 w1 hr1 hg1; obtain ⟨y0, y1, y2, hle1, HB1⟩ := app_first HX.out.1 HX.out.2 hr1 hg1; clear hr1 hg1))
                go_roundw
                case rel => exact ⟨0 + 1, by omega, by go_num, HB3.out.1.trans H4.out⟩
                case measure => simp [intOf]
              · have HM := Hid.mk' (HMID.out ((5, 0, 1)) (by decide) (by unfold bdR; decide))
                have hk0 := Keeps.new wr (.cells #[.int .i64 5, .int .i64 0, .int .i64 1] 38)
                have hbx := (MapKept.heap_alloc wr (.cells #[.int .i64 5, .int .i64 0, .int .i64 1] 38)).1
                have HX := Hid.mk' (And.intro (H11.out.trans hk0) hbx)
                clear hk0 hbx
                go_wp2_with (first
                  | (go_at_call 12; refine (HM.out _ (by omega) w3 v3 ⟨_, HB3.out.2⟩).mono ?_; rintro e w4 ⟨rfl, H4⟩)
                  | (at_builtin; refine wpList_append_any (w := w2) rfl _ _ 27 rfl (wr.heap.size + 1) 38 i0 (.agg #[.int .i64 0, .int .i64 0, .int .i64 0]) 3 24 Try.underlying27 hi hz0 hz1 hz2 rfl (by decide) _ _ _ rfl HB2.out.2.1 _ _ _ (rflat (R.drop R.length)) rfl (by have := hDropL; omega) (fun h0 => absurd h0 (by omega)) (rflat_one _) (by simp [maxLen]; omega) (by omega) HB2.out.2.2 ?_; intro v3 w3 hr3 hg3; have HB3 : Hid (_ ∧ _) := app_step HB2.out.1 hb8 HB2.out.2.1 hr3 hg3; clear hr3 hg3)
                  | (at_builtin; refine wpList_append_own _ rfl _ _ 27 rfl (wr.heap.size + 1) 38 i0 (.agg #[.int .i64 0, .int .i64 0, .int .i64 0]) 3 24 Try.underlying27 hi hz0 hz1 hz2 rfl (by decide) _ _ _ rfl (World.ownsRow.alloc HB1.out.2.1 _) ⟨w1.heap.size, 0, none⟩ 1 1 [.int .i64 5, .int .i64 0, .int .i64 1] rfl rfl (cells_three_new _ _ _ _ _) (by simp [Value.oneCell']) (by simp [maxLen]; omega) (by omega) (by simp; omega) ?_; intro v2 w2 hr2 hg2 _; have HB2 : Hid (_ ∧ _ ∧ _) := app_step' HB1.out.1 hb8 HB1.out.2.1 hr2 hg2 hle1; clear hr2 hg2)
                  | (at_builtin; refine wpList_append_any (w := wr.alloc _) rfl _ _ 27 rfl (wr.heap.size + 1) 38 i0 (.agg #[.int .i64 0, .int .i64 0, .int .i64 0]) 3 24 Try.underlying27 hi hz0 hz1 hz2 rfl (by decide) _ 0 [] rfl (World.ownsRow_nil _ _ _ _) _ _ _ (rflat (R.take R.length)) rfl (by have := hTakeL; omega) (hTake _ HX.out.1 gb rfl) (rflat_one _) (by simp [maxLen]; omega) (by omega) (by simp) ?_; intro v1 w1 hr1 hg1; obtain ⟨y0, y1, y2, hle1, HB1⟩ := app_first HX.out.1 HX.out.2 hr1 hg1; clear hr1 hg1))
                go_roundw
                case rel => exact ⟨1 + 1, by omega, by go_num, HB3.out.1.trans H4.out⟩
                case measure => simp [intOf]
              · have HM := Hid.mk' (HMID.out ((5, 1, 0)) (by decide) (by unfold bdR; decide))
                have hk0 := Keeps.new wr (.cells #[.int .i64 5, .int .i64 1, .int .i64 0] 38)
                have hbx := (MapKept.heap_alloc wr (.cells #[.int .i64 5, .int .i64 1, .int .i64 0] 38)).1
                have HX := Hid.mk' (And.intro (H11.out.trans hk0) hbx)
                clear hk0 hbx
                go_wp2_with (first
                  | (go_at_call 12; refine (HM.out _ (by omega) w3 v3 ⟨_, HB3.out.2⟩).mono ?_; rintro e w4 ⟨rfl, H4⟩)
                  | (at_builtin; refine wpList_append_any (w := w2) rfl _ _ 27 rfl (wr.heap.size + 1) 38 i0 (.agg #[.int .i64 0, .int .i64 0, .int .i64 0]) 3 24 Try.underlying27 hi hz0 hz1 hz2 rfl (by decide) _ _ _ rfl HB2.out.2.1 _ _ _ (rflat (R.drop R.length)) rfl (by have := hDropL; omega) (fun h0 => absurd h0 (by omega)) (rflat_one _) (by simp [maxLen]; omega) (by omega) HB2.out.2.2 ?_; intro v3 w3 hr3 hg3; have HB3 : Hid (_ ∧ _) := app_step HB2.out.1 hb8 HB2.out.2.1 hr3 hg3; clear hr3 hg3)
                  | (at_builtin; refine wpList_append_own _ rfl _ _ 27 rfl (wr.heap.size + 1) 38 i0 (.agg #[.int .i64 0, .int .i64 0, .int .i64 0]) 3 24 Try.underlying27 hi hz0 hz1 hz2 rfl (by decide) _ _ _ rfl (World.ownsRow.alloc HB1.out.2.1 _) ⟨w1.heap.size, 0, none⟩ 1 1 [.int .i64 5, .int .i64 1, .int .i64 0] rfl rfl (cells_three_new _ _ _ _ _) (by simp [Value.oneCell']) (by simp [maxLen]; omega) (by omega) (by simp; omega) ?_; intro v2 w2 hr2 hg2 _; have HB2 : Hid (_ ∧ _ ∧ _) := app_step' HB1.out.1 hb8 HB1.out.2.1 hr2 hg2 hle1; clear hr2 hg2)
                  | (at_builtin; refine wpList_append_any (w := wr.alloc _) rfl _ _ 27 rfl (wr.heap.size + 1) 38 i0 (.agg #[.int .i64 0, .int .i64 0, .int .i64 0]) 3 24 Try.underlying27 hi hz0 hz1 hz2 rfl (by decide) _ 0 [] rfl (World.ownsRow_nil _ _ _ _) _ _ _ (rflat (R.take R.length)) rfl (by have := hTakeL; omega) (hTake _ HX.out.1 gb rfl) (rflat_one _) (by simp [maxLen]; omega) (by omega) (by simp) ?_; intro v1 w1 hr1 hg1; obtain ⟨y0, y1, y2, hle1, HB1⟩ := app_first HX.out.1 HX.out.2 hr1 hg1; clear hr1 hg1))
                go_roundw
                case rel => exact ⟨2 + 1, by omega, by go_num, HB3.out.1.trans H4.out⟩
                case measure => simp [intOf]
              · have HM := Hid.mk' (HMID.out ((-1, 1, 1)) (by decide) (by unfold bdR; decide))
                have hk0 := Keeps.new wr (.cells #[.int .i64 (-1), .int .i64 1, .int .i64 1] 38)
                have hbx := (MapKept.heap_alloc wr (.cells #[.int .i64 (-1), .int .i64 1, .int .i64 1] 38)).1
                have HX := Hid.mk' (And.intro (H11.out.trans hk0) hbx)
                clear hk0 hbx
                go_wp2_with (first
                  | (go_at_call 12; refine (HM.out _ (by omega) w3 v3 ⟨_, HB3.out.2⟩).mono ?_; rintro e w4 ⟨rfl, H4⟩)
                  | (at_builtin; refine wpList_append_any (w := w2) rfl _ _ 27 rfl (wr.heap.size + 1) 38 i0 (.agg #[.int .i64 0, .int .i64 0, .int .i64 0]) 3 24 Try.underlying27 hi hz0 hz1 hz2 rfl (by decide) _ _ _ rfl HB2.out.2.1 _ _ _ (rflat (R.drop R.length)) rfl (by have := hDropL; omega) (fun h0 => absurd h0 (by omega)) (rflat_one _) (by simp [maxLen]; omega) (by omega) HB2.out.2.2 ?_; intro v3 w3 hr3 hg3; have HB3 : Hid (_ ∧ _) := app_step HB2.out.1 hb8 HB2.out.2.1 hr3 hg3; clear hr3 hg3)
                  | (at_builtin; refine wpList_append_own _ rfl _ _ 27 rfl (wr.heap.size + 1) 38 i0 (.agg #[.int .i64 0, .int .i64 0, .int .i64 0]) 3 24 Try.underlying27 hi hz0 hz1 hz2 rfl (by decide) _ _ _ rfl (World.ownsRow.alloc HB1.out.2.1 _) ⟨w1.heap.size, 0, none⟩ 1 1 [.int .i64 (-1), .int .i64 1, .int .i64 1] rfl rfl (cells_three_new _ _ _ _ _) (by simp [Value.oneCell']) (by simp [maxLen]; omega) (by omega) (by simp; omega) ?_; intro v2 w2 hr2 hg2 _; have HB2 : Hid (_ ∧ _ ∧ _) := app_step' HB1.out.1 hb8 HB1.out.2.1 hr2 hg2 hle1; clear hr2 hg2)
                  | (at_builtin; refine wpList_append_any (w := wr.alloc _) rfl _ _ 27 rfl (wr.heap.size + 1) 38 i0 (.agg #[.int .i64 0, .int .i64 0, .int .i64 0]) 3 24 Try.underlying27 hi hz0 hz1 hz2 rfl (by decide) _ 0 [] rfl (World.ownsRow_nil _ _ _ _) _ _ _ (rflat (R.take R.length)) rfl (by have := hTakeL; omega) (hTake _ HX.out.1 gb rfl) (rflat_one _) (by simp [maxLen]; omega) (by omega) (by simp) ?_; intro v1 w1 hr1 hg1; obtain ⟨y0, y1, y2, hle1, HB1⟩ := app_first HX.out.1 HX.out.2 hr1 hg1; clear hr1 hg1))
                go_roundw
                case rel => exact ⟨3 + 1, by omega, by go_num, HB3.out.1.trans H4.out⟩
                case measure => simp [intOf]
              · have HM := Hid.mk' (HMID.out ((1, 1, 9223372036854775807)) (by decide) (by unfold bdR; decide))
                have hk0 := Keeps.new wr (.cells #[.int .i64 1, .int .i64 1, .int .i64 9223372036854775807] 38)
                have hbx := (MapKept.heap_alloc wr (.cells #[.int .i64 1, .int .i64 1, .int .i64 9223372036854775807] 38)).1
                have HX := Hid.mk' (And.intro (H11.out.trans hk0) hbx)
                clear hk0 hbx
                go_wp2_with (first
                  | (go_at_call 12; refine (HM.out _ (by omega) w3 v3 ⟨_, HB3.out.2⟩).mono ?_; rintro e w4 ⟨rfl, H4⟩)
                  | (at_builtin; refine wpList_append_any (w := w2) rfl _ _ 27 rfl (wr.heap.size + 1) 38 i0 (.agg #[.int .i64 0, .int .i64 0, .int .i64 0]) 3 24 Try.underlying27 hi hz0 hz1 hz2 rfl (by decide) _ _ _ rfl HB2.out.2.1 _ _ _ (rflat (R.drop R.length)) rfl (by have := hDropL; omega) (fun h0 => absurd h0 (by omega)) (rflat_one _) (by simp [maxLen]; omega) (by omega) HB2.out.2.2 ?_; intro v3 w3 hr3 hg3; have HB3 : Hid (_ ∧ _) := app_step HB2.out.1 hb8 HB2.out.2.1 hr3 hg3; clear hr3 hg3)
                  | (at_builtin; refine wpList_append_own _ rfl _ _ 27 rfl (wr.heap.size + 1) 38 i0 (.agg #[.int .i64 0, .int .i64 0, .int .i64 0]) 3 24 Try.underlying27 hi hz0 hz1 hz2 rfl (by decide) _ _ _ rfl (World.ownsRow.alloc HB1.out.2.1 _) ⟨w1.heap.size, 0, none⟩ 1 1 [.int .i64 1, .int .i64 1, .int .i64 9223372036854775807] rfl rfl (cells_three_new _ _ _ _ _) (by simp [Value.oneCell']) (by simp [maxLen]; omega) (by omega) (by simp; omega) ?_; intro v2 w2 hr2 hg2 _; have HB2 : Hid (_ ∧ _ ∧ _) := app_step' HB1.out.1 hb8 HB1.out.2.1 hr2 hg2 hle1; clear hr2 hg2)
                  | (at_builtin; refine wpList_append_any (w := wr.alloc _) rfl _ _ 27 rfl (wr.heap.size + 1) 38 i0 (.agg #[.int .i64 0, .int .i64 0, .int .i64 0]) 3 24 Try.underlying27 hi hz0 hz1 hz2 rfl (by decide) _ 0 [] rfl (World.ownsRow_nil _ _ _ _) _ _ _ (rflat (R.take R.length)) rfl (by have := hTakeL; omega) (hTake _ HX.out.1 gb rfl) (rflat_one _) (by simp [maxLen]; omega) (by omega) (by simp) ?_; intro v1 w1 hr1 hg1; obtain ⟨y0, y1, y2, hle1, HB1⟩ := app_first HX.out.1 HX.out.2 hr1 hg1; clear hr1 hg1))
                go_roundw
                case rel => exact ⟨4 + 1, by omega, by go_num, HB3.out.1.trans H4.out⟩
                case measure => simp [intOf]
              --ENDEQ
            · rcases (by omega : k = 0 ∨ k = 1 ∨ k = 2 ∨ k = 3 ∨ k = 4) with rfl | rfl | rfl | rfl | rfl
              --CASESLT
              · have HM := Hid.mk' (HMID.out ((510, 1, 3)) (by decide) (by unfold bdR; decide))
                have hk0 := Keeps.new wr (.cells #[.int .i64 510, .int .i64 1, .int .i64 3] 38)
                have hbx := (MapKept.heap_alloc wr (.cells #[.int .i64 510, .int .i64 1, .int .i64 3] 38)).1
                have HX := Hid.mk' (And.intro (H11.out.trans hk0) hbx)
                clear hk0 hbx
                go_wp2_with (first
                  | (go_at_call 12; refine (HM.out _ (by omega) w3 v3 ⟨_, HB3.out.2⟩).mono ?_; rintro e w4 ⟨rfl, H4⟩)
                  | (at_builtin; refine wpList_append_any (w := w2) rfl _ _ 27 rfl (wr.heap.size + 1) 38 i0 (.agg #[.int .i64 0, .int .i64 0, .int .i64 0]) 3 24 Try.underlying27 hi hz0 hz1 hz2 rfl (by decide) _ _ _ rfl HB2.out.2.1 _ _ _ (rflat (R.drop A)) rfl (by have := hDropL; omega) (hDrop w2 HB2.out.1 gb rfl) (rflat_one _) (by simp [maxLen]; omega) (by omega) HB2.out.2.2 ?_; intro v3 w3 hr3 hg3; have HB3 : Hid (_ ∧ _) := app_step HB2.out.1 hb8 HB2.out.2.1 hr3 hg3; clear hr3 hg3)
                  | (at_builtin; refine wpList_append_own _ rfl _ _ 27 rfl (wr.heap.size + 1) 38 i0 (.agg #[.int .i64 0, .int .i64 0, .int .i64 0]) 3 24 Try.underlying27 hi hz0 hz1 hz2 rfl (by decide) _ _ _ rfl (World.ownsRow.alloc HB1.out.2.1 _) ⟨w1.heap.size, 0, none⟩ 1 1 [.int .i64 510, .int .i64 1, .int .i64 3] rfl rfl (cells_three_new _ _ _ _ _) (by simp [Value.oneCell']) (by simp [maxLen]; omega) (by omega) (by simp; omega) ?_; intro v2 w2 hr2 hg2 _; have HB2 : Hid (_ ∧ _ ∧ _) := app_step' HB1.out.1 hb8 HB1.out.2.1 hr2 hg2 hle1; clear hr2 hg2)
                  | (at_builtin; refine wpList_append_any (w := wr.alloc _) rfl _ _ 27 rfl (wr.heap.size + 1) 38 i0 (.agg #[.int .i64 0, .int .i64 0, .int .i64 0]) 3 24 Try.underlying27 hi hz0 hz1 hz2 rfl (by decide) _ 0 [] rfl (World.ownsRow_nil _ _ _ _) _ _ _ (rflat (R.take A)) rfl (by have := hTakeL; omega) (hTake _ HX.out.1 gb rfl) (rflat_one _) (by simp [maxLen]; omega) (by omega) (by simp) ?_; intro v1 w1 hr1 hg1; obtain ⟨y0, y1, y2, hle1, HB1⟩ := app_first HX.out.1 HX.out.2 hr1 hg1; clear hr1 hg1))
                go_roundw
                case rel => exact ⟨0 + 1, by omega, by go_num, HB3.out.1.trans H4.out⟩
                case measure => simp [intOf]
              · have HM := Hid.mk' (HMID.out ((5, 0, 1)) (by decide) (by unfold bdR; decide))
                have hk0 := Keeps.new wr (.cells #[.int .i64 5, .int .i64 0, .int .i64 1] 38)
                have hbx := (MapKept.heap_alloc wr (.cells #[.int .i64 5, .int .i64 0, .int .i64 1] 38)).1
                have HX := Hid.mk' (And.intro (H11.out.trans hk0) hbx)
                clear hk0 hbx
                go_wp2_with (first
                  | (go_at_call 12; refine (HM.out _ (by omega) w3 v3 ⟨_, HB3.out.2⟩).mono ?_; rintro e w4 ⟨rfl, H4⟩)
                  | (at_builtin; refine wpList_append_any (w := w2) rfl _ _ 27 rfl (wr.heap.size + 1) 38 i0 (.agg #[.int .i64 0, .int .i64 0, .int .i64 0]) 3 24 Try.underlying27 hi hz0 hz1 hz2 rfl (by decide) _ _ _ rfl HB2.out.2.1 _ _ _ (rflat (R.drop A)) rfl (by have := hDropL; omega) (hDrop w2 HB2.out.1 gb rfl) (rflat_one _) (by simp [maxLen]; omega) (by omega) HB2.out.2.2 ?_; intro v3 w3 hr3 hg3; have HB3 : Hid (_ ∧ _) := app_step HB2.out.1 hb8 HB2.out.2.1 hr3 hg3; clear hr3 hg3)
                  | (at_builtin; refine wpList_append_own _ rfl _ _ 27 rfl (wr.heap.size + 1) 38 i0 (.agg #[.int .i64 0, .int .i64 0, .int .i64 0]) 3 24 Try.underlying27 hi hz0 hz1 hz2 rfl (by decide) _ _ _ rfl (World.ownsRow.alloc HB1.out.2.1 _) ⟨w1.heap.size, 0, none⟩ 1 1 [.int .i64 5, .int .i64 0, .int .i64 1] rfl rfl (cells_three_new _ _ _ _ _) (by simp [Value.oneCell']) (by simp [maxLen]; omega) (by omega) (by simp; omega) ?_; intro v2 w2 hr2 hg2 _; have HB2 : Hid (_ ∧ _ ∧ _) := app_step' HB1.out.1 hb8 HB1.out.2.1 hr2 hg2 hle1; clear hr2 hg2)
                  | (at_builtin; refine wpList_append_any (w := wr.alloc _) rfl _ _ 27 rfl (wr.heap.size + 1) 38 i0 (.agg #[.int .i64 0, .int .i64 0, .int .i64 0]) 3 24 Try.underlying27 hi hz0 hz1 hz2 rfl (by decide) _ 0 [] rfl (World.ownsRow_nil _ _ _ _) _ _ _ (rflat (R.take A)) rfl (by have := hTakeL; omega) (hTake _ HX.out.1 gb rfl) (rflat_one _) (by simp [maxLen]; omega) (by omega) (by simp) ?_; intro v1 w1 hr1 hg1; obtain ⟨y0, y1, y2, hle1, HB1⟩ := app_first HX.out.1 HX.out.2 hr1 hg1; clear hr1 hg1))
                go_roundw
                case rel => exact ⟨1 + 1, by omega, by go_num, HB3.out.1.trans H4.out⟩
                case measure => simp [intOf]
              · have HM := Hid.mk' (HMID.out ((5, 1, 0)) (by decide) (by unfold bdR; decide))
                have hk0 := Keeps.new wr (.cells #[.int .i64 5, .int .i64 1, .int .i64 0] 38)
                have hbx := (MapKept.heap_alloc wr (.cells #[.int .i64 5, .int .i64 1, .int .i64 0] 38)).1
                have HX := Hid.mk' (And.intro (H11.out.trans hk0) hbx)
                clear hk0 hbx
                go_wp2_with (first
                  | (go_at_call 12; refine (HM.out _ (by omega) w3 v3 ⟨_, HB3.out.2⟩).mono ?_; rintro e w4 ⟨rfl, H4⟩)
                  | (at_builtin; refine wpList_append_any (w := w2) rfl _ _ 27 rfl (wr.heap.size + 1) 38 i0 (.agg #[.int .i64 0, .int .i64 0, .int .i64 0]) 3 24 Try.underlying27 hi hz0 hz1 hz2 rfl (by decide) _ _ _ rfl HB2.out.2.1 _ _ _ (rflat (R.drop A)) rfl (by have := hDropL; omega) (hDrop w2 HB2.out.1 gb rfl) (rflat_one _) (by simp [maxLen]; omega) (by omega) HB2.out.2.2 ?_; intro v3 w3 hr3 hg3; have HB3 : Hid (_ ∧ _) := app_step HB2.out.1 hb8 HB2.out.2.1 hr3 hg3; clear hr3 hg3)
                  | (at_builtin; refine wpList_append_own _ rfl _ _ 27 rfl (wr.heap.size + 1) 38 i0 (.agg #[.int .i64 0, .int .i64 0, .int .i64 0]) 3 24 Try.underlying27 hi hz0 hz1 hz2 rfl (by decide) _ _ _ rfl (World.ownsRow.alloc HB1.out.2.1 _) ⟨w1.heap.size, 0, none⟩ 1 1 [.int .i64 5, .int .i64 1, .int .i64 0] rfl rfl (cells_three_new _ _ _ _ _) (by simp [Value.oneCell']) (by simp [maxLen]; omega) (by omega) (by simp; omega) ?_; intro v2 w2 hr2 hg2 _; have HB2 : Hid (_ ∧ _ ∧ _) := app_step' HB1.out.1 hb8 HB1.out.2.1 hr2 hg2 hle1; clear hr2 hg2)
                  | (at_builtin; refine wpList_append_any (w := wr.alloc _) rfl _ _ 27 rfl (wr.heap.size + 1) 38 i0 (.agg #[.int .i64 0, .int .i64 0, .int .i64 0]) 3 24 Try.underlying27 hi hz0 hz1 hz2 rfl (by decide) _ 0 [] rfl (World.ownsRow_nil _ _ _ _) _ _ _ (rflat (R.take A)) rfl (by have := hTakeL; omega) (hTake _ HX.out.1 gb rfl) (rflat_one _) (by simp [maxLen]; omega) (by omega) (by simp) ?_; intro v1 w1 hr1 hg1; obtain ⟨y0, y1, y2, hle1, HB1⟩ := app_first HX.out.1 HX.out.2 hr1 hg1; clear hr1 hg1))
                go_roundw
                case rel => exact ⟨2 + 1, by omega, by go_num, HB3.out.1.trans H4.out⟩
                case measure => simp [intOf]
              · have HM := Hid.mk' (HMID.out ((-1, 1, 1)) (by decide) (by unfold bdR; decide))
                have hk0 := Keeps.new wr (.cells #[.int .i64 (-1), .int .i64 1, .int .i64 1] 38)
                have hbx := (MapKept.heap_alloc wr (.cells #[.int .i64 (-1), .int .i64 1, .int .i64 1] 38)).1
                have HX := Hid.mk' (And.intro (H11.out.trans hk0) hbx)
                clear hk0 hbx
                go_wp2_with (first
                  | (go_at_call 12; refine (HM.out _ (by omega) w3 v3 ⟨_, HB3.out.2⟩).mono ?_; rintro e w4 ⟨rfl, H4⟩)
                  | (at_builtin; refine wpList_append_any (w := w2) rfl _ _ 27 rfl (wr.heap.size + 1) 38 i0 (.agg #[.int .i64 0, .int .i64 0, .int .i64 0]) 3 24 Try.underlying27 hi hz0 hz1 hz2 rfl (by decide) _ _ _ rfl HB2.out.2.1 _ _ _ (rflat (R.drop A)) rfl (by have := hDropL; omega) (hDrop w2 HB2.out.1 gb rfl) (rflat_one _) (by simp [maxLen]; omega) (by omega) HB2.out.2.2 ?_; intro v3 w3 hr3 hg3; have HB3 : Hid (_ ∧ _) := app_step HB2.out.1 hb8 HB2.out.2.1 hr3 hg3; clear hr3 hg3)
                  | (at_builtin; refine wpList_append_own _ rfl _ _ 27 rfl (wr.heap.size + 1) 38 i0 (.agg #[.int .i64 0, .int .i64 0, .int .i64 0]) 3 24 Try.underlying27 hi hz0 hz1 hz2 rfl (by decide) _ _ _ rfl (World.ownsRow.alloc HB1.out.2.1 _) ⟨w1.heap.size, 0, none⟩ 1 1 [.int .i64 (-1), .int .i64 1, .int .i64 1] rfl rfl (cells_three_new _ _ _ _ _) (by simp [Value.oneCell']) (by simp [maxLen]; omega) (by omega) (by simp; omega) ?_; intro v2 w2 hr2 hg2 _; have HB2 : Hid (_ ∧ _ ∧ _) := app_step' HB1.out.1 hb8 HB1.out.2.1 hr2 hg2 hle1; clear hr2 hg2)
                  | (at_builtin; refine wpList_append_any (w := wr.alloc _) rfl _ _ 27 rfl (wr.heap.size + 1) 38 i0 (.agg #[.int .i64 0, .int .i64 0, .int .i64 0]) 3 24 Try.underlying27 hi hz0 hz1 hz2 rfl (by decide) _ 0 [] rfl (World.ownsRow_nil _ _ _ _) _ _ _ (rflat (R.take A)) rfl (by have := hTakeL; omega) (hTake _ HX.out.1 gb rfl) (rflat_one _) (by simp [maxLen]; omega) (by omega) (by simp) ?_; intro v1 w1 hr1 hg1; obtain ⟨y0, y1, y2, hle1, HB1⟩ := app_first HX.out.1 HX.out.2 hr1 hg1; clear hr1 hg1))
                go_roundw
                case rel => exact ⟨3 + 1, by omega, by go_num, HB3.out.1.trans H4.out⟩
                case measure => simp [intOf]
              · have HM := Hid.mk' (HMID.out ((1, 1, 9223372036854775807)) (by decide) (by unfold bdR; decide))
                have hk0 := Keeps.new wr (.cells #[.int .i64 1, .int .i64 1, .int .i64 9223372036854775807] 38)
                have hbx := (MapKept.heap_alloc wr (.cells #[.int .i64 1, .int .i64 1, .int .i64 9223372036854775807] 38)).1
                have HX := Hid.mk' (And.intro (H11.out.trans hk0) hbx)
                clear hk0 hbx
                go_wp2_with (first
                  | (go_at_call 12; refine (HM.out _ (by omega) w3 v3 ⟨_, HB3.out.2⟩).mono ?_; rintro e w4 ⟨rfl, H4⟩)
                  | (at_builtin; refine wpList_append_any (w := w2) rfl _ _ 27 rfl (wr.heap.size + 1) 38 i0 (.agg #[.int .i64 0, .int .i64 0, .int .i64 0]) 3 24 Try.underlying27 hi hz0 hz1 hz2 rfl (by decide) _ _ _ rfl HB2.out.2.1 _ _ _ (rflat (R.drop A)) rfl (by have := hDropL; omega) (hDrop w2 HB2.out.1 gb rfl) (rflat_one _) (by simp [maxLen]; omega) (by omega) HB2.out.2.2 ?_; intro v3 w3 hr3 hg3; have HB3 : Hid (_ ∧ _) := app_step HB2.out.1 hb8 HB2.out.2.1 hr3 hg3; clear hr3 hg3)
                  | (at_builtin; refine wpList_append_own _ rfl _ _ 27 rfl (wr.heap.size + 1) 38 i0 (.agg #[.int .i64 0, .int .i64 0, .int .i64 0]) 3 24 Try.underlying27 hi hz0 hz1 hz2 rfl (by decide) _ _ _ rfl (World.ownsRow.alloc HB1.out.2.1 _) ⟨w1.heap.size, 0, none⟩ 1 1 [.int .i64 1, .int .i64 1, .int .i64 9223372036854775807] rfl rfl (cells_three_new _ _ _ _ _) (by simp [Value.oneCell']) (by simp [maxLen]; omega) (by omega) (by simp; omega) ?_; intro v2 w2 hr2 hg2 _; have HB2 : Hid (_ ∧ _ ∧ _) := app_step' HB1.out.1 hb8 HB1.out.2.1 hr2 hg2 hle1; clear hr2 hg2)
                  | (at_builtin; refine wpList_append_any (w := wr.alloc _) rfl _ _ 27 rfl (wr.heap.size + 1) 38 i0 (.agg #[.int .i64 0, .int .i64 0, .int .i64 0]) 3 24 Try.underlying27 hi hz0 hz1 hz2 rfl (by decide) _ 0 [] rfl (World.ownsRow_nil _ _ _ _) _ _ _ (rflat (R.take A)) rfl (by have := hTakeL; omega) (hTake _ HX.out.1 gb rfl) (rflat_one _) (by simp [maxLen]; omega) (by omega) (by simp) ?_; intro v1 w1 hr1 hg1; obtain ⟨y0, y1, y2, hle1, HB1⟩ := app_first HX.out.1 HX.out.2 hr1 hg1; clear hr1 hg1))
                go_roundw
                case rel => exact ⟨4 + 1, by omega, by go_num, HB3.out.1.trans H4.out⟩
                case measure => simp [intOf]
              --ENDLT
        · have h5' : ¬ (k : Int) < 5 := by omega
          go_wp2
          go_ret
          exact ⟨rfl, H4.out.1.1.trans H11.out⟩

end Go.Proofs.Ytndojlacdggfcab
