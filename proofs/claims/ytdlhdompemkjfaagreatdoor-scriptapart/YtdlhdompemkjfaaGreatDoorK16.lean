import Derived.Test.YtdlhdompemkjfaaGreatDoorK15
namespace Go.Proofs.YtdlhdompemkjfaaGreatDoor
open Go.RowKit Go.Maps
set_option maxRecDepth 100000

/-- The kind that a word names. -/
def kdOf (x : ByteArray) : Option Kd := kds.find? fun k => k.word.toList == x.toList
def kindOf (ws : List Wd) : Option Kd := match ws with
  | [] => none
  | x :: _ => if x.quoted = true then none else kdOf x.text
theorem kd_rows (W : World) (g : Nat) (h : KdsAt W g) (i : Nat) (hi : i < 21) : ∃ k v, kds[i]? = some k ∧ W.rangeAt g (i * 3) (kcell k.num k.word v).toList ∧ ArgsAt W v k.args := by
  have hl : kds.length = 21 := rfl
  obtain ⟨k, hk⟩ : ∃ k, kds[i]? = some k := ⟨kds[i]'(by omega), List.getElem?_eq_getElem (by omega)⟩
  obtain ⟨c0, c1, v, c2, ha⟩ := h.2 i k hk
  refine ⟨k, v, hk, ?_, ha⟩
  rw [Nat.mul_comm]
  intro j u hj
  match j, hj with
  | 0, hj => cases Option.some.inj hj; exact c0
  | 1, hj => cases Option.some.inj hj; exact c1
  | 2, hj => cases Option.some.inj hj; exact c2
  | j + 3, hj => simp [kcell] at hj
theorem find_take {α : Type} {p : α → Bool} {l : List α} {i : Nat} {a : α} (h : l[i]? = some a) (hn : (l.take i).find? p = none) (hp : p a = false) : (l.take (i + 1)).find? p = none := by
  rw [List.take_add_one, h, List.find?_append, hn]
  simp [hp]
theorem find_hit {α : Type} {p : α → Bool} {l : List α} {i : Nat} {a : α} (h : l[i]? = some a) (hn : (l.take i).find? p = none) (hp : p a = true) : l.find? p = some a := by
  have hlt := (List.getElem?_eq_some_iff.1 h).1
  rw [← List.take_append_drop (i + 1) l, List.take_add_one, h, List.find?_append, List.find?_append, hn]
  simp [hp]

theorem kzero_one : kzero.all (·.oneCell') = true := by simp [kzero, Value.oneCell']
theorem wpList_alloc_kd {ops : Array Oper} {rest : List Oper} {o : Oper} {a : Act} {w : World} {Q : Exit → Act → World → Prop} (hg : o.guard = none) (ho : o.op = .alloc 63)
    (h : wpList Tryz.prog ops Q rest (a.put o.dst (.pointer (some ⟨w.heap.size, 0, none⟩))) (w.alloc (.cells kzero 63))) : wpList Tryz.prog ops Q (o :: rest) a w := by
  refine wpList_plain hg fun K hK => ?_
  have hz := (zero_of_info (P := Tryz.prog) (t := 63) (v := .agg kzero) (n := 3) (by kernel_rfl)).1
  unfold Oper.wp execOp
  simp [ho, Instr.alloc, hz, newVar, newRow, Value.cells, Result.andThen]
  exact hK _ _ h

theorem ArgsAt.avoid {W W' : World} {v : Value} {l : List Ar} {g : Nat} (h : ArgsAt W v l) (hb : W.heap[g]? = some (.cells kzero 63 (0, 0))) (k : Keeps (fun q => q = g) W W') : ArgsAt W' v l := by
  obtain ⟨p, c, rfl, hc, hr⟩ := id h
  refine ⟨p, c, rfl, hc, fun h0 => ?_⟩
  obtain ⟨b, o, rfl, hlt, hcell⟩ := hr h0
  have hne : ¬ b = g := by
    rintro rfl
    cases l with
    | nil => exact absurd h0 (by simp)
    | cons a l =>
      have h1 : W.cell? ⟨b, o + 0, none⟩ = some (.bool a.quo) := hcell 0 _ rfl
      simp only [World.cell?, hb, Nat.add_zero] at h1
      match o, h1 with
      | 0, h1 => cases h1
      | 1, h1 => cases h1
      | 2, h1 => cases h1
      | o + 3, h1 => simp [kzero] at h1
  exact ⟨b, o, rfl, Nat.lt_of_lt_of_le hlt k.size, fun j u hj => k.cell (hcell j u hj) hne⟩
theorem wpList_load_kd {ops : Array Oper} {rest : List Oper} {o : Oper} {a : Act} {W : World} {Q : Exit → Act → World → Prop} (hgd : o.guard = none) (x : Operand) (ho : o.op = .load 63 x) (b off : Nat) (n : Int) (s : ByteArray) (v : Value) (hx : a.eval x = .pointer (some ⟨b, off, none⟩)) (hc : W.rangeAt b off (kcell n s v).toList)
    (h : wpList Tryz.prog ops Q rest (a.put o.dst (.agg (kcell n s v))) W) : wpList Tryz.prog ops Q (o :: rest) a W :=
  wpList_load_mid hgd 63 x ho b off hx (kcell n s v).toList _ hc Tryz.underlying63 rfl size63 h
theorem wpList_store_kd {ops : Array Oper} {rest : List Oper} {o : Oper} {a : Act} {W : World} {Q : Exit → Act → World → Prop} (hgd : o.guard = none) (x y : Operand) (ho : o.op = .store 63 x y) (n : Int) (s : ByteArray) (p : Option Addr) (l c : Nat) (hx : a.eval x = .pointer (some ⟨W.heap.size, 0, none⟩)) (hy : a.eval y = .agg (kcell n s (.slice p l c)))
    (h : wpList Tryz.prog ops Q rest (a.put o.dst undef) (W.alloc (.cells (kcell n s (.slice p l c)) 63))) : wpList Tryz.prog ops Q (o :: rest) a (W.alloc (.cells kzero 63)) := by
  refine wpList_store_row hgd 63 x y ho W.heap.size (kcell n s (.slice p l c)) hx hy 63 kzero (heap_last W _) size63 rfl (by simp [kcell, Value.oneCell']) ?_
  rw [World.setRow_alloc_new]; exact h

set_option maxHeartbeats 4000000 in
theorem kindOf_any (w : World) (vw : Value) (ws : List Wd) (hw : Row w vw ws.length (wcells ws)) (hws : ws.length ≤ 1000000) :
    Calls Tryz.prog 31 #[vw] w fun e w' => ∃ n s p l c, e = .returned (.tuple #[.agg (kcell n s (.slice p l c)), .bool (kindOf ws).isSome]) ∧ Hid (Keeps (fun _ => False) w w' ∧ ∀ k, kindOf ws = some k → n = k.num ∧ s = k.word ∧ ArgsAt w' (.slice p l c) k.args) := by
  obtain ⟨pw, cw, rfl, hcw, _⟩ := id hw
  have HW := Hid.mk' hw
  have h32 := kinds_any
  clear hw
  have HKz := Hid.mk' ((Keeps.refl (fun _ => False) w).alloc (.cells kzero 63))
  cases ws with
  | nil =>
    have hnl : (([] : List Wd).length : Int) = 0 := rfl
    go_enter Tryz.func31, Tryz.ntmps31
    have S0 := Hid.mk' True.intro
    go_wp2_with (first
      | (clear S0; refine wpList_alloc_kd rfl rfl ?_; have S1 := Hid.mk' True.intro)
      | (clear S1; refine wpList_buildTo rfl 63 _ rfl _ rfl kzero (by kernel_rfl) ?_; have S2 := Hid.mk' True.intro)
      | (clear S2; refine wpList_store_row rfl 63 _ _ rfl w.heap.size kzero (by rfl) (by rfl) 63 kzero (heap_last w _) size63 rfl kzero_one ?_; have S3 := Hid.mk' True.intro))
    exact bodyPost_ret (results_cell_slot rfl _ _ w.heap.size 63 kzero (0, 0) _ rfl (setRow_heap _ _ _ _ _ _ (heap_last w _)) Tryz.underlying63 rfl size63) rfl ⟨0, ⟨#[]⟩, none, 0, 0, rfl, HKz.out.setRow _ _ (Or.inl (Nat.le_refl _)), fun k hk => by cases hk⟩
  | cons x xs =>
    obtain ⟨b, o, hpw, hb, hr⟩ := HW.out.word (i := 0) (x := x) rfl
    subst hpw
    have c0 : w.cell? ⟨b, o, none⟩ = some (.string x.text) := hr 0 _ rfl
    have c1 : w.cell? ⟨b, o + 1, none⟩ = some (.bool x.quoted) := hr 1 _ rfl
    have d0 := HKz.out.cell c0 id
    have d1 := HKz.out.cell c1 id
    have hlen : ¬ (((x :: xs).length : Int) = 0) := by simp only [List.length_cons]; omega
    have hpos : (0 : Int) < ((x :: xs).length : Int) := by simp only [List.length_cons]; omega
    generalize hL : (x :: xs).length = L at *
    cases hq : x.quoted with
    | true =>
      have hk : kindOf (x :: xs) = none := if_pos hq
      rw [hk]
      rw [hq] at c1 d1
      go_enter Tryz.func31, Tryz.ntmps31
      have S0 := Hid.mk' True.intro
      go_wp2_with (first
        | (clear S0; refine wpList_alloc_kd rfl rfl ?_; have S1 := Hid.mk' True.intro)
        | (clear S1; refine wpList_buildTo rfl 63 _ rfl _ rfl kzero (by kernel_rfl) ?_; have S2 := Hid.mk' True.intro)
        | (clear S2; refine wpList_store_row rfl 63 _ _ rfl w.heap.size kzero (by rfl) (by rfl) 63 kzero (heap_last w _) size63 rfl kzero_one ?_; have S3 := Hid.mk' True.intro))
      exact bodyPost_ret (results_cell_slot rfl _ _ w.heap.size 63 kzero (0, 0) _ rfl (setRow_heap _ _ _ _ _ _ (heap_last w _)) Tryz.underlying63 rfl size63) rfl ⟨0, ⟨#[]⟩, none, 0, 0, rfl, HKz.out.setRow _ _ (Or.inl (Nat.le_refl _)), fun k hk => by cases hk⟩
    | false =>
      have hk : kindOf (x :: xs) = kdOf x.text := if_neg (by rw [hq]; decide)
      rw [hk]
      rw [hq] at c1 d1
      clear hk c0 c1
      go_enter Tryz.func31, Tryz.ntmps31
      have S0 := Hid.mk' True.intro
      go_wp2_with (first
        | (clear S0; refine wpList_alloc_kd rfl rfl ?_; have S1 := Hid.mk' True.intro)
        | (clear S1; go_at_call 34; refine (h32 _).mono ?_; clear h32; rintro e w1 ⟨g, rfl, h1⟩; have H1 := Hid.mk' h1; clear h1; have S2 := Hid.mk' True.intro))
      go_loopw [18] (fun i wr => ∃ k : Nat, k ≤ 21 ∧ i = .int .i64 k ∧ Hid ((kds.take k).find? (fun d => d.word.toList == x.text.toList) = none ∧ Keeps (fun _ => False) w1 wr)) (fun i _ => 21 - (intOf i).toNat)
      case atStart => exact ⟨0, by omega, rfl, rfl, Keeps.refl _ _⟩
      case round =>
        obtain ⟨k, hk, rfl, HI⟩ := hrel
        clear S2
        have HK2 := Hid.mk' (H1.out.2.trans HI.out.2)
        by_cases h1 : k < 21
        · have h1' : (k : Int) < 21 := by omega
          obtain ⟨d, v, hd, hr2, hav⟩ := kd_rows wr g (H1.out.1.keep HI.out.2) k h1
          obtain ⟨p, c, rfl, _⟩ := hav.shape
          have HD := Hid.mk' hd
          have HR := Hid.mk' hr2
          have HAV := Hid.mk' hav
          have HX := Hid.mk' ((Keeps.refl (fun _ => False) wr).alloc (.cells (kcell d.num d.word (.slice p d.args.length c)) 63))
          have n1 := new_cell wr (kcell d.num d.word (.slice p d.args.length c)) 63 1 (.string d.word) rfl
          have e0 := HX.out.cell (HK2.out.cell d0 id) id
          have HB := Hid.mk' (HX.out.at (HK2.out.at (heap_last w _) id) id)
          have HN := Hid.mk' (heap_last wr (.cells (kcell d.num d.word (.slice p d.args.length c)) 63))
          clear hd hr2 hav
          rcases Bool.eq_false_or_eq_true (d.word.toList == x.text.toList) with hw2 | hw2
          · have HE := Hid.mk' (find_hit HD.out HI.out.1 hw2)
            have S0 := Hid.mk' True.intro
            go_wp2_with (first
              | (clear S0; refine wpList_load_kd rfl _ rfl g (k * 3) _ _ _ (by rfl) HR.out ?_; have S1 := Hid.mk' True.intro)
              | (clear S1; refine wpList_alloc_kd rfl rfl ?_; have S2 := Hid.mk' True.intro)
              | (clear S2; refine wpList_store_kd rfl _ _ rfl d.num d.word p d.args.length c (by rfl) (by rfl) ?_; have S3 := Hid.mk' True.intro))
            simp only [Act.put, List.setIfInBounds_toArray, List.set_cons_zero, List.set_cons_succ]
            go_quiet (fail)
            go_wp2_with (first
              | (clear S3; refine wpList_load_row rfl 63 (.tmp 5) rfl wr.heap.size (by rfl) 63 (kcell d.num d.word (.slice p d.args.length c)) (0, 0) _ ((Keeps.drewN (fun _ => False) _ _).at HN.out id) Tryz.underlying63 rfl size63 ?_; have S4 := Hid.mk' True.intro)
              | (clear S4; refine wpList_store_row rfl 63 (.tmp 2) _ rfl w.heap.size (kcell d.num d.word (.slice p d.args.length c)) (by rfl) (by rfl) 63 kzero ((Keeps.drewN (fun _ => False) _ _).at HB.out id) size63 rfl (by simp [kcell, Value.oneCell']) ?_; have S5 := Hid.mk' True.intro))
            have hE2 : kdOf x.text = some d := HE.out
            have kD := Keeps.drewN (fun _ => False) (wr.alloc (.cells (kcell d.num d.word (.slice p d.args.length c)) 63)) nq
            have kS := Keeps.setRow (X := fun q => q = w.heap.size) (Keeps.refl _ ((wr.alloc (.cells (kcell d.num d.word (.slice p d.args.length c)) 63)).drewN nq)) w.heap.size (kcell d.num d.word (.slice p d.args.length c)) (Or.inr rfl)
            rw [hE2]
            refine bodyPost_ret (results_cell_slot rfl _ _ w.heap.size 63 (kcell d.num d.word (.slice p d.args.length c)) (0, 0) _ rfl (setRow_heap _ _ _ _ _ _ (kD.at HB.out id)) Tryz.underlying63 rfl size63) rfl ⟨d.num, d.word, p, d.args.length, c, rfl, ?_, ?_⟩
            · exact (((HKz.out.trans HK2.out).trans HX.out).trans kD).setRow _ _ (Or.inl (Nat.le_refl _))
            · intro k hk
              cases hk
              exact ⟨rfl, rfl, ((HAV.out.keep HX.out).keep kD).avoid (kD.at HB.out id) kS⟩
          · have HE := Hid.mk' (find_take HD.out HI.out.1 hw2)
            have S0 := Hid.mk' True.intro
            go_wp2_with (first
              | (clear S0; refine wpList_load_kd rfl _ rfl g (k * 3) _ _ _ (by rfl) HR.out ?_; have S1 := Hid.mk' True.intro)
              | (clear S1; refine wpList_alloc_kd rfl rfl ?_; have S2 := Hid.mk' True.intro)
              | (clear S2; refine wpList_store_kd rfl _ _ rfl d.num d.word p d.args.length c (by rfl) (by rfl) ?_; have S3 := Hid.mk' True.intro))
            simp only [Act.put, List.setIfInBounds_toArray, List.set_cons_zero, List.set_cons_succ]
            go_quiet (fail)
            go_wp2
            go_roundw
            case rel => exact ⟨k + 1, by omega, by go_num, HE.out, (HI.out.2.trans HX.out).trans (Keeps.drewN _ _ _)⟩
            case measure => simp [intOf]; omega
        · have h1' : ¬ (k : Int) < 21 := by omega
          have hk21 : k = 21 := by omega
          have HE : Hid (kdOf x.text = none) := by have := HI.out.1; rw [List.take_of_length_le (by rw [hk21]; exact Nat.le_refl 21)] at this; exact this
          have HB := Hid.mk' (HK2.out.at (heap_last w _) id)
          clear hk21
          have S0 := Hid.mk' True.intro
          go_wp2_with (first
            | (clear S0; refine wpList_buildTo rfl 63 _ rfl _ rfl kzero (by kernel_rfl) ?_; have S1 := Hid.mk' True.intro)
            | (clear S1; refine wpList_store_row rfl 63 _ _ rfl w.heap.size kzero (by rfl) (by rfl) 63 kzero HB.out size63 rfl kzero_one ?_; have S2 := Hid.mk' True.intro))
          rw [HE.out]
          exact bodyPost_ret (results_cell_slot rfl _ _ w.heap.size 63 kzero (0, 0) _ rfl (setRow_heap _ _ _ _ _ _ HB.out) Tryz.underlying63 rfl size63) rfl ⟨0, ⟨#[]⟩, none, 0, 0, rfl, (HKz.out.trans HK2.out).setRow _ _ (Or.inl (Nat.le_refl _)), fun k hk => by cases hk⟩
end Go.Proofs.YtdlhdompemkjfaaGreatDoor
