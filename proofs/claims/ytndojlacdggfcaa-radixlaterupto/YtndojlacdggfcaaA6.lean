import Derived.Test.YtndojlacdggfcaaA5
namespace Go.Proofs.Ytndojlacdggfcaa
open Go.RowKit

/-- What is below off alone; first: the first offset. -/
def cutF (f : Nat → Int) (first : Nat) (off : Int) : Nat → Int := fun o => if ((first + o : Nat) : Int) < off then f o else 0

theorem cutF_sub (f : Nat → Int) (first : Nat) (off : Int) (M : Nat) : (fun o => cutF f first off (M + o)) = cutF (fun o => f (M + o)) (first + M) off := by
  funext o; simp only [cutF, Nat.add_assoc]

/-- Where the loop of below stands. -/
structure BelowSt (w : World) (X : Nat → Prop) (k R first : Nat) (off : Int) (f : Nat → Int) (i : Nat) (wr : World) (q : Nat → Option Addr) (u : Nat → Int) : Prop where
  node : NodeAt wr (w.heap.size + 2) q u
  res : wr.heap[w.heap.size + 1]? = some (.cells #[.pointer none, .int .i64 0] 71 (0, 0))
  size : w.heap.size + 3 ≤ wr.heap.size
  keeps : Keeps (fun _ => False) w wr
  slot : ∀ j, j < 8 → SlotAt wr (fun c => (X c ∧ c < w.heap.size) ∨ w.heap.size + 3 ≤ c) k (q j) (u j) (if j < i then fun o => cutF f first off (j * R + o) else fun o => f (j * R + o))

theorem BelowSt.next {w : World} {X : Nat → Prop} {k R first : Nat} {off : Int} {f : Nat → Int} {i : Nat} {wr w4 : World} {q : Nat → Option Addr} {u : Nat → Int} {p' : Option Addr} {v' : Int} (h : BelowSt w X k R first off f i wr q u) (hi : i < 8)
    (hk : Keeps (fun _ => False) wr w4)
    (hs : SlotAt w4 (fun c => ((X c ∧ c < w.heap.size) ∨ w.heap.size + 3 ≤ c) ∨ wr.heap.size ≤ c) k p' v' (cutF (fun o => f (i * R + o)) (first + i * R) off)) :
    BelowSt w X k R first off f (i + 1) ((w4.setCell ⟨w.heap.size + 2, i * 2, none⟩ (.pointer p')).setCell ⟨w.heap.size + 2, i * 2 + 1, none⟩ (.int .i64 v')) (setq q i p') (upd u i v') := by
  have hsk := set_keeps w4 (w.heap.size + 2) (i * 2) (i * 2 + 1) (.pointer p') (.int .i64 v')
  have h0 : ∀ {c : Nat} {Q : Prop}, (Q ∧ c < w.heap.size) ∨ w.heap.size + 3 ≤ c → ¬ c = w.heap.size + 2 := by intro c Q h; omega
  have hr5 := (hk.mono (Y := fun c => c = w.heap.size + 2) (fun _ _ h => h.elim)).trans hsk
  refine ⟨set_node (hk.at h.node id) i hi p' v', hsk.at (hk.at h.res id) (by omega), Nat.le_trans (Nat.le_trans h.size hk.size) hsk.size, (h.keeps.trans hk).then hsk (by intro c hc; right; omega), fun j hj => ?_⟩
  by_cases hji : j = i
  · subst hji
    simp only [setq, upd, if_pos, Nat.lt_succ_self, cutF_sub]
    refine hs.keepX fun c _ _ hx hn => ?_
    have hy : (X c ∧ c < w.heap.size) ∨ w.heap.size + 3 ≤ c := by
      rcases hx with hx | hx
      · exact hx
      · right; have := h.size; omega
    exact ⟨hy, hsk.at hn (h0 hy)⟩
  · have e1 : (if j < i + 1 then fun o => cutF f first off (j * R + o) else fun o => f (j * R + o)) = (if j < i then fun o => cutF f first off (j * R + o) else fun o => f (j * R + o)) := by
      by_cases hlt : j < i
      · rw [if_pos hlt, if_pos (by omega)]
      · rw [if_neg hlt, if_neg (by omega)]
    simp only [setq, upd, if_neg hji, e1]
    exact (h.slot j hj).keepX fun c _ _ hx hn => ⟨hx, hr5.at hn (h0 hx)⟩

set_option maxRecDepth 100000 in
set_option maxHeartbeats 2000000 in
theorem below_any (k : Nat) : ∀ (p : Option Addr) (v : Int) (f : Nat → Int) (first : Nat) (off : Int) (w : World) (X : Nat → Prop), k ≤ 3 → SlotAt w X k p v f → first + 8 ^ k ≤ 512 →
    Calls Try.prog 34 #[.agg #[.pointer p, .int .i64 v], .int .i64 first, .int .i64 ((8 ^ k : Nat) : Int), .int .i64 off] w fun e w' => ∃ p' v', e = .returned (.agg #[.pointer p', .int .i64 v']) ∧ Keeps (fun _ => False) w w' ∧
      SlotAt w' (fun b => X b ∨ w.heap.size ≤ b) k p' v' (cutF f first off) := by
  induction k with
  | zero =>
    intro p v f first off w X _ hs ho
    obtain ⟨rfl, rfl⟩ := hs
    rw [show ((8 ^ 0 : Nat) : Int) = 1 from rfl]
    by_cases hge : off ≤ (first : Int)
    · go_enter Try.func34, Try.ntmps34
      go_wp2_with fail
      refine bodyPost_ret (results_cell_row rfl _ _ (w.heap.size + 1) 71 _ (0, 0) _ rfl (heap_alloc2_new w _ _) Try.underlying71 rfl (by kernel_rfl)) rfl ?_
      exact ⟨none, 0, rfl, (Keeps.new w _).trans (Keeps.new _ _), rfl, by simp only [cutF]; rw [if_neg (by omega)]⟩
    · have hlt : (first : Int) < off := by omega
      go_enter Try.func34, Try.ntmps34
      go_wp2_with fail
      refine bodyPost_ret (results_cell_row rfl _ _ (w.heap.size + 1) 71 _ (0, 0) _ rfl (heap_alloc2_new w _ _) Try.underlying71 rfl (by kernel_rfl)) rfl ?_
      exact ⟨none, f 0, rfl, (Keeps.new w _).trans (Keeps.new _ _), rfl, by simp only [cutF]; rw [if_pos (by omega)]⟩
  | succ k ih =>
    intro p v f first off w X hk hs ho
    have hp0 := pow_le k (by omega)
    have hd := pow_div k
    have hR1 : 1 ≤ 8 ^ k := Nat.pow_pos (by decide)
    obtain ⟨R, hR⟩ : ∃ R, 8 ^ k = R := ⟨_, rfl⟩
    obtain ⟨R8, hR8⟩ : ∃ R, 8 ^ (k + 1) = R := ⟨_, rfl⟩
    have E8 := Hid.mk' (show R8 = R * 8 by rw [← hR8, Nat.pow_succ, hR])
    rw [hR] at hp0 hd hR1
    rw [hR8] at hd ho ⊢
    by_cases hge : off ≤ (first : Int)
    · clear ih
      go_enter Try.func34, Try.ntmps34
      go_wp2_with fail
      refine bodyPost_ret (results_cell_row rfl _ _ (w.heap.size + 1) 71 _ (0, 0) _ rfl (heap_alloc2_new w _ _) Try.underlying71 rfl (by kernel_rfl)) rfl ?_
      exact ⟨none, 0, rfl, (Keeps.new w _).trans (Keeps.new _ _), SlotAt.zeros fun o _ => by simp only [cutF]; rw [if_neg (by omega)]⟩
    · have hlt : (first : Int) < off := by omega
      obtain ⟨rfl, ⟨rfl, hz⟩ | ⟨b, q, u, rfl, hxb, hn, hs⟩⟩ := hs
      · have HZ := Hid.mk' hz
        clear hz ih
        go_enter Try.func34, Try.ntmps34
        go_wp2_with fail
        refine bodyPost_ret (results_cell_row rfl _ _ (w.heap.size + 1) 71 _ (0, 0) _ rfl (heap_alloc2_new w _ _) Try.underlying71 rfl (by kernel_rfl)) rfl ?_
        exact ⟨none, 0, rfl, (Keeps.new w _).trans (Keeps.new _ _), SlotAt.zeros fun o ho' => by simp only [cutF]; rw [HZ.out o ho']; simp⟩
      · by_cases hin : (first : Int) + (R8 : Int) ≤ off
        · clear ih
          go_enter Try.func34, Try.ntmps34
          go_wp2_with fail
          refine bodyPost_ret (results_cell_row rfl _ _ (w.heap.size + 1) 71 _ (0, 0) _ rfl (heap_alloc2_new w _ _) Try.underlying71 rfl (by kernel_rfl)) rfl ?_
          have hK := (Keeps.new w (.cells #[.pointer (some ⟨b, 0, none⟩), .int .i64 0] 71)).trans (Keeps.new _ (.cells #[.pointer (some ⟨b, 0, none⟩), .int .i64 0] 71))
          refine ⟨some ⟨b, 0, none⟩, 0, rfl, hK, ?_⟩
          have hw : SlotAt w X (k + 1) (some ⟨b, 0, none⟩) 0 f := ⟨rfl, .inr ⟨b, q, u, rfl, hxb, hn, hs⟩⟩
          refine SlotAt.congr ((hw.keep hK.none_nodes).mono fun _ h => .inl h) fun o ho' => ?_
          rw [hR8] at ho'
          simp only [cutF]; rw [if_pos (by omega)]
        · have hnin : off < (first : Int) + (R8 : Int) := by omega
          obtain ⟨W1, hW1⟩ : ∃ W1, ((w.alloc (.cells #[.pointer (some ⟨b, 0, none⟩), .int .i64 0] 71)).alloc (.cells #[.pointer none, .int .i64 0] 71)).alloc (.cells #[.pointer none, .int .i64 0, .pointer none, .int .i64 0, .pointer none, .int .i64 0, .pointer none, .int .i64 0, .pointer none, .int .i64 0, .pointer none, .int .i64 0, .pointer none, .int .i64 0, .pointer none, .int .i64 0] 102) = W1 := ⟨_, rfl⟩
          have hb := three_new w (.cells #[.pointer (some ⟨b, 0, none⟩), .int .i64 0] 71) (.cells #[.pointer none, .int .i64 0] 71) (.cells #[.pointer none, .int .i64 0, .pointer none, .int .i64 0, .pointer none, .int .i64 0, .pointer none, .int .i64 0, .pointer none, .int .i64 0, .pointer none, .int .i64 0, .pointer none, .int .i64 0, .pointer none, .int .i64 0] 102)
          rw [hW1] at hb
          obtain ⟨hB0, hB1', hZ, hsz1, hK1⟩ := hb
          have hn2 : NodeAt ((w.alloc (.cells #[.pointer (some ⟨b, 0, none⟩), .int .i64 0] 71)).alloc (.cells #[.pointer none, .int .i64 0] 71)) b q u :=
            ((Keeps.new w _).trans (Keeps.new _ _)).none_nodes _ _ _ hn
          obtain ⟨W2, hW2⟩ : ∃ W2, W1.setRow (w.heap.size + 2) (ncells q u) = W2 := ⟨_, rfl⟩
          have hK2 : Keeps (fun _ => False) w W2 := by
            rw [← hW2]
            exact hK1.then (Y := fun c => c = w.heap.size + 2) ⟨rfl, rfl, rfl, by simp, fun c _ hc => setRow_other _ _ _ _ hc⟩ (by intro c hc; right; omega)
          have hst : BelowSt w X k R first off f 0 W2 q u := by
            refine ⟨by rw [← hW2]; exact setRow_heap _ _ _ _ _ _ hZ, by rw [← hW2, setRow_other _ _ _ _ (by omega)]; exact hB1', by rw [← hW2, setRow_size, hsz1]; exact Nat.le_refl _, hK2, fun j hj => ?_⟩
            rw [if_neg (by omega)]
            have := (hs j hj).old hK2 (fun _ _ _ h => h)
            rw [hR] at this
            exact this.mono fun _ h => .inl h
          have HST := Hid.mk' hst
          have h1c : (ncells q u).all (·.oneCell') = true := by simp [ncells, Value.oneCell']
          have IH := Hid.mk' ih
          clear hn hst hs hB0 hB1' hsz1 hK1 hK2 ih
          go_enter Try.func34, Try.ntmps34
          go_wp2_with (first
            | (refine wpList_load_row rfl 102 _ rfl _ rfl 102 _ (0, 0) _ hn2 Try.underlying102 rfl (size102 _ _) ?_)
            | (refine wpList_store_row rfl 102 _ _ rfl _ _ rfl rfl 102 _ hZ (size102 _ _) rfl h1c ?_; rw [show w.heap.size + 1 + 1 = w.heap.size + 2 from rfl, hW2]; clear hW2 hZ hn2 hW1))
          go_loopw [33] (fun c wr => ∃ i : Nat, i ≤ 8 ∧ c = .int .i64 i ∧ ∃ q u, Hid (BelowSt w X k R first off f i wr q u)) (fun c _ => 8 - (intOf c).toNat)
          case atStart => exact ⟨0, by omega, rfl, q, u, HST⟩
          case round =>
            obtain ⟨i, hi, rfl, q, u, hst⟩ := hrel
            by_cases hlt8 : i < 8
            · have hi8 : (i : Int) < 8 := by omega
              have hiR := Nat.mul_le_mul_right R (show i ≤ 7 by omega)
              obtain ⟨M, hM⟩ : ∃ M, i * R = M := ⟨_, rfl⟩
              have hmul : (i : Int) * (R : Int) = (M : Int) := by rw [← hM, Int.natCast_mul]
              have e8 := E8.out
              have hMb : M + R ≤ R8 := by omega
              have hsl := hst.out.slot i hlt8
              rw [if_neg (by omega)] at hsl
              have hc := IH.out (q i) (u i) _ (first + M) off wr _ (by omega) hsl (by rw [hR]; omega)
              rw [hR, ← hM, Int.natCast_add, Int.natCast_mul] at hc
              rw [hmul] at hc
              obtain ⟨n0, n1⟩ := node_cell hst.out.node i hlt8
              have hc' : Calls Try.prog 34 #[.agg #[.pointer (q i), .int .i64 (u i)], .int .i64 ((first : Int) + (M : Int)), .int .i64 (R : Int), .int .i64 off] wr
                  fun e w' => ∃ p' v', e = .returned (.agg #[.pointer p', .int .i64 v']) ∧ Hid (Keeps (fun _ => False) wr w' ∧ SlotAt w' (fun c => ((X c ∧ c < w.heap.size) ∨ w.heap.size + 3 ≤ c) ∨ wr.heap.size ≤ c) k p' v' (cutF (fun o => f (i * R + o)) (first + i * R) off)) ∧
                    w'.cell? ⟨w.heap.size + 2, i * 2, none⟩ = some (.pointer (q i)) ∧ w'.cell? ⟨w.heap.size + 2, i * 2 + 1, none⟩ = some (.int .i64 (u i)) ∧ w'.frozen? ⟨w.heap.size + 2, i * 2, none⟩ = false ∧ w'.frozen? ⟨w.heap.size + 2, i * 2 + 1, none⟩ = false := by
                refine hc.mono fun e w' ⟨p', v', he, hk', hs'⟩ => ⟨p', v', he, ⟨hk', hs'⟩, ?_⟩
                have hN : NodeAt w' (w.heap.size + 2) q u := hk'.at hst.out.node id
                exact ⟨(node_cell hN i hlt8).1, (node_cell hN i hlt8).2, node_frozen hN _, node_frozen hN _⟩
              have HE := Hid.mk' (And.intro e8 (And.intro hM (And.intro hiR hMb)))
              clear hc hsl e8 hM hiR
              go_wp2_with (first | (go_at_call 34; refine hc'.mono ?_; rintro e w4 ⟨p', v', rfl, hx, x0, x1, x2, x3⟩))
              exact ⟨⟨i + 1, by omega, by go_num, _, _, hst.out.next hlt8 hx.out.1 hx.out.2⟩, by simp [intOf]; omega⟩
            · obtain rfl : i = 8 := by omega
              obtain ⟨hset, hB15, hsz5, hK5, hsl⟩ := hst.out
              have ho5 := over_any q u wr
              have HG := Hid.mk' (And.intro hB15 (And.intro hsz5 (And.intro hK5 hsl)))
              clear hst hB15 hsz5 hK5 hsl IH HST
              go_wp2_with (first
                | (refine wpList_load_row rfl 102 _ rfl _ rfl 102 _ (0, 0) _ hset Try.underlying102 rfl (size102 _ _) ?_)
                | (go_at_call 47; refine ho5.mono ?_; rintro e w6 ⟨p5, rfl, hk6, hor⟩
                   have hB16 := hk6.at HG.out.1 id
                   obtain ⟨y0, y1, yf⟩ := cells2' hB16
                   have yf0 := yf 0
                   have yf1 := yf 1
                   have HO := Hid.mk' (And.intro hk6 (And.intro hor hB16))
                   clear hk6 hor hB16 yf ho5))
              obtain ⟨hB15, hsz5, hK5, hsl⟩ := HG.out
              obtain ⟨hk6, hor, hB16⟩ := HO.out
              have hs7 := set_keeps w6 (w.heap.size + 1) 0 1 (.pointer p5) (.int .i64 0)
              have h57 := (hk6.mono (Y := fun c => c = w.heap.size + 1) (fun c _ h => h.elim)).trans hs7
              have hK7 := (hK5.trans hk6).then hs7 (by intro c hc'; right; omega)
              refine bodyPost_ret (results_cell_row rfl _ _ (w.heap.size + 1) 71 _ (0, 0) _ rfl (set2b hB16 _ _) Try.underlying71 rfl (by kernel_rfl)) rfl ?_
              refine ⟨p5, 0, rfl, hK7, ?_⟩
              refine slot_over (q := q) (u := u) ?_ ?_ ?_
              · rintro c rfl
                rcases hor with ⟨h, _⟩ | ⟨c', h, hc', _⟩
                · cases h
                · cases h; right; omega
              · rcases hor with h | ⟨c, h, hc', hn'⟩
                · exact .inl h
                · exact .inr ⟨c, h, hs7.at hn' (by omega)⟩
              · intro j hj
                have := hsl j hj
                rw [if_pos hj] at this
                rw [hR]
                exact this.keepX fun c _ _ hx hn => ⟨by rcases hx with h | h; exact .inl h.1; right; omega, h57.at hn (by omega)⟩

end Go.Proofs.Ytndojlacdggfcaa
