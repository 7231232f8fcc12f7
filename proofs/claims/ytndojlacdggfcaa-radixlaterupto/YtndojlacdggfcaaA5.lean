import Derived.Test.YtndojlacdggfcaaA4
namespace Go.Proofs.Ytndojlacdggfcaa
open Go.RowKit

theorem three_new (w : World) (o1 o2 o3 : Obj) : (((w.alloc o1).alloc o2).alloc o3).heap[w.heap.size]? = some o1 ∧ (((w.alloc o1).alloc o2).alloc o3).heap[w.heap.size + 1]? = some o2 ∧
    (((w.alloc o1).alloc o2).alloc o3).heap[w.heap.size + 2]? = some o3 ∧ (((w.alloc o1).alloc o2).alloc o3).heap.size = w.heap.size + 3 ∧ Keeps (fun _ => False) w (((w.alloc o1).alloc o2).alloc o3) := by
  have b1 := (MapKept.heap_alloc w o1).1
  have b2 := (MapKept.heap_alloc (w.alloc o1) o2).1
  have b3 := (MapKept.heap_alloc ((w.alloc o1).alloc o2) o3).1
  rw [World.size_alloc] at b2 b3
  rw [World.size_alloc] at b3
  have k1 := Keeps.new w o1
  have k2 := Keeps.new (w.alloc o1) o2
  have k3 := Keeps.new ((w.alloc o1).alloc o2) o3
  exact ⟨(k2.trans k3).at b1 id, k3.at b2 id, b3, by simp, (k1.trans k2).trans k3⟩

set_option maxRecDepth 100000 in
set_option maxHeartbeats 2000000 in
theorem with_any (k : Nat) : ∀ (p : Option Addr) (v : Int) (f : Nat → Int) (off : Nat) (x : Int) (w : World) (X : Nat → Prop), k ≤ 3 → SlotAt w X k p v f → off < 8 ^ k →
    Calls Try.prog 36 #[.agg #[.pointer p, .int .i64 v], .int .i64 ((8 ^ k : Nat) : Int), .int .i64 off, .int .i64 x] w fun e w' => ∃ p' v', e = .returned (.agg #[.pointer p', .int .i64 v']) ∧ Keeps (fun _ => False) w w' ∧
      SlotAt w' (fun b => X b ∨ w.heap.size ≤ b) k p' v' (upd f off x) := by
  induction k with
  | zero =>
    intro p v f off x w X _ hs ho
    obtain ⟨rfl, rfl⟩ := hs
    obtain rfl : off = 0 := by simpa using ho
    rw [show ((8 ^ 0 : Nat) : Int) = 1 from rfl]
    go_enter Try.func36, Try.ntmps36
    go_wp2_with fail
    refine bodyPost_ret (results_cell_row rfl _ _ (w.heap.size + 1) 71 _ (0, 0) _ rfl (heap_alloc2_new w _ _) Try.underlying71 rfl (by kernel_rfl)) rfl ?_
    exact ⟨none, x, rfl, (Keeps.new w _).trans (Keeps.new _ _), rfl, by simp [upd]⟩
  | succ k ih =>
    intro p v f off x w X hk hs ho
    obtain ⟨R, R8, i, m, hR, hR8, hd, hq, hm, hi, hml, hom, hR1, hRl, e8⟩ := dv k off hk ho
    have hw1 : IntKind.i64.wrap (i : Int) = i := i64_id (by omega) (by omega)
    have hw2 : IntKind.i64.wrap (m : Int) = m := i64_id (by omega) (by omega)
    have hR0 : ¬ (R : Int) = 0 := by omega
    have hRb : ((R : Int) == 0) = false := by simpa using hR0
    have hRn : ¬ R = 0 := by omega
    have hi8 : (i : Int) < 8 := by omega
    have hi0' : (0 : Int) ≤ i := by omega
    have hR81 : ((R8 : Int) == 1) = false := by simp; omega
    have E8 := Hid.mk' e8
    clear e8
    rw [hR8]
    obtain ⟨rfl, ⟨rfl, hz⟩ | ⟨b, q, u, rfl, hxb, hn, hs⟩⟩ := hs
    · obtain ⟨q, hqe⟩ : ∃ q : Nat → Option Addr, q = fun _ => none := ⟨_, rfl⟩
      obtain ⟨u, hue⟩ : ∃ u : Nat → Int, u = fun _ => 0 := ⟨_, rfl⟩
      obtain ⟨W2, hW2⟩ : ∃ W2, ((w.alloc (.cells #[.pointer none, .int .i64 0] 71)).alloc (.cells #[.pointer none, .int .i64 0] 71)).alloc (.cells #[.pointer none, .int .i64 0, .pointer none, .int .i64 0, .pointer none, .int .i64 0, .pointer none, .int .i64 0, .pointer none, .int .i64 0, .pointer none, .int .i64 0, .pointer none, .int .i64 0, .pointer none, .int .i64 0] 102) = W2 := ⟨_, rfl⟩
      have hB1 : W2.heap[w.heap.size + 1]? = some (.cells #[.pointer none, .int .i64 0] 71 (0, 0)) := by rw [← hW2]; exact (three_new w _ _ _).2.1
      have hB2 : NodeAt W2 (w.heap.size + 2) q u := by rw [← hW2, hqe, hue]; exact (three_new w _ _ _).2.2.1
      have hsz2 : W2.heap.size = w.heap.size + 3 := by rw [← hW2]; simp
      have hK2 : Keeps (fun _ => False) w W2 := by rw [← hW2]; exact ((Keeps.new w _).trans (Keeps.new _ _)).trans (Keeps.new _ _)
      have hs2 : ∀ j, j < 8 → SlotAt W2 (fun c => X c ∧ c < w.heap.size) k (q j) (u j) (fun o => f (j * R + o)) := fun j hj => by
        rw [hqe, hue]
        exact SlotAt.zeros fun o ho => hz _ (by rw [← hR]; exact idx_lt hj ho)
      have hs : True := trivial
      have b0 : W2.cell? ⟨w.heap.size, 0, none⟩ = some (.pointer none) := by rw [← hW2]; exact (cells2' (three_new w _ _ _).1).1
      have HH := Hid.mk' (And.intro hqe hue)
      clear hqe hue hz
      go_enter Try.func36, Try.ntmps36
      go_wp2_with fail
      clear hW2

      have hc : ∀ n, Calls Try.prog 36 #[.agg #[.pointer (q i), .int .i64 (u i)], .int .i64 (R : Int), .int .i64 (m : Int), .int .i64 x] (W2.drewN n)
          fun e w' => ∃ p' v', e = .returned (.agg #[.pointer p', .int .i64 v']) ∧ Hid (Keeps (fun _ => False) W2 w' ∧ SlotAt w' (fun c => (X c ∧ c < w.heap.size) ∨ W2.heap.size ≤ c) k p' v' (upd (fun o => f (i * R + o)) m x)) ∧
            w'.cell? ⟨w.heap.size + 2, i * 2, none⟩ = some (.pointer (q i)) ∧ w'.cell? ⟨w.heap.size + 2, i * 2 + 1, none⟩ = some (.int .i64 (u i)) ∧ w'.frozen? ⟨w.heap.size + 2, i * 2, none⟩ = false ∧ w'.frozen? ⟨w.heap.size + 2, i * 2 + 1, none⟩ = false := fun n => by
        have h1 := ih (q i) (u i) _ m x (W2.drewN n) _ (by omega) ((hs2 i hi).keep (Keeps.drewN (fun _ => False) W2 n).none_nodes) (by rw [hR]; exact hml)
        rw [hR] at h1
        refine h1.mono fun e w' ⟨p', v', he, hk', hs'⟩ => ⟨p', v', he, ⟨(Keeps.drewN _ _ n).trans hk', hs'⟩, ?_⟩
        have hN : NodeAt w' (w.heap.size + 2) q u := hk'.at (show NodeAt (W2.drewN n) _ _ _ from hB2) id
        exact ⟨(node_cell hN i hi).1, (node_cell hN i hi).2, node_frozen hN _, node_frozen hN _⟩
      obtain ⟨n0, n1⟩ := node_cell (show NodeAt W2 _ _ _ from hB2) i hi
      have HF := Hid.mk' (And.intro hB1 (And.intro hB2 (And.intro hsz2 (And.intro hK2 hs2))))
      clear hB1 hB2 hsz2 hK2 hs2 hs ih
      go_region_with ((go_at_call 36; refine (hc _).mono ?_; rintro e w4 ⟨p', v', rfl, hx, x0, x1, x2, x3⟩))
      all_goals
        obtain ⟨hB1, hB2, hsz2, hK2, hs2⟩ := HF.out
        obtain ⟨hk4, hs4⟩ := hx.out
        have hN4 : NodeAt w4 (w.heap.size + 2) q u := hk4.at hB2 id
        have hB14 := hk4.at hB1 id
        have hK4 := hK2.trans hk4
        have hset := set_node hN4 i hi p' v'
        have hsk := set_keeps w4 (w.heap.size + 2) (i * 2) (i * 2 + 1) (.pointer p') (.int .i64 v')
        have hB15 := hsk.at hB14 (show ¬ w.heap.size + 1 = w.heap.size + 2 by omega)
        have hK5 := hK4.then hsk (by intro c hc'; right; omega)
        rw [show w.heap.size + 1 + 1 = w.heap.size + 2 from rfl]
        have h45 := hsk.mono (Y := fun c => c = w.heap.size + 1 ∨ c = w.heap.size + 2) (fun c _ h => .inr h)
        have hl5 := heap_lt hB15
        generalize (w4.setCell ⟨w.heap.size + 2, i * 2, none⟩ (.pointer p')).setCell ⟨w.heap.size + 2, i * 2 + 1, none⟩ (.int .i64 v') = w5 at *
        have ho5 := over_any (setq q i p') (upd u i v') w5
        have HG := Hid.mk' (And.intro hsz2 (And.intro hs2 (And.intro hk4 (And.intro hs4 (And.intro hK5 (And.intro h45 (And.intro hB15 hl5)))))))
        clear hsz2 hs2 hk4 hs4 hK5 h45 hB1 hB2 hK2 hN4 hB14 hK4 hsk hc n0 n1 x0 x1 x2 x3 hx HF hB15 hl5
        go_wp2_with (first
          | (refine wpList_load_row rfl 102 _ rfl _ rfl 102 _ (0, 0) _ hset Try.underlying102 rfl (size102 _ _) ?_)
          | (go_at_call 47; refine ho5.mono ?_; rintro e w6 ⟨p5, rfl, hk6, hor⟩
             have hB16 := hk6.at HG.out.2.2.2.2.2.2.1 id
             obtain ⟨y0, y1, yf⟩ := cells2' hB16
             have yf0 := yf 0
             have yf1 := yf 1
             have HO := Hid.mk' (And.intro hk6 (And.intro hor hB16))
             clear hk6 hor hB16 yf ho5))
        obtain ⟨hsz2, hs2, hk4, hs4, hK5, h45, hB15, hl5⟩ := HG.out
        obtain ⟨hk6, hor, hB16⟩ := HO.out
        have hs7 := set_keeps w6 (w.heap.size + 1) 0 1 (.pointer p5) (.int .i64 0)
        have h67 := hs7.mono (Y := fun c => c = w.heap.size + 1 ∨ c = w.heap.size + 2) (fun c _ h => .inl h)
        have h56 := hk6.mono (Y := fun c => c = w.heap.size + 1 ∨ c = w.heap.size + 2) (fun c _ h => h.elim)
        have h24 := hk4.mono (Y := fun c => c = w.heap.size + 1 ∨ c = w.heap.size + 2) (fun c _ h => h.elim)
        have h47 := (h45.trans h56).trans h67
        have h27 := h24.trans h47
        have hK7 := (hK5.trans hk6).then hs7 (by intro c hc'; right; omega)
        refine bodyPost_ret (results_cell_row rfl _ _ (w.heap.size + 1) 71 _ (0, 0) _ rfl (set2b hB16 _ _) Try.underlying71 rfl (by kernel_rfl)) rfl ?_
        refine ⟨p5, 0, rfl, hK7, ?_⟩
        have hw5 : w.heap.size ≤ w5.heap.size := hK5.size
        rw [← hom]
        refine slot_over (q := setq q i p') (u := upd u i v') ?_ ?_ (slot_set hR hi hml ?_ ?_)
        · rintro c rfl
          rcases hor with ⟨h, _⟩ | ⟨c', h, hc', _⟩
          · cases h
          · cases h; right; omega
        · rcases hor with h | ⟨c, h, hc', hn'⟩
          · exact .inl h
          · exact .inr ⟨c, h, hs7.at hn' (by omega)⟩
        · intro j hj
          exact (hs2 j hj).keepX fun c _ _ hx hn => ⟨.inl hx.1, h27.at hn (by omega)⟩
        · exact hs4.keepX fun c _ _ hx hn => ⟨by rcases hx with h | h; exact .inl h.1; right; omega, h47.at hn (by omega)⟩

    · obtain ⟨W1, hW1⟩ : ∃ W1, ((w.alloc (.cells #[.pointer (some ⟨b, 0, none⟩), .int .i64 0] 71)).alloc (.cells #[.pointer none, .int .i64 0] 71)).alloc (.cells #[.pointer none, .int .i64 0, .pointer none, .int .i64 0, .pointer none, .int .i64 0, .pointer none, .int .i64 0, .pointer none, .int .i64 0, .pointer none, .int .i64 0, .pointer none, .int .i64 0, .pointer none, .int .i64 0] 102) = W1 := ⟨_, rfl⟩
      have hb := three_new w (.cells #[.pointer (some ⟨b, 0, none⟩), .int .i64 0] 71) (.cells #[.pointer none, .int .i64 0] 71) (.cells #[.pointer none, .int .i64 0, .pointer none, .int .i64 0, .pointer none, .int .i64 0, .pointer none, .int .i64 0, .pointer none, .int .i64 0, .pointer none, .int .i64 0, .pointer none, .int .i64 0, .pointer none, .int .i64 0] 102)
      rw [hW1] at hb
      obtain ⟨hB0, hB1', hZ, hsz1, hK1⟩ := hb
      obtain ⟨b0, _, _⟩ := cells2' hB0
      have hn1 : NodeAt W1 b q u := hK1.none_nodes _ _ _ hn
      obtain ⟨W2, hW2⟩ : ∃ W2, W1.setRow (w.heap.size + 2) (ncells q u) = W2 := ⟨_, rfl⟩
      have hB1 : W2.heap[w.heap.size + 1]? = some (.cells #[.pointer none, .int .i64 0] 71 (0, 0)) := by rw [← hW2, setRow_other _ _ _ _ (by omega)]; exact hB1'
      have hB2 : NodeAt W2 (w.heap.size + 2) q u := by rw [← hW2]; exact setRow_heap _ _ _ _ _ _ hZ
      have hsz2 : W2.heap.size = w.heap.size + 3 := by rw [← hW2, setRow_size]; exact hsz1
      have hK2 : Keeps (fun _ => False) w W2 := by
        rw [← hW2]
        exact hK1.then (Y := fun c => c = w.heap.size + 2) ⟨rfl, rfl, rfl, by simp, fun c _ hc => setRow_other _ _ _ _ hc⟩ (by intro c hc; right; omega)
      have hs2 : ∀ j, j < 8 → SlotAt W2 (fun c => X c ∧ c < w.heap.size) k (q j) (u j) (fun o => f (j * R + o)) := fun j hj => by
        have := (hs j hj).old hK2 (fun _ _ _ h => h)
        rw [hR] at this
        exact this
      have h1c : (ncells q u).all (·.oneCell') = true := by simp [ncells, Value.oneCell']
      have hb2 : w.heap.size ≠ b := by have := heap_lt hn; omega
      clear hn
      go_enter Try.func36, Try.ntmps36
      go_wp2_with (first
        | (refine wpList_load_row rfl 102 _ rfl _ rfl 102 _ (0, 0) _ hn1 Try.underlying102 rfl (size102 _ _) ?_)
        | (refine wpList_store_row rfl 102 _ _ rfl _ _ rfl rfl 102 _ hZ (size102 _ _) rfl h1c ?_; rw [show w.heap.size + 1 + 1 = w.heap.size + 2 from rfl, hW2]; clear hW2 hZ hn1 hW1))

      have hc : ∀ n, Calls Try.prog 36 #[.agg #[.pointer (q i), .int .i64 (u i)], .int .i64 (R : Int), .int .i64 (m : Int), .int .i64 x] (W2.drewN n)
          fun e w' => ∃ p' v', e = .returned (.agg #[.pointer p', .int .i64 v']) ∧ Hid (Keeps (fun _ => False) W2 w' ∧ SlotAt w' (fun c => (X c ∧ c < w.heap.size) ∨ W2.heap.size ≤ c) k p' v' (upd (fun o => f (i * R + o)) m x)) ∧
            w'.cell? ⟨w.heap.size + 2, i * 2, none⟩ = some (.pointer (q i)) ∧ w'.cell? ⟨w.heap.size + 2, i * 2 + 1, none⟩ = some (.int .i64 (u i)) ∧ w'.frozen? ⟨w.heap.size + 2, i * 2, none⟩ = false ∧ w'.frozen? ⟨w.heap.size + 2, i * 2 + 1, none⟩ = false := fun n => by
        have h1 := ih (q i) (u i) _ m x (W2.drewN n) _ (by omega) ((hs2 i hi).keep (Keeps.drewN (fun _ => False) W2 n).none_nodes) (by rw [hR]; exact hml)
        rw [hR] at h1
        refine h1.mono fun e w' ⟨p', v', he, hk', hs'⟩ => ⟨p', v', he, ⟨(Keeps.drewN _ _ n).trans hk', hs'⟩, ?_⟩
        have hN : NodeAt w' (w.heap.size + 2) q u := hk'.at (show NodeAt (W2.drewN n) _ _ _ from hB2) id
        exact ⟨(node_cell hN i hi).1, (node_cell hN i hi).2, node_frozen hN _, node_frozen hN _⟩
      obtain ⟨n0, n1⟩ := node_cell (show NodeAt W2 _ _ _ from hB2) i hi
      have HF := Hid.mk' (And.intro hB1 (And.intro hB2 (And.intro hsz2 (And.intro hK2 hs2))))
      clear hB1 hB2 hsz2 hK2 hs2 hs ih
      go_region_with ((go_at_call 36; refine (hc _).mono ?_; rintro e w4 ⟨p', v', rfl, hx, x0, x1, x2, x3⟩))
      all_goals
        obtain ⟨hB1, hB2, hsz2, hK2, hs2⟩ := HF.out
        obtain ⟨hk4, hs4⟩ := hx.out
        have hN4 : NodeAt w4 (w.heap.size + 2) q u := hk4.at hB2 id
        have hB14 := hk4.at hB1 id
        have hK4 := hK2.trans hk4
        have hset := set_node hN4 i hi p' v'
        have hsk := set_keeps w4 (w.heap.size + 2) (i * 2) (i * 2 + 1) (.pointer p') (.int .i64 v')
        have hB15 := hsk.at hB14 (show ¬ w.heap.size + 1 = w.heap.size + 2 by omega)
        have hK5 := hK4.then hsk (by intro c hc'; right; omega)
        rw [show w.heap.size + 1 + 1 = w.heap.size + 2 from rfl]
        have h45 := hsk.mono (Y := fun c => c = w.heap.size + 1 ∨ c = w.heap.size + 2) (fun c _ h => .inr h)
        have hl5 := heap_lt hB15
        generalize (w4.setCell ⟨w.heap.size + 2, i * 2, none⟩ (.pointer p')).setCell ⟨w.heap.size + 2, i * 2 + 1, none⟩ (.int .i64 v') = w5 at *
        have ho5 := over_any (setq q i p') (upd u i v') w5
        have HG := Hid.mk' (And.intro hsz2 (And.intro hs2 (And.intro hk4 (And.intro hs4 (And.intro hK5 (And.intro h45 (And.intro hB15 hl5)))))))
        clear hsz2 hs2 hk4 hs4 hK5 h45 hB1 hB2 hK2 hN4 hB14 hK4 hsk hc n0 n1 x0 x1 x2 x3 hx HF hB15 hl5
        go_wp2_with (first
          | (refine wpList_load_row rfl 102 _ rfl _ rfl 102 _ (0, 0) _ hset Try.underlying102 rfl (size102 _ _) ?_)
          | (go_at_call 47; refine ho5.mono ?_; rintro e w6 ⟨p5, rfl, hk6, hor⟩
             have hB16 := hk6.at HG.out.2.2.2.2.2.2.1 id
             obtain ⟨y0, y1, yf⟩ := cells2' hB16
             have yf0 := yf 0
             have yf1 := yf 1
             have HO := Hid.mk' (And.intro hk6 (And.intro hor hB16))
             clear hk6 hor hB16 yf ho5))
        obtain ⟨hsz2, hs2, hk4, hs4, hK5, h45, hB15, hl5⟩ := HG.out
        obtain ⟨hk6, hor, hB16⟩ := HO.out
        have hs7 := set_keeps w6 (w.heap.size + 1) 0 1 (.pointer p5) (.int .i64 0)
        have h67 := hs7.mono (Y := fun c => c = w.heap.size + 1 ∨ c = w.heap.size + 2) (fun c _ h => .inl h)
        have h56 := hk6.mono (Y := fun c => c = w.heap.size + 1 ∨ c = w.heap.size + 2) (fun c _ h => h.elim)
        have h24 := hk4.mono (Y := fun c => c = w.heap.size + 1 ∨ c = w.heap.size + 2) (fun c _ h => h.elim)
        have h47 := (h45.trans h56).trans h67
        have h27 := h24.trans h47
        have hK7 := (hK5.trans hk6).then hs7 (by intro c hc'; right; omega)
        refine bodyPost_ret (results_cell_row rfl _ _ (w.heap.size + 1) 71 _ (0, 0) _ rfl (set2b hB16 _ _) Try.underlying71 rfl (by kernel_rfl)) rfl ?_
        refine ⟨p5, 0, rfl, hK7, ?_⟩
        have hw5 : w.heap.size ≤ w5.heap.size := hK5.size
        rw [← hom]
        refine slot_over (q := setq q i p') (u := upd u i v') ?_ ?_ (slot_set hR hi hml ?_ ?_)
        · rintro c rfl
          rcases hor with ⟨h, _⟩ | ⟨c', h, hc', _⟩
          · cases h
          · cases h; right; omega
        · rcases hor with h | ⟨c, h, hc', hn'⟩
          · exact .inl h
          · exact .inr ⟨c, h, hs7.at hn' (by omega)⟩
        · intro j hj
          exact (hs2 j hj).keepX fun c _ _ hx hn => ⟨.inl hx.1, h27.at hn (by omega)⟩
        · exact hs4.keepX fun c _ _ hx hn => ⟨by rcases hx with h | h; exact .inl h.1; right; omega, h47.at hn (by omega)⟩


end Go.Proofs.Ytndojlacdggfcaa
