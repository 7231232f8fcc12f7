import Derived.Test.YtfiekdgpdboolabA2
import Derived.Deep.OwnRows
namespace Go.Proofs.Ytfiekdgpdboolab
open Go.RowKit

/-- copy at a plain region's list: what block g is behind it; nothing else has turned. -/
theorem wpList_copy_put {P : Program} {ops : Array Oper} {rest : List Oper} {o : Oper} {a : Act} {w : World} {Q : Exit → Act → World → Prop} (hgd : o.guard = none) (d s : Operand) (dT sT : TypeId)
    (ho : o.op = .call { callee := .builtin .copy, args := #[d, s], argTypes := #[dT, sT] }) (elem : TypeId) (hu : P.underlying dT = some (.slice elem)) (hsz : (P.info? elem).map (·.size) = some 1)
    (g off dLen dCap : Nat) (ad : Addr) (sLen sCap : Nat) (hd : a.eval d = .slice (some ⟨g, off, none⟩) dLen dCap) (hs : a.eval s = .slice (some ad) sLen sCap)
    (cur : List Value) (t : TypeId) (hg : w.heap[g]? = some (.cells cur.toArray t (0, 0))) (cs : List Value) (hn : cs.length = Nat.min sLen dLen)
    (hsrc : ∀ j v, cs[j]? = some v → w.cell? (ad.add j) = some v)
    (hfit : off + cs.length ≤ cur.length) (h1 : ∀ v ∈ cs, v.oneCell' = true)
    (h : ∀ w', Hid (w'.heap[g]? = some (.cells (splice cur off cs).toArray t (0, 0))) → Hid (w.grownBy w' (some g) ∧ w'.heap.size = w.heap.size) → wpList P ops Q rest (a.put o.dst (goInt cs.length)) w') :
    wpList P ops Q (o :: rest) a w := by
  refine wpList_copy_own hgd d s dT sT ho elem hu hsz g off dLen dCap ad sLen sCap hd hs cur.toArray t hg cs hn hsrc (by simpa using hfit) h1 ?_
  exact h _ (show _ = _ by simpa [splice] using setRow_heap w g _ _ t _ hg) ⟨⟨rfl, rfl, rfl, by simp, fun k _ hk => setRow_other w g k _ (by rintro rfl; exact hk rfl)⟩, by simp⟩

theorem info5 : (Try.prog.info? 5).map (fun i => (i.zero, i.size, i.bytes)) = some (some (.int .u8 0), 1, 1) := by kernel_rfl

theorem made_list (z : Value) (n : Nat) : (madeCells #[z] n) = (List.replicate n z).toArray := by
  apply Array.ext
  · simp [madeCells]
  · intro i h1 h2
    simp [madeCells, Nat.mod_one]

theorem splice_whole {α : Type} (L cs : List α) (h : L.length = cs.length) : splice L 0 cs = cs := by
  simp [splice, h]

theorem grownBy_own {a b : World} {o : Obj} (k : (a.alloc o).grownBy b (some a.heap.size)) : a.grownBy b none :=
  grownBy_new (World.grownBy_alloc a o none) k (Nat.le_refl _)

set_option maxHeartbeats 400000 in
theorem copied_any (ad : Addr) (n cap : Nat) (cs : List Value) (w : World) (hn : cs.length = n) (_hn' : n ≤ 1000000)
    (hsrc : ∀ j v, cs[j]? = some v → w.cell? (ad.add j) = some v) (h1 : ∀ v ∈ cs, v.oneCell' = true) (hold : ad.block < w.heap.size) :
    Calls Try.prog 44 #[.slice (some ad) n cap] w fun e w' => e = .returned (.slice (some ⟨w.heap.size, 0, none⟩) n n) ∧
      w'.heap[w.heap.size]? = some (.cells cs.toArray 5 (0, 0)) ∧ w.grownBy w' none ∧ w'.heap.size = w.heap.size + 1 := by
  obtain ⟨i0, hi, hz0, hz1, hz2⟩ := info_parts info5
  have HN : Hid (cs.length = n) := hn
  have HS : Hid (∀ j v, cs[j]? = some v → w.cell? (ad.add j) = some v) := hsrc
  have HI : Hid (i0.bytes = 1) := hz2
  clear hn hsrc hz2
  go_enter Try.func44, Try.ntmps44
  go_wp2_with (first
    | (at_make; go_must (refine wpList_make_row _ rfl _ _ 33 rfl 5 i0 (.int .u8 0) Try.underlying33 hi hz0 hz1 rfl .i64 .i64 n rfl rfl (by have := HI.out; rw [this]; omega) (by omega) ?_); rw [made_list])
    | (refine wpList_copy_put rfl _ _ 33 33 rfl 5 Try.underlying33 size5 w.heap.size 0 n n ad n cap rfl rfl (List.replicate n (.int .u8 0)) 5 (by exact (MapKept.heap_alloc w _).1) cs (by have := HN.out; simp [this]) (fun j v hj => by
        rw [World.cell?_of_block (w := w) (Below.heap_alloc _ _ _ (by cases ad; simp only [Addr.add]; split <;> exact hold))]; exact HS.out j v hj) (by have := HN.out; simp [this]) h1 ?_; intro w4 hw4 hg4))
  go_ret
  refine ⟨rfl, ?_, grownBy_own hg4.out.1, ?_⟩
  · rw [hw4.out, splice_whole _ _ (by have := HN.out; simp [this])]
  · have := hg4.out.2; simpa using this

set_option maxHeartbeats 400000 in
theorem over_any (o : Value) (h : ∃ p n c, o = .slice p n c) (w : World) :
    Calls Try.prog 56 #[o] w fun e w' => e = .returned (.pointer (some ⟨w.heap.size + 1, 0, none⟩)) ∧
      w' = (w.alloc (.map #[] 0)).alloc (devCells o (.map (some w.heap.size)) 0 0 false 0) := by
  obtain ⟨p, n, c, rfl⟩ := h
  have hmm := @run_makeMap Try.prog
  go_enter Try.func56, Try.ntmps56
  go_wp2
  go_ret
  exact ⟨rfl, rfl⟩

set_option maxHeartbeats 400000 in
theorem new_yes (n : Nat) (w : World) (h1 : 512 ≤ n) (h2 : n ≤ 524288) (h3 : n % 512 = 0) :
    Calls Try.prog 32 #[.int .i64 n] w fun e w' => e = .returned (.tuple #[.pointer (some ⟨w.heap.size + 2, 0, none⟩), .int .i64 0]) ∧
      w' = ((w.alloc (.cells (List.replicate n (.int .u8 0)).toArray 5)).alloc (.map #[] 0)).alloc (devCells (.slice (some ⟨w.heap.size, 0, none⟩) n n) (.map (some (w.heap.size + 1))) 0 0 false 0) := by
  obtain ⟨i0, hi, hz0, hz1, hz2⟩ := info_parts info5
  have HI : Hid (i0.bytes = 1) := hz2
  clear hz2
  go_enter Try.func32, Try.ntmps32
  go_wp2_with (first
    | (go_at_call 55; refine (goodSize_yes _ _ (by omega) (by omega) (by omega)).mono ?_; rintro e w' ⟨rfl, hw⟩; subst w')
    | (at_make; go_must (refine wpList_make_row _ rfl _ _ 33 rfl 5 i0 (.int .u8 0) Try.underlying33 hi hz0 hz1 rfl .i64 .i64 n rfl rfl (by have := HI.out; rw [this]; omega) (by omega) ?_); rw [made_list])
    | (go_at_call 56; refine (over_any _ ⟨_, _, _, rfl⟩ _).mono ?_; rintro e w' ⟨rfl, rfl⟩))
  go_ret2
  simp

set_option maxHeartbeats 400000 in
theorem load_yes (ad : Addr) (n cap : Nat) (cs : List Value) (w : World) (h1 : 512 ≤ n) (h2 : n ≤ 524288) (h3 : n % 512 = 0) (hn : cs.length = n)
    (hsrc : ∀ j v, cs[j]? = some v → w.cell? (ad.add j) = some v) (h1' : ∀ v ∈ cs, v.oneCell' = true) (hold : ad.block < w.heap.size) :
    Calls Try.prog 62 #[.slice (some ad) n cap] w fun e w' => e = .returned (.tuple #[.pointer (some ⟨w.heap.size + 2, 0, none⟩), .int .i64 0]) ∧
      w'.heap[w.heap.size]? = some (.cells cs.toArray 5 (0, 0)) ∧ w'.heap[w.heap.size + 1]? = some (.map #[] 0) ∧
      w'.heap[w.heap.size + 2]? = some (devCells (.slice (some ⟨w.heap.size, 0, none⟩) n n) (.map (some (w.heap.size + 1))) 0 0 false 0) ∧
      w.grownBy w' none ∧ w'.heap.size = w.heap.size + 3 := by
  have hcp := copied_any ad n cap cs w hn (by omega) hsrc h1' hold
  have HC : Hid (Calls Try.prog 44 #[.slice (some ad) n cap] w fun e w' => e = .returned (.slice (some ⟨w.heap.size, 0, none⟩) n n) ∧
      w'.heap[w.heap.size]? = some (.cells cs.toArray 5 (0, 0)) ∧ w.grownBy w' none ∧ w'.heap.size = w.heap.size + 1) := hcp
  clear hcp hn hsrc h1' hold
  go_enter Try.func62, Try.ntmps62
  go_wp2_with (first
    | (go_at_call 55; refine (goodSize_yes _ _ (by omega) (by omega) (by omega)).mono ?_; rintro e w' ⟨rfl, hw⟩; subst w')
    | (go_at_call 44; go_must (refine HC.out.mono ?_); go_must (rintro e w1 ⟨rfl, hb1, hg1, hs1⟩); go_must (have H1 : Hid (w1.heap[w.heap.size]? = some (.cells cs.toArray 5 (0, 0)) ∧ w.grownBy w1 none ∧ w1.heap.size = w.heap.size + 1) := ⟨hb1, hg1, hs1⟩); go_must (clear hb1 hg1 hs1))
    | (go_at_call 56; refine (over_any _ ⟨_, _, _, rfl⟩ _).mono ?_; rintro e w' ⟨rfl, rfl⟩))
  go_ret2
  obtain ⟨hb1, hg1, hs1⟩ := H1.out
  refine ⟨by simp [hs1], ?_, ?_, ?_, ?_, by simp [hs1]⟩
  · rw [Below.heap_alloc _ _ _ (by simp; omega), Below.heap_alloc _ _ _ (by omega)]; exact hb1
  · rw [Below.heap_alloc _ _ _ (by simp; omega), ← hs1]; exact (MapKept.heap_alloc _ _).1
  · have := (MapKept.heap_alloc (w1.alloc (.map #[] 0)) (devCells (.slice (some ⟨w.heap.size, 0, none⟩) n n) (.map (some w1.heap.size)) 0 0 false 0)).1
    simpa [hs1] using this
  · exact grownBy_trans (grownBy_trans hg1 (World.grownBy_alloc _ _ _)) (World.grownBy_alloc _ _ _)

set_option maxHeartbeats 400000 in
theorem made_yes (n : Nat) (w : World) (h1 : 512 ≤ n) (h2 : n ≤ 524288) (h3 : n % 512 = 0) :
    Calls Try.prog 10 #[.int .i64 n] w fun e w' => e = .returned (.tuple #[.pointer (some ⟨w.heap.size + 2, 0, none⟩), .bool true]) ∧
      w' = ((w.alloc (.cells (List.replicate n (.int .u8 0)).toArray 5)).alloc (.map #[] 0)).alloc (devCells (.slice (some ⟨w.heap.size, 0, none⟩) n n) (.map (some (w.heap.size + 1))) 0 0 false 0) := by
  go_enter Try.func10, Try.ntmps10
  go_wp2_with (go_at_call 32; refine (new_yes n w h1 h2 h3).mono ?_; rintro e w' ⟨rfl, rfl⟩)
  go_ret2
  exact ⟨rfl, rfl⟩

set_option maxHeartbeats 400000 in
theorem loaded_yes (ad : Addr) (n cap : Nat) (cs : List Value) (w : World) (h1 : 512 ≤ n) (h2 : n ≤ 524288) (h3 : n % 512 = 0) (hn : cs.length = n)
    (hsrc : ∀ j v, cs[j]? = some v → w.cell? (ad.add j) = some v) (h1' : ∀ v ∈ cs, v.oneCell' = true) (hold : ad.block < w.heap.size) :
    Calls Try.prog 52 #[.slice (some ad) n cap] w fun e w' => e = .returned (.tuple #[.pointer (some ⟨w.heap.size + 2, 0, none⟩), .bool true]) ∧
      w'.heap[w.heap.size]? = some (.cells cs.toArray 5 (0, 0)) ∧ w'.heap[w.heap.size + 1]? = some (.map #[] 0) ∧
      w'.heap[w.heap.size + 2]? = some (devCells (.slice (some ⟨w.heap.size, 0, none⟩) n n) (.map (some (w.heap.size + 1))) 0 0 false 0) ∧
      w.grownBy w' none ∧ w'.heap.size = w.heap.size + 3 := by
  have HC := load_yes ad n cap cs w h1 h2 h3 hn hsrc h1' hold
  clear h1 h2 h3 hn hsrc h1' hold
  go_enter Try.func52, Try.ntmps52
  go_wp2_with (go_at_call 62; refine HC.mono ?_; rintro e w1 ⟨rfl, hb1, hb2, hb3, hb4, hb5⟩; have H1 : Hid (w1.heap[w.heap.size]? = some (.cells cs.toArray 5 (0, 0)) ∧ w1.heap[w.heap.size + 1]? = some (.map #[] 0) ∧
      w1.heap[w.heap.size + 2]? = some (devCells (.slice (some ⟨w.heap.size, 0, none⟩) n n) (.map (some (w.heap.size + 1))) 0 0 false 0) ∧
      w.grownBy w1 none ∧ w1.heap.size = w.heap.size + 3) := ⟨hb1, hb2, hb3, hb4, hb5⟩; clear hb1 hb2 hb3 hb4 hb5)
  go_ret2
  exact ⟨rfl, H1.out⟩

end Go.Proofs.Ytfiekdgpdboolab
