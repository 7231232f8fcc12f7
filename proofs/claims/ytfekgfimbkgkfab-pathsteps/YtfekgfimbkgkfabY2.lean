import Derived.Test.YtfekgfimbkgkfabF1
namespace Go.Proofs.Ytfekgfimbkgkfab
open Go.RowKit Go.Maps

theorem info3 : (Try.prog.info? 3).map (fun i => (i.zero, i.size, i.bytes)) = some (some (.int .i64 0), 1, 8) := by kernel_rfl
theorem info4 : (Try.prog.info? 4).map (fun i => (i.zero, i.size, i.bytes)) = some (some (.bool false), 1, 1) := by kernel_rfl
def ints (l : List En) : List Value := l.map fun e => .int .i64 e.1
def bools (l : List En) : List Value := l.map fun e => .bool e.2
theorem ints_len (l : List En) : (ints l).length = l.length := by simp [ints]
theorem bools_len (l : List En) : (bools l).length = l.length := by simp [bools]
theorem own_ne {W : World} {b1 b2 : Nat} {e1 e2 : TypeId} {s1 s2 : Nat} {v1 v2 : Value} {n1 n2 : Nat} {x1 x2 : List Value} (h1 : W.ownsRow b1 e1 s1 v1 n1 x1) (h2 : W.ownsRow b2 e2 s2 v2 n2 x2) (hne : e1 ≠ e2) : ∀ g, v1.ownBlock = some g → ¬ v2.ownBlock = some g := by
  intro g hg1 hg2
  rcases h1.2 with ⟨rfl, _⟩ | ⟨g1, cap1, cur1, rfl, _, hb1, _⟩
  · cases hg1
  · rcases h2.2 with ⟨rfl, _⟩ | ⟨g2, cap2, cur2, rfl, _, hb2, _⟩
    · cases hg2
    · cases hg1; cases hg2
      rw [hb1] at hb2
      cases hb2
      exact hne rfl
theorem own_nx {W : World} {b1 : Nat} {e1 : TypeId} {s1 : Nat} {v1 : Value} {n1 : Nat} {x1 : List Value} (h1 : W.ownsRow b1 e1 s1 v1 n1 x1) {x : Nat} {c : Array Value} {t : TypeId} {f : Nat × Nat} (hx : W.heap[x]? = some (.cells c t f)) (hne : e1 ≠ t) : ¬ v1.ownBlock = some x := by
  intro hg1
  rcases h1.2 with ⟨rfl, _⟩ | ⟨g1, cap1, cur1, rfl, _, hb1, _⟩
  · cases hg1
  · cases hg1
    rw [hb1] at hx
    cases hx
    exact hne rfl
theorem own_cut1 {w : World} {base cap n : Nat} {e : TypeId} {a : Option Addr} {xs : List Value} {u : Value} (hx : xs.length = n) (h : w.ownsRow base e 1 (.slice a (n + 1) cap) (n + 1) (xs ++ [u])) : w.ownsRow base e 1 (.slice a n cap) n xs := by
  refine ⟨by rw [hx, Nat.mul_one], Or.inr ?_⟩
  rcases h.2 with ⟨h0, _⟩ | ⟨g, cap', cur, e, hg, hb, hc, hm, hs, ht⟩
  · cases h0
  · cases e
    refine ⟨g, cap, cur, rfl, hg, hb, by omega, hm, hs, ?_⟩
    have h3 := congrArg (List.take (n * 1)) ht
    rw [List.take_take, List.take_append_of_le_length (by omega), List.take_of_length_le (l := xs) (by omega)] at h3
    rw [← h3]
    congr 1
    omega
/-- The document's way in memory. -/
structure RW (W : World) (base x : Nat) (va vb : Value) (a : En) (r : List En) : Prop where
  st : W.heap[x]? = some (.cells #[va, vb] 102 (0, 0))
  ri : W.ownsRow base 3 1 va (r.length + 1) (ints (wayL a r))
  rs : W.ownsRow base 4 1 vb (r.length + 1) (bools (wayL a r))
theorem RW.keep {W W' : World} {base x : Nat} {va vb : Value} {a : En} {r : List En} (h : RW W base x va vb a r) (k : Keeps (fun _ => False) W W') : RW W' base x va vb a r :=
  ⟨k.at h.st id, own_grow h.ri k, own_grow h.rs k⟩
theorem own_last {W : World} {base : Nat} {e : TypeId} {v : Value} {n : Nat} {xs : List Value} {u : Value} (h : W.ownsRow base e 1 v (n + 1) xs) (hu : xs[n]? = some u) : ∃ g cap, v = .slice (some ⟨g, 0, none⟩) (n + 1) cap ∧ base ≤ g ∧ n + 1 ≤ cap ∧ W.cell? ⟨g, n, none⟩ = some u := by
  have h' := h
  rcases h'.2 with ⟨_, h0⟩ | ⟨g, cap, cur, rfl, hg, hb, hc, _⟩
  · omega
  · refine ⟨g, cap, rfl, hg, hc, ?_⟩
    rw [h.cellAt _ (by omega)]; exact hu
theorem ints_last (a : En) (r : List En) : (ints (wayL a r))[r.length]? = some (.int .i64 a.1) := by
  unfold ints wayL
  rw [List.map_append, List.getElem?_append_right (by simp)]; simp
theorem bools_last (a : En) (r : List En) : (bools (wayL a r))[r.length]? = some (.bool a.2) := by
  unfold bools wayL
  rw [List.map_append, List.getElem?_append_right (by simp)]; simp
theorem ints_push (a b : En) (r : List En) : ints (wayL b (a :: r)) = ints (wayL a r) ++ [.int .i64 b.1] := by rw [wayL_push]; simp [ints]
theorem bools_push (a b : En) (r : List En) : bools (wayL b (a :: r)) = bools (wayL a r) ++ [.bool b.2] := by rw [wayL_push]; simp [bools]

/-- .. with rows of any lengths. -/
structure RG (W : World) (base x : Nat) (va vb : Value) (n : Nat) (ia : List Value) (m : Nat) (ib : List Value) : Prop where
  st : W.heap[x]? = some (.cells #[va, vb] 102 (0, 0))
  ri : W.ownsRow base 3 1 va n ia
  rs : W.ownsRow base 4 1 vb m ib
theorem RW.g {W : World} {base x : Nat} {va vb : Value} {a : En} {r : List En} (h : RW W base x va vb a r) : RG W base x va vb (r.length + 1) (ints (wayL a r)) (r.length + 1) (bools (wayL a r)) := ⟨h.st, h.ri, h.rs⟩
theorem RG.keep {W W' : World} {base x : Nat} {va vb : Value} {n : Nat} {ia : List Value} {m : Nat} {ib : List Value} (h : RG W base x va vb n ia m ib) (k : Keeps (fun _ => False) W W') : RG W' base x va vb n ia m ib :=
  ⟨k.at h.st id, own_grow h.ri k, own_grow h.rs k⟩
theorem RG.ai {W W1 : World} {base x : Nat} {va vb : Value} {n : Nat} {ia : List Value} {m : Nat} {ib : List Value} (h : RG W base x va vb n ia m ib) (hg : W.grownBy W1 va.ownBlock) : W1.heap[x]? = some (.cells #[va, vb] 102 (0, 0)) ∧ W1.ownsRow base 4 1 vb m ib ∧ Keeps (fun k => base ≤ k) W W1 := by
  have hk : Keeps (fun k => va.ownBlock = some k) W W1 := Keeps.of hg (fun k hk => Or.inl hk)
  exact ⟨hk.at h.st (own_nx h.ri h.st (by decide)), own_keep h.rs hk (own_ne h.rs h.ri (by decide)), hk.mono (fun k _ hk => (h.ri.lt k hk).1)⟩
theorem RG.ab {W W1 : World} {base x : Nat} {va vb : Value} {n : Nat} {ia : List Value} {m : Nat} {ib : List Value} (h : RG W base x va vb n ia m ib) (hg : W.grownBy W1 vb.ownBlock) : W1.heap[x]? = some (.cells #[va, vb] 102 (0, 0)) ∧ W1.ownsRow base 3 1 va n ia ∧ Keeps (fun k => base ≤ k) W W1 := by
  have hk : Keeps (fun k => vb.ownBlock = some k) W W1 := Keeps.of hg (fun k hk => Or.inl hk)
  exact ⟨hk.at h.st (own_nx h.rs h.st (by decide)), own_keep h.ri hk (own_ne h.ri h.rs (by decide)), hk.mono (fun k _ hk => (h.rs.lt k hk).1)⟩
theorem set1k (W : World) (x i : Nat) (v : Value) : Keeps (fun k => k = x) W (W.setCell ⟨x, i, none⟩ v) := Keeps.of (grownBy_setCell W ⟨x, i, none⟩ v) (by rintro k hk; cases hk; exact Or.inl rfl)
/-- Its first cell is put anew. -/
theorem RG.puti {W : World} {base x : Nat} {va va' vb : Value} {n : Nat} {ia : List Value} {m : Nat} {ib : List Value} (hst : W.heap[x]? = some (.cells #[va, vb] 102 (0, 0))) (hri : W.ownsRow base 3 1 va' n ia) (hrs : W.ownsRow base 4 1 vb m ib) : RG (W.setCell ⟨x, 0, none⟩ va') base x va' vb n ia m ib := by
  have h1 := setCell_block (a := ⟨x, 0, none⟩) (v := va') hst rfl
  refine ⟨by simpa using h1, own_keep hri (set1k _ _ _ _) ?_, own_keep hrs (set1k _ _ _ _) ?_⟩
  · rintro g hg rfl; exact own_nx hri hst (by decide) hg
  · rintro g hg rfl; exact own_nx hrs hst (by decide) hg
theorem RG.putb {W : World} {base x : Nat} {va vb' vb : Value} {n : Nat} {ia : List Value} {m : Nat} {ib : List Value} (hst : W.heap[x]? = some (.cells #[va, vb] 102 (0, 0))) (hri : W.ownsRow base 3 1 va n ia) (hrs : W.ownsRow base 4 1 vb' m ib) : RG (W.setCell ⟨x, 1, none⟩ vb') base x va vb' n ia m ib := by
  have h1 := setCell_block (a := ⟨x, 1, none⟩) (v := vb') hst rfl
  refine ⟨by simpa using h1, own_keep hri (set1k _ _ _ _) ?_, own_keep hrs (set1k _ _ _ _) ?_⟩
  · rintro g hg rfl; exact own_nx hri hst (by decide) hg
  · rintro g hg rfl; exact own_nx hrs hst (by decide) hg
/-- The first way: the root. -/
theorem RW.start (w : World) : RW (((w.alloc (.cells #[.int .i64 1] 3)).alloc (.cells #[.bool true] 4)).alloc (.cells #[.slice (some ⟨w.heap.size, 0, none⟩) 1 1, .slice (some ⟨w.heap.size + 1, 0, none⟩) 1 1] 102)) w.heap.size (w.heap.size + 2) (.slice (some ⟨w.heap.size, 0, none⟩) 1 1) (.slice (some ⟨w.heap.size + 1, 0, none⟩) 1 1) (1, true) [] ∧ Keeps (fun _ => False) w (((w.alloc (.cells #[.int .i64 1] 3)).alloc (.cells #[.bool true] 4)).alloc (.cells #[.slice (some ⟨w.heap.size, 0, none⟩) 1 1, .slice (some ⟨w.heap.size + 1, 0, none⟩) 1 1] 102)) := by
  have e1 : (w.alloc (.cells #[.int .i64 1] 3)).heap.size = w.heap.size + 1 := World.size_alloc ..
  have e2 : ((w.alloc (.cells #[.int .i64 1] 3)).alloc (.cells #[.bool true] 4)).heap.size = w.heap.size + 2 := by rw [World.size_alloc, e1]
  have o1 := World.ownsRow_lit (base := w.heap.size) (e := 3) (size := 1) w #[.int .i64 1] 1 (Nat.le_refl _) (by unfold maxLen; omega) rfl
  have o2 := World.ownsRow_lit (base := w.heap.size) (e := 4) (size := 1) (w.alloc (.cells #[.int .i64 1] 3)) #[.bool true] 1 (by rw [e1]; omega) (by unfold maxLen; omega) rfl
  rw [e1] at o2
  have hb := heap_last ((w.alloc (.cells #[.int .i64 1] 3)).alloc (.cells #[.bool true] 4)) (.cells #[.slice (some ⟨w.heap.size, 0, none⟩) 1 1, .slice (some ⟨w.heap.size + 1, 0, none⟩) 1 1] 102)
  rw [e2] at hb
  exact ⟨⟨hb, (o1.alloc _).alloc _, o2.alloc _⟩, (((Keeps.refl _ w).alloc _).alloc _).alloc _⟩

set_option maxHeartbeats 1000000 in
set_option maxRecDepth 100000 in
theorem rlast_any (w : World) (base x : Nat) (va vb : Value) (a : En) (r : List En) (h : RW w base x va vb a r) (hr : r.length < 8796093022000) :
    Calls Try.prog 53 #[.pointer (some ⟨x, 0, none⟩)] w fun e w' => e = .returned (.bool a.2) ∧ Keeps (fun _ => False) w w' := by
  obtain ⟨c0, c1, _⟩ := cells2 h.st
  obtain ⟨g, cap, rfl, _, hc, hl⟩ := own_last h.rs (bools_last a r)
  have hm : ((r.length + 1 : Nat) : Int) - 1 = (r.length : Int) := by omega
  clear h
  go_enter Try.func53, Try.ntmps53
  go_wp2
  go_quiet (fail)
  go_wp2
  go_ret
  exact ⟨rfl, Keeps.drewN _ _ _⟩

end Go.Proofs.Ytfekgfimbkgkfab
