import Derived.Test.YtfiekdgpdboolabK1
namespace Go.Proofs.Ytfiekdgpdboolab
open Go.RowKit Go.Maps
attribute [local go_sem ↓] Go.wp_at_zero Go.wp_at_succ

theorem size30 : (Try.prog.info? 47).map (·.size) = some 1 := by kernel_rfl

set_option maxHeartbeats 400000 in
theorem copiedW_any (g n cap : Nat) (cs : List Value) (w : World) (hn : cs.length = n) (_hn' : n ≤ 1000000000)
    (hsrc : ∀ j v, cs[j]? = some v → w.cell? ((⟨g, 0, none⟩ : Addr).add j) = some v) (h1 : ∀ v ∈ cs, v.oneCell' = true) (hold : g < w.heap.size) :
    Calls Try.prog 49 #[.slice (some ⟨g, 0, none⟩) n cap] w fun e w' => e = .returned (.slice (some ⟨w.heap.size, 0, none⟩) n n) ∧
      w'.heap[w.heap.size]? = some (.cells cs.toArray 47 (0, 0)) ∧ w.grownBy w' none ∧ w'.heap.size = w.heap.size + 1 := by
  obtain ⟨i0, hi, hz0, hz1, hz2⟩ := info_parts info30
  have HN : Hid (cs.length = n) := hn
  have HS := Hid.mk' hsrc
  have HI : Hid (i0.bytes = 8) := hz2
  clear hn hsrc hz2
  go_enter Try.func49, Try.ntmps49
  go_wp2_with (first
    | (at_make; go_must (refine wpList_make_row _ rfl _ _ 22 rfl 47 i0 (.int .u64 0) Try.underlying22 hi hz0 hz1 rfl .i64 .i64 n rfl rfl (by have := HI.out; rw [this]; omega) (by omega) ?_); rw [made_list])
    | (refine wpList_copy_put rfl _ _ 22 22 rfl 47 Try.underlying22 size30 w.heap.size 0 n n ⟨g, 0, none⟩ n cap rfl rfl (List.replicate n (.int .u64 0)) 47 (by exact (MapKept.heap_alloc w _).1) cs (by have := HN.out; simp [this]) (fun j v hj => by
        rw [World.cell?_of_block (w := w) (Below.heap_alloc _ _ _ (by simp only [Addr.add]; split <;> exact hold))]; exact HS.out j v hj) (by have := HN.out; simp [this]) h1 ?_; intro w4 hw4 hg4))
  go_ret
  refine ⟨rfl, ?_, grownBy_own hg4.out.1, ?_⟩
  · rw [hw4.out, splice_whole _ _ (by have := HN.out; simp [this])]
  · have := hg4.out.2; simpa using this

/-- The cells of the doubts that are told: the address, the old value, the news' slice. -/
def doubtCells (S : St) (ng : Int → Nat) (ks : List Int) : List Value :=
  ks.flatMap fun a => [.int .i64 a, .int .u64 (wordAt S.old a.toNat), .slice (some ⟨ng a, 0, none⟩) (S.pd a).length (S.pd a).length]

theorem doubtCells_snoc (S : St) (ng : Int → Nat) (ks : List Int) (a : Int) : doubtCells S ng (ks ++ [a]) = doubtCells S ng ks ++ [.int .i64 a, .int .u64 (wordAt S.old a.toNat), .slice (some ⟨ng a, 0, none⟩) (S.pd a).length (S.pd a).length] := by
  simp [doubtCells]

theorem doubtCells_congr (S : St) (ng ng' : Int → Nat) (ks : List Int) (h : ∀ a ∈ ks, ng a = ng' a) : doubtCells S ng ks = doubtCells S ng' ks := by
  unfold doubtCells
  induction ks with
  | nil => rfl
  | cons a l ih =>
    rw [List.flatMap_cons, List.flatMap_cons, ih (fun b hb => h b (by simp [hb])), h a (by simp)]

theorem doubtCells_len (S : St) (ng : Int → Nat) (ks : List Int) : (doubtCells S ng ks).length = ks.length * 3 := by
  induction ks with
  | nil => rfl
  | cons a l ih => simp only [doubtCells, List.flatMap_cons, List.length_append] at ih ⊢; rw [ih]; simp; omega

theorem info62 : (Try.prog.info? 82).map (fun i => (i.zero, i.size, i.bytes)) = some (some (.agg #[.int .i64 0, .int .u64 0, .slice none 0 0]), 3, 40) := by kernel_rfl

end Go.Proofs.Ytfiekdgpdboolab
