import Derived.Test.YtnafocbgapianabB9
import Derived.Deep.OwnRows
namespace Go.Proofs.Ytnafocbgapianab
open Go.RowKit

theorem info4 : (Try.prog.info? 4).map (fun i => (i.zero, i.size, i.bytes)) = some (some (.bool false), 1, 1) := by kernel_rfl

/-- A list of moves that lies in memory. -/
def MvIn (w : World) (p : Option Addr) (l : List (Bool × Int × Int)) : Prop :=
  0 < l.length → ∃ b o, p = some ⟨b, o, none⟩ ∧ b < w.heap.size ∧ ∀ i, i < l.length →
    w.cell? ⟨b, o + i * 3, none⟩ = some (.bool (l.getD i (false, 0, 0)).1) ∧ w.cell? ⟨b, o + i * 3 + 1, none⟩ = some (.int .i64 (l.getD i (false, 0, 0)).2.1) ∧ w.cell? ⟨b, o + i * 3 + 2, none⟩ = some (.int .i64 (l.getD i (false, 0, 0)).2.2)

theorem MvIn.grown {w w' : World} {p : Option Addr} {l : List (Bool × Int × Int)} {X : Nat → Prop} (h : MvIn w p l) (k : Keeps X w w') (hX : ∀ b, X b → w.heap.size ≤ b) : MvIn w' p l := by
  intro h0
  obtain ⟨b, o, e, hb, hc⟩ := h h0
  have hn : ¬ X b := fun hx => by have := hX b hx; omega
  exact ⟨b, o, e, Nat.lt_of_lt_of_le hb k.size, fun i hi => ⟨k.cell (hc i hi).1 hn, k.cell (hc i hi).2.1 hn, k.cell (hc i hi).2.2 hn⟩⟩

theorem boolCells_none (n : Nat) : (boolCells (fun _ => false) n).toArray = madeCells #[.bool false] n := by
  apply Array.ext
  · simp [madeCells, boolCells]
  · intro i h1 h2
    simp [madeCells, boolCells, Nat.mod_one]
theorem hc_none (s : Sh) : hc s (fun _ => false) = 0 := cn_zero fun _ _ => rfl
theorem allS_mark (s : Sh) : ∀ j, s.data ≤ j → j < s.pages → allS s j = !(fun _ : Nat => false) j := by
  intro j h1 h2; simp [allS, h1, h2]

theorem duo_start {w2 w4 : World} {d : Nat} {s : Sh} (hp : PoolAt w4 d s (allS s)) (hk : Keeps (fun k => w2.heap.size ≤ k) w2 w4) (hd : w2.heap.size ≤ d) :
    Duo w2 w2.heap.size d (w4.heap.size + 1) w4.heap.size s (allS s) (fun _ => false) ((w4.alloc (.cells (madeCells #[.bool false] s.pages) 4)).alloc (.cells #[.int .i64 s.pages, .int .i64 s.inodes, .int .i64 s.cores, .int .i64 s.data, .slice (some ⟨w4.heap.size, 0, none⟩) s.pages s.pages, .int .i64 0] 35)).drew := by
  obtain ⟨n1, n2, n3, n4⟩ := two_new w4 (.cells (madeCells #[.bool false] s.pages) 4) (.cells #[.int .i64 s.pages, .int .i64 s.inodes, .int .i64 s.cores, .int .i64 s.data, .slice (some ⟨w4.heap.size, 0, none⟩) s.pages s.pages, .int .i64 0] 35)
  have hdl := heap_lt hp.at_
  have hks := hk.size
  have h1 := hp.kept n3 (by omega)
  refine ⟨⟨h1.at_, h1.good, h1.sup⟩, ⟨?_, ?_, by omega⟩, allS_mark s, by omega, by omega, (hk.then n3 (fun j hj => by left; omega)).trans (Keeps.drewN _ _ 1)⟩
  · rw [hc_none]; exact n2
  · rw [boolCells_none]; exact n1

theorem tdiv_wrap {x m : Int} (h : -9223372036854775808 ≤ x ∧ x ≤ 9223372036854775807) (hm : 1 < m) : IntKind.i64.wrap (x.tdiv m) = x.tdiv m := by
  by_cases h0 : 0 ≤ x
  · have h1 := Int.tdiv_nonneg h0 (show 0 ≤ m by omega)
    have h2 := Int.ediv_le_self m h0
    rw [Int.tdiv_eq_ediv_of_nonneg h0] at *
    exact i64_id (by omega) (by omega)
  · obtain ⟨y, rfl⟩ : ∃ y, x = -y := ⟨-x, by omega⟩
    rw [Int.neg_tdiv]
    have hy : 0 ≤ y := by omega
    have h1 := Int.tdiv_nonneg hy (show 0 ≤ m by omega)
    have h2 := Int.ediv_le_self m hy
    rw [Int.tdiv_eq_ediv_of_nonneg hy] at *
    exact i64_id (by omega) (by omega)

end Go.Proofs.Ytnafocbgapianab
