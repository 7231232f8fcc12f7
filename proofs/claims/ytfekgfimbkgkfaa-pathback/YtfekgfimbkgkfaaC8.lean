import Derived.Test.YtfekgfimbkgkfaaC7
namespace Go.Proofs.Ytfekgfimbkgkfaa
open Go.RowKit Go.Maps

theorem own_cut {w : World} {base cap : Nat} {a : Option Addr} {l : List ByteArray} {s : ByteArray} (h : w.ownsRow base 9 1 (.slice a (l.length + 1) cap) (l.length + 1) (strs (l ++ [s]))) : w.ownsRow base 9 1 (.slice a l.length cap) l.length (strs l) := by
  refine ⟨by rw [strs_len, Nat.mul_one], Or.inr ?_⟩
  rcases h.2 with ⟨h0, _⟩ | ⟨g, cap', cur, e, hg, hb, hc, hm, hs, ht⟩
  · cases h0
  · cases e
    refine ⟨g, cap, cur, rfl, hg, hb, by omega, hm, hs, ?_⟩
    have h3 := congrArg (List.take (l.length * 1)) ht
    have e2 : strs (l ++ [s]) = strs l ++ [.string s] := by simp [strs]
    rw [List.take_take, e2, List.take_append_of_le_length (by rw [strs_len]; omega), List.take_of_length_le (l := strs l) (by rw [strs_len]; omega)] at h3
    rw [← h3]
    congr 1
    omega

/-- What Clean's loop holds. -/
def ClI (W0 wr : World) (base : Nat) (p : List ByteArray) (k : Nat) (v : Value) : Prop :=
  wr.ownsRow base 9 1 v (clR (p.take k)).length (strs (clR (p.take k)).reverse) ∧ Keeps (fun _ => False) W0 wr

theorem two_blocks (w : World) (o1 o2 : Obj) : ((w.alloc o1).alloc o2).heap[w.heap.size]? = some o1 ∧ ((w.alloc o1).alloc o2).heap[w.heap.size + 1]? = some o2 ∧ Keeps (fun _ => False) w ((w.alloc o1).alloc o2) ∧ ((w.alloc o1).alloc o2).heap.size = w.heap.size + 2 := by
  have b1 := heap_last w o1
  have b2 := heap_last (w.alloc o1) o2
  rw [World.size_alloc] at b2
  exact ⟨((Keeps.refl (fun _ => False) (w.alloc o1)).alloc o2).at b1 id, b2, ((Keeps.refl _ w).alloc _).alloc _, by rw [World.size_alloc, World.size_alloc]⟩

end Go.Proofs.Ytfekgfimbkgkfaa
