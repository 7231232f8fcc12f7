import Derived.Test.YtfekgfimbkgkfaaA6
import Derived.Test.YtfekgfimbkgkfaaE0
namespace Go.Proofs.Ytfekgfimbkgkfaa
open Go.RowKit Go.Maps

/-- What PathBack's loop holds while all is good. -/
def BkI (q : List ByteArray) (k S : Nat) : Prop := (q.take k).all okPart = true ∧ wide (q.take k) = S ∧ S ≤ 229
theorem bk_bad {q : List ByteArray} {sl : Bool} {k : Nat} (hk : k < q.length) (h : okPart (q.getD k bz) = false ∨ 200 < wide (q.take k)) : tells q sl = false := by
  refine tl_bad hk (h.imp id (fun h => ?_))
  rw [take_getD bz hk, wide_snoc]; omega
theorem bk_step {q : List ByteArray} {k S : Nat} (h : BkI q k S) (hk : k < q.length) (h1 : okPart (q.getD k bz) = true) (h2 : S ≤ 200) : BkI q (k + 1) (S + (1 + (q.getD k bz).size)) := by
  have h28 := (okPart_iff.1 h1).2.1
  refine ⟨?_, ?_, by omega⟩
  · rw [take_getD bz hk, List.all_append, h.1, List.all_cons, h1]; rfl
  · rw [take_getD bz hk, wide_snoc, h.2.1]
theorem txt_len (q : List ByteArray) (sl : Bool) : (txt q sl).length = wide q + (if (sl || q.isEmpty) = true then 1 else 0) := by
  unfold txt wide
  rw [List.length_append]
  split <;> rfl
theorem bk_end {q : List ByteArray} {sl : Bool} {S : Nat} (h : BkI q q.length S) (h0 : (q.isEmpty && sl) = false) : tells q sl = decide (S + (if (sl || q.isEmpty) = true then 1 else 0) ≤ 200) := by
  have h1 := h.1
  have h2 := h.2.1
  rw [List.take_length] at h1 h2
  unfold tells
  rw [h0, h1, txt_len, h2]; simp
end Go.Proofs.Ytfekgfimbkgkfaa
