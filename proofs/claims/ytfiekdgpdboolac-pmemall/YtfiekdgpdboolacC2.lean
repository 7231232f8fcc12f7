import Derived.Test.YtfiekdgpdboolacC1
import Derived.Test.YtfiekdgpdboolacB3
namespace Go.Proofs.Ytfiekdgpdboolac
open Go.RowKit Go.Maps

/-- One step of the short scripts: 1 stores, 2 flushes, any other fences. -/
def St.note (S : St) (k a v : Int) (n : Nat) : St := if k = 1 then S.store (wordOf a n) v else if k = 2 then S.flush (wordOf a n) else S.fence

theorem note_len (S : St) (k a v : Int) (n : Nat) : (S.note k a v n).old.length = S.old.length := by
  unfold St.note
  split
  · rfl
  · split
    · rfl
    · simp [St.fence, fenced_len, St.tick]
theorem note_steps (S : St) (k a v : Int) (n : Nat) : (S.note k a v n).steps = S.steps + 1 := by
  unfold St.note
  split
  · rfl
  · split <;> rfl
theorem note_armed (S : St) (k a v : Int) (n : Nat) : (S.note k a v n).armed = S.armed := by
  unfold St.note
  split
  · rfl
  · split <;> rfl

end Go.Proofs.Ytfiekdgpdboolac
