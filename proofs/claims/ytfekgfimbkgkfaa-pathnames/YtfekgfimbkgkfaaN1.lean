import Derived.Test.YtfekgfimbkgkfaaR0
namespace Go.Proofs.Ytfekgfimbkgkfaa
open Go.RowKit Go.Maps

set_option maxHeartbeats 1000000 in
set_option maxRecDepth 100000 in
theorem names_walk (w : World) : Calls Try.prog 3 #[] w fun e w' => e = .returned (.bool true) ∧ Keeps (fun _ => False) w w' := by
  have hf := first_any w
  go_enter Try.func3, Try.ntmps3
  go_wp2_with (first | (go_at_call 9; refine hf.mono ?_; clear hf; rintro e w1 ⟨rfl, hk⟩))
  go_ret
  exact ⟨rfl, hk⟩
end Go.Proofs.Ytfekgfimbkgkfaa
