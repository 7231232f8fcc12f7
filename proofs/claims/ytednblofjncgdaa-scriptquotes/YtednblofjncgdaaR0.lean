import Derived.Test.YtednblofjncgdaaB3
import Derived.Test.YtednblofjncgdaaRows
import Derived.ProofKit
import Derived.OpenShut
import Derived.SizedLaws
import Derived.Deep.Slices
import Derived.Deep.Strs
import Derived.Lib.SmallJoins
namespace Go.Proofs.Ytednblofjncgdaa
open Go.ChangeShapes Go.WideShapes Go.ChangeAt Go.RowKit Go.Deep Go.Joins

theorem Try.own : ownKnob Try.prog.godebug = none := by kernel_rfl
theorem Try.laidOut : laidOutB Try.prog = true := by kernel_rfl
theorem open_str {H : Type} {enc : TypeId × Value → H} {w : World} {spare : Nat → Bool} {held : Bool} {fuel : Nat} {cs : List Value} {x : DataW H × List MemPlace} (h : DataW.trod enc Try.prog w 0 spare held fuel 9 cs = some x) (hx : ∀ n ∈ x.1.weights Try.prog 9, n ≤ reachBytes) : ∃ s : ByteArray, cs = [.string s] ∧ s.size ≤ 140737488355328 := by
  obtain ⟨s, e, hd, hs⟩ := DataW.trod_string Try.underlying9 h
  refine ⟨s, e, ?_⟩
  have := hx s.data.toList.length (by rw [hd]; simp [DataW.weights])
  rw [← size_len] at this
  unfold reachBytes at this; omega
theorem quotes_row (w : World) (s : ByteArray) (_ : s.size ≤ 140737488355328) : Calls Try.prog 3 #[.string s] w fun e w' => e = .returned (.bool true) ∧ Keeps (fun _ => False) w w' := quotes_walk w s
theorem unquotes_row (w : World) (s : ByteArray) (_ : s.size ≤ 140737488355328) : Calls Try.prog 5 #[.string s] w fun e w' => e = .returned (.bool true) ∧ Keeps (fun _ => False) w w' := unquotes_walk w s
theorem quoted_row (w : World) (s : ByteArray) (hs : s.size ≤ 140737488355328) (t : ByteArray) (ht : t.size ≤ 140737488355328) : Calls Try.prog 4 #[.string s, .string t] w fun e w' => e = .returned (.bool true) ∧ Keeps (fun _ => False) w w' := quoted_walk w s t (by omega) (by omega)
end Go.Proofs.Ytednblofjncgdaa
