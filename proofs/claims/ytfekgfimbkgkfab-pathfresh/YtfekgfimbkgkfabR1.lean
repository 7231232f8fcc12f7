import Derived.Test.YtfekgfimbkgkfabR0
namespace Go.Proofs.Ytfekgfimbkgkfab
open Go.ChangeShapes Go.WideShapes Go.ChangeAt Go.RowKit Go.Deep Go.Joins
variable {H : Type} {enc : TypeId × Value → H} {w : World} {spare : Nat → Bool} {held : Bool}
theorem open_parts2 {fuel : Nat} {v : Value} {x : DataW H × List MemPlace} (h : DataW.trod enc Try.prog w 0 spare held fuel 23 [v] = some x) (hx : ∀ n ∈ x.1.weights Try.prog 23, n ≤ reachBytes) :
    ∃ l : List ByteArray, Row w v l.length (strs l) ∧ PsOk l ∧ l.length ≤ 8796093021952 := by
  obtain ⟨l, h1, h2, h3⟩ := open_row (fun s => [Value.string s]) (fun s => s.size ≤ 140737488355328) Try.underlying23 (k := 1) (by kernel_rfl) (by omega) Try.bytes9 (fun _ => rfl) (fun h hw => open_str h hw) h hx
  rw [flat_strs] at h1
  unfold reachBytes at h3
  exact ⟨l, h1, ⟨by omega, fun s hs => by have := h2 s hs; omega⟩, by omega⟩
set_option maxRecDepth 100000 in
/-- A path, opened, with the tight bound. -/
theorem open_path2 {fuel : Nat} {cs' : List Value} {x : DataW H × List MemPlace} (h : DataW.trod enc Try.prog w 0 spare held fuel 25 cs' = some x) (hx : ∀ n ∈ x.1.weights Try.prog 25, n ≤ reachBytes) :
    ∃ (v : Value) (l : List ByteArray) (sl : Bool), cs' = [v, .bool sl] ∧ Row w v l.length (strs l) ∧ PsOk l ∧ l.length ≤ 8796093021952 := by
  obtain ⟨xs, n, _, hxe, hl, hlen, hg⟩ := DataW.trod_struct Try.underlying25 h
  rw [Try.cells25] at hl
  match xs, hlen, cs', hl with
  | [y0, y1], _, [c0, c1], _ =>
    have g0 := hg 0 _ rfl
    have g1 := hg 1 _ rfl
    simp [Try.cells23, Try.cells4] at g0 g1
    obtain ⟨l, h1, h2⟩ := open_parts2 g0 (fun n hn => hx n (by
      rw [hxe]
      simp only [DataW.weights, Try.underlying25]
      exact DataW.weights_mem_each (j := 0) rfl rfl n hn))
    obtain ⟨b1, e1, _⟩ := DataW.trod_bool Try.underlying4 g1
    simp at e1
    subst e1
    exact ⟨c0, l, b1, rfl, h1, h2⟩
end Go.Proofs.Ytfekgfimbkgkfab
