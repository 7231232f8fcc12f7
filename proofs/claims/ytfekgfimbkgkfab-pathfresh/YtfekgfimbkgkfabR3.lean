import Derived.Test.YtfekgfimbkgkfabR2
namespace Go.Proofs.Ytfekgfimbkgkfab
open Go.ChangeShapes Go.WideShapes Go.ChangeAt Go.RowKit Go.Deep Go.Joins
/-- .. whose number is one of Go's too. -/
def OpOk2 (w : World) (o : OpP) : Prop := OpOk w o ∧ (Lit.int .i64 o.n).wf = true
variable {H : Type} {enc : TypeId × Value → H} {w : World} {spare : Nat → Bool} {held : Bool}

set_option maxRecDepth 100000 in
theorem open_opp2 {fuel : Nat} {cs' : List Value} {x : DataW H × List MemPlace} (h : DataW.trod enc Try.prog w 0 spare held fuel 52 cs' = some x) (hx : ∀ n ∈ x.1.weights Try.prog 52, n ≤ reachBytes) : ∃ o : OpP, cs' = opc o ∧ OpOk2 w o := by
  obtain ⟨xs, n, _, hxe, hl, hlen, hg⟩ := DataW.trod_struct Try.underlying52 h
  rw [Try.cells52] at hl
  match xs, hlen, cs', hl with
  | [y0, y1, y2, y3], _, [c0, c1, c2, c3, c4], _ =>
    have g0 := hg 0 _ rfl
    have g1 := hg 1 _ rfl
    have g2 := hg 2 _ rfl
    have g3 := hg 3 _ rfl
    simp [cells3, cells9, Try.cells25] at g0 g1 g2 g3
    obtain ⟨a0, e0, _, w0⟩ := DataW.trod_int Try.underlying3 g0
    obtain ⟨s1, e1, w1⟩ := open_str g1 (fun n hn => hx n (by
      rw [hxe]
      simp only [DataW.weights, Try.underlying52]
      exact DataW.weights_mem_each (j := 1) rfl rfl n hn))
    obtain ⟨v2, l2, sl2, e2, h2, k2⟩ := open_path g2 (fun n hn => hx n (by
      rw [hxe]
      simp only [DataW.weights, Try.underlying52]
      exact DataW.weights_mem_each (j := 2) rfl rfl n hn))
    obtain ⟨a3, e3, _, w3⟩ := DataW.trod_int Try.underlying3 g3
    simp at e0 e1 e2 e3
    obtain ⟨e2, e2'⟩ := e2
    subst e0 e1 e2 e2' e3
    exact ⟨⟨a0, s1, _, l2, _, a3⟩, rfl, ⟨h2, k2, w1⟩, w3⟩
theorem open_script2 {fuel : Nat} {v : Value} {x : DataW H × List MemPlace} (h : DataW.trod enc Try.prog w 0 spare held fuel 50 [v] = some x) (hx : ∀ n ∈ x.1.weights Try.prog 50, n ≤ reachBytes) :
    ∃ l : List OpP, Row w v l.length (opcs l) ∧ (∀ o ∈ l, OpOk2 w o) ∧ l.length ≤ 3518437208780 := by
  obtain ⟨l, h1, h2, h3⟩ := open_row opc (OpOk2 w) Try.underlying50 Try.cells52 (by omega) Try.bytes52 (fun _ => rfl) (fun h hw => open_opp2 h hw) h hx
  refine ⟨l, h1, h2, ?_⟩
  unfold reachBytes at h3; omega
end Go.Proofs.Ytfekgfimbkgkfab
