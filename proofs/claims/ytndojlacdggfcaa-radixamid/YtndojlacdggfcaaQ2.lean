import Derived.Test.YtndojlacdggfcaaQ1
import Derived.Test.YtndojlacdggfcaaQ3
import Derived.Test.YtndojlacdggfcaaR1
import Derived.SizedLaws
namespace Go.Proofs.Ytndojlacdggfcaa
open Go.ChangeShapes Go.WideShapes Go.ChangeAt Go.RowKit Go.Deep Go.Joins

theorem Try.cells52 : Try.prog.cellsOf 52 = 4 := by kernel_rfl
theorem Try.cells22 : Try.prog.cellsOf 22 = 1 := by kernel_rfl

section
variable {H : Type} {enc : TypeId × Value → H} {w : World} {spare : Nat → Bool} {held : Bool}
set_option maxRecDepth 100000 in
theorem open_amid {fuel : Nat} {cs' : List Value} {x : DataW H × List MemPlace} (h : DataW.trod enc Try.prog w 0 spare held fuel 52 cs' = some x) :
    ∃ p cap l fr ct vv, cs' = [.slice p (List.length l) cap, .int .i64 fr, .int .i64 ct, .int .i64 vv] ∧ PutsIn w p l ∧ l.length ≤ maxLen := by
  obtain ⟨xs, n, _, hxe, hl, hlen, hg⟩ := DataW.trod_struct Try.underlying52 h
  rw [Try.cells52] at hl
  match xs, hlen, cs', hl with
  | [y0, y1, y2, y3], _, [c0, c1, c2, c3], _ =>
    have g0 := hg 0 _ rfl
    have g1 := hg 1 _ rfl
    have g2 := hg 2 _ rfl
    have g3 := hg 3 _ rfl
    simp [Try.cells3, Try.cells22] at g0 g1 g2 g3
    obtain ⟨p, cap, l, e0, hP, hL, _⟩ := open_puts g0
    obtain ⟨a1, e1, _, _⟩ := DataW.trod_int Try.underlying3 g1
    obtain ⟨a2, e2, _, _⟩ := DataW.trod_int Try.underlying3 g2
    obtain ⟨a3, e3, _, _⟩ := DataW.trod_int Try.underlying3 g3
    simp at e1 e2 e3
    subst e0 e1 e2 e3
    exact ⟨p, cap, l, a1, a2, a3, rfl, hP, hL⟩
end

theorem amid_walk (w : World) (p : Option Addr) (l : List Put) (cap : Nat) (fr ct vv : Int) (hp : PutsIn w p l) (hl : l.length ≤ maxLen) :
    Calls Try.prog 5 #[.agg #[.slice p l.length cap, .int .i64 fr, .int .i64 ct, .int .i64 vv]] w fun e w' => e = .returned (.bool true) ∧ Keeps (fun _ => False) w w' := by
  by_cases hv0 : vv = 0
  · exact amid_zero w p l cap fr ct vv hp hl hv0
  · exact amid_some w p l cap fr ct vv hp hl hv0

set_option maxHeartbeats 1000000 in
set_option maxRecDepth 100000 in
theorem ramid_lifted (os : Os) (started : os.Started) (H : Type) (enc : TypeId × Value → H) :
    ReturnsInHanded {} Try.checked os 5 .any (Rows.radixAmidSpec.pre6 enc Try.prog Try.f5 Rows.radixAmidRow.domain false) (Rows.radixAmidSpec.post enc Try.prog Try.f5 false true false false) := by
  refine returnsInHanded_of_change_sized (C := Try.checked) Try.own started (by kernel_rfl) Try.func5
    (ChangeSpec.witness6 (enc := enc) (C := Try.checked) false ⟨#[], #[.agg #[.slice none 0 0, .int .i64 0, .int .i64 0, .int .i64 0]], []⟩ 8 (by kernel_rfl) (by kernel_rfl) (by kernel_rfl) (by kernel_rfl)) ?_
  intro W base args ds gs before hval0 hW _ _ _
  have hval : ∀ (j : Nat) t v, Try.f5.params[j]? = some t → args[j]? = some v → Value.okWide Try.prog W .any base t v := hval0
  have hW' := hW
  obtain ⟨p, q, hA0, hV, rfl, hfz, hnd⟩ := hW'
  have hA : DataW.TrodAll enc Try.prog W 0 (fun _ => true) true Try.f5.params.toList args.toList ds p := hA0
  rw [Try.params5] at hA hval
  obtain ⟨v0, vs0, d0, ds0, p0, q0, hargs, rfl, rfl, h0, r0⟩ := trodAll_cons hA
  obtain ⟨rfl, rfl, rfl⟩ := trodAll_nil r0
  obtain rfl : args = #[v0] := by cases args; simp_all
  obtain ⟨rfl, rfl⟩ := trodVars_none hV
  have k0 := h0
  have lt0 : ∀ x ∈ p0, x.block < W.heap.size := by obtain ⟨m, hm⟩ := k0; exact DataW.trod_lt m _ _ _ hm
  obtain ⟨fuel0, hf0⟩ := h0
  obtain ⟨cs0, rfl, hcs⟩ := okWide_struct Try.underlying52 (hval 0 52 v0 rfl rfl)
  obtain ⟨pp0, cap0, l0, fr, ct, vv, e0, hm0, hn0⟩ := open_amid (cs' := cs0.toList) (by simpa [Value.cells] using hf0)
  obtain rfl : cs0 = #[.slice pp0 l0.length cap0, .int .i64 fr, .int .i64 ct, .int .i64 vv] := by
    apply Array.ext'
    rw [e0]
  clear hA0
  simp only [List.append_nil] at hW
  refine (amid_walk W pp0 l0 cap0 fr ct vv hm0 hn0).mono fun e W' ⟨he, bel0⟩ => ?_
  have bel : Below W.heap.size W W' := bel0.to_below
  subst he
  exact ⟨_, rfl, _, _, _, [], _, [], hW, trodAll_mk1 (shut_bool Try.underlying4 _), (trodAll_cons_mk (Below.trod Try.laidOut (by kernel_rfl) (of_decide_eq_true (by kernel_rfl)) k0 bel lt0) trodAll_mk0), rfl, bel.frame _, fun h => by cases h⟩

theorem ramid_holds : Rows.RadixAmidSaid :=
  OpenClaim.holds_of_wide 5 Try.f5 rfl rfl rfl rfl rfl rfl rfl ⟨rfl, rfl, rfl, rfl, rfl⟩ rfl rfl rfl rfl rfl (by kernel_rfl) Try.func5 (by kernel_rfl)
    (of_decide_eq_true (by kernel_rfl)) (by unfold Func.isWrapper; first | (rw [if_pos (by decide +kernel)]; kernel_rfl) | (rw [if_neg (by decide +kernel)]; exact ⟨rfl, rfl⟩))
    (fun os started H enc _ => ramid_lifted os started H enc)

end Go.Proofs.Ytndojlacdggfcaa
