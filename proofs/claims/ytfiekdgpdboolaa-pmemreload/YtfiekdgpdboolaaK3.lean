import Derived.Test.YtfiekdgpdboolaaG1
import Derived.Test.YtfiekdgpdboolaaK2
namespace Go.Proofs.Ytfiekdgpdboolaa
open Go.ChangeShapes Go.WideShapes Go.ChangeAt Go.RowKit Go.Deep Go.Joins

theorem Try.cells65 : Try.prog.cellsOf 65 = 4 := by kernel_rfl
theorem Try.cells22r : Try.prog.cellsOf 22 = 1 := by kernel_rfl
theorem Try.cells23r : Try.prog.cellsOf 23 = 1 := by kernel_rfl

set_option maxRecDepth 100000 in
/-- The statement's argument, opened. -/
theorem open_again {H : Type} {enc : TypeId × Value → H} {w : World} {r : Reach} {b0 : Nat} {spare : Nat → Bool} {held : Bool} {v : Value} {d : DataW H} {p : List MemPlace}
    (hv : Value.okWide Try.prog w r b0 65 v) (h : DataW.Trod enc Try.prog w 0 spare held 65 v d p) :
    ∃ (pages : Int) (pp cp mp : Option Addr) (pcap ccap mcap : Nat) (l : List Note3) (cs ms : List Int),
      v = .agg #[.int .i64 pages, .slice pp l.length pcap, .slice cp cs.length ccap, .slice mp ms.length mcap] ∧ NotesAt w pp l ∧
      (0 < cs.length → ∃ cb co, cp = some ⟨cb, co, none⟩ ∧ cb < w.heap.size ∧ ∀ i, i < cs.length → w.cell? ⟨cb, co + i, none⟩ = some (.int .i64 (cs.getD i 0))) ∧
      (0 < ms.length → ∃ cb co, mp = some ⟨cb, co, none⟩ ∧ cb < w.heap.size ∧ ∀ i, i < ms.length → w.cell? ⟨cb, co + i, none⟩ = some (.int .i64 (ms.getD i 0))) ∧
      l.length ≤ maxLen ∧ cs.length ≤ maxLen ∧ ms.length ≤ maxLen := by
  obtain ⟨cs, rfl, hsz⟩ := okWide_struct Try.underlying65 hv
  obtain ⟨c0, c1, c2, c3, rfl⟩ := array4 (hsz.trans Try.cells65)
  obtain ⟨fuel, hf⟩ := h
  obtain ⟨xs, n, _, _, hl, hlen, hg⟩ := DataW.trod_struct Try.underlying65 hf
  match xs, hlen with
  | [y0, y1, y2, y3], _ =>
    have g0 := hg 0 _ rfl
    have g1 := hg 1 _ rfl
    have g2 := hg 2 _ rfl
    have g3 := hg 3 _ rfl
    simp [Try.cells3, Try.cells22r, Try.cells23r, Value.cells] at g0 g1 g2 g3
    obtain ⟨a0, e0, _, _⟩ := DataW.trod_int Try.underlying3 g0
    simp at e0
    subst e0
    obtain ⟨pp, pcap, pre, rfl, hp1, hp2⟩ := open_notes g1
    obtain ⟨cp, ccap, cs, rfl, hc1, hc2⟩ := open_choices g2
    obtain ⟨mp, mcap, ms, rfl, hm1, hm2⟩ := open_choices g3
    exact ⟨a0, pp, cp, mp, pcap, ccap, mcap, pre, cs, ms, rfl, hp1, hc1, hm1, hp2, hc2, hm2⟩

set_option maxRecDepth 100000 in
theorem reload_lifted (os : Os) (started : os.Started) (H : Type) (enc : TypeId × Value → H) :
    ReturnsInHanded {} Try.checked os 8 .any (Rows.pmemReloadSpec.pre6 enc Try.prog Try.f8 Rows.pmemReloadRow.domain false) (Rows.pmemReloadSpec.post enc Try.prog Try.f8 false true false false) := by
  refine returnsInHanded_of_change (C := Try.checked) Try.own started (by kernel_rfl) Try.func8
    (ChangeSpec.witness6 (enc := enc) (C := Try.checked) false ⟨#[], #[.agg #[.int .i64 0, .slice none 0 0, .slice none 0 0, .slice none 0 0]], []⟩ 8 (by kernel_rfl) (by kernel_rfl) (by kernel_rfl) (by kernel_rfl)) ?_
  intro W base args ds gs before hval0 hW hcnd _
  have hval : ∀ (j : Nat) t v, Try.f8.params[j]? = some t → args[j]? = some v → Value.okWide Try.prog W .any base t v := hval0
  have hW' := hW
  obtain ⟨p, q, hA0, hV, rfl, hfz, hnd⟩ := hW
  have hA : DataW.TrodAll enc Try.prog W 0 (fun _ => true) true Try.f8.params.toList args.toList ds p := hA0
  rw [Try.params8] at hA hval
  obtain ⟨v0, vs0, d0, ds0, p0, q0, hargs, rfl, rfl, h0, r0⟩ := trodAll_cons hA
  obtain ⟨rfl, rfl, rfl⟩ := trodAll_nil r0
  obtain rfl : args = #[v0] := by cases args; simp_all
  obtain ⟨rfl, rfl⟩ := trodVars_none hV
  have k0 := h0
  have lt0 : ∀ x ∈ p0, x.block < W.heap.size := by obtain ⟨m, hm⟩ := k0; exact DataW.trod_lt m _ _ _ hm
  obtain ⟨pages, pp, cp, mp, pcap, ccap, mcap, l, cs, ms, rfl, hp, hc, hm, l1, l2, l3⟩ := open_again (hval 0 65 v0 rfl rfl) h0
  clear hA0
  simp only [List.append_nil] at hW'
  refine (reload_walk W pages pp cp mp pcap ccap mcap l cs ms hp hc hm l1 l2 l3).mono fun e W' ⟨he, bel⟩ => ?_
  subst he
  exact ⟨_, rfl, _, _, _, [], _, [], hW', trodAll_mk1 (shut_bool Try.underlying4 _), (trodAll_cons_mk (Below.trod Try.laidOut (by kernel_rfl) (of_decide_eq_true (by kernel_rfl)) k0 bel lt0) trodAll_mk0), rfl, bel.frame _, fun h => by cases h⟩

theorem reload_holds_row : Rows.PmemReloadSaid :=
  OpenClaim.holds_of_wide 8 Try.f8 rfl rfl rfl rfl rfl rfl rfl ⟨rfl, rfl, rfl, rfl, rfl⟩ rfl rfl rfl rfl rfl (by kernel_rfl) Try.func8 (by kernel_rfl)
    (of_decide_eq_true (by kernel_rfl)) (by unfold Func.isWrapper; first | (rw [if_pos (by decide +kernel)]; kernel_rfl) | (rw [if_neg (by decide +kernel)]; exact ⟨rfl, rfl⟩))
    (fun os started H enc _ => reload_lifted os started H enc)

end Go.Proofs.Ytfiekdgpdboolaa
