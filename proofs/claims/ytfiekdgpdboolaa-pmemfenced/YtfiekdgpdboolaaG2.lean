import Derived.Test.YtfiekdgpdboolaaG1
namespace Go.Proofs.Ytfiekdgpdboolaa
open Go.ChangeShapes Go.WideShapes Go.ChangeAt Go.RowKit Go.Deep Go.Joins

theorem Try.cells43 : Try.prog.cellsOf 43 = 6 := by kernel_rfl
theorem Try.cells22 : Try.prog.cellsOf 22 = 1 := by kernel_rfl
theorem Try.cells23 : Try.prog.cellsOf 23 = 1 := by kernel_rfl

theorem array6 {α : Type} {cs : Array α} (h : cs.size = 6) : ∃ c0 c1 c2 c3 c4 c5, cs = #[c0, c1, c2, c3, c4, c5] := by
  obtain ⟨l⟩ := cs
  match l, h with
  | [c0, c1, c2, c3, c4, c5], _ => exact ⟨c0, c1, c2, c3, c4, c5, rfl⟩

set_option maxRecDepth 100000 in
/-- The statement's argument, opened. -/
theorem open_fenced {H : Type} {enc : TypeId × Value → H} {w : World} {r : Reach} {b0 : Nat} {spare : Nat → Bool} {held : Bool} {v : Value} {d : DataW H} {p : List MemPlace}
    (hv : Value.okWide Try.prog w r b0 43 v) (h : DataW.Trod enc Try.prog w 0 spare held 43 v d p) :
    ∃ (pages at_ V : Int) (pp qp cp : Option Addr) (pcap qcap ccap : Nat) (pre post : List Note3) (cs : List Int),
      v = .agg #[.int .i64 pages, .slice pp pre.length pcap, .int .i64 at_, .int .u64 V, .slice qp post.length qcap, .slice cp cs.length ccap] ∧ NotesAt w pp pre ∧ NotesAt w qp post ∧
      (0 < cs.length → ∃ cb co, cp = some ⟨cb, co, none⟩ ∧ cb < w.heap.size ∧ ∀ i, i < cs.length → w.cell? ⟨cb, co + i, none⟩ = some (.int .i64 (cs.getD i 0))) ∧
      (0 ≤ V ∧ V < 18446744073709551616) ∧ pre.length ≤ maxLen ∧ post.length ≤ maxLen ∧ cs.length ≤ maxLen := by
  obtain ⟨cs, rfl, hsz⟩ := okWide_struct Try.underlying43 hv
  obtain ⟨c0, c1, c2, c3, c4, c5, rfl⟩ := array6 (hsz.trans Try.cells43)
  obtain ⟨fuel, hf⟩ := h
  obtain ⟨xs, n, _, _, hl, hlen, hg⟩ := DataW.trod_struct Try.underlying43 hf
  match xs, hlen with
  | [y0, y1, y2, y3, y4, y5], _ =>
    have g0 := hg 0 _ rfl
    have g1 := hg 1 _ rfl
    have g2 := hg 2 _ rfl
    have g3 := hg 3 _ rfl
    have g4 := hg 4 _ rfl
    have g5 := hg 5 _ rfl
    simp [Try.cells3, Try.cells30, Try.cells22, Try.cells23, Value.cells] at g0 g1 g2 g3 g4 g5
    obtain ⟨a0, e0, _, _⟩ := DataW.trod_int Try.underlying3 g0
    obtain ⟨a2, e2, _, _⟩ := DataW.trod_int Try.underlying3 g2
    obtain ⟨a3, e3, _, w3⟩ := DataW.trod_int Try.underlying30 g3
    simp at e0 e2 e3
    subst e0 e2 e3
    obtain ⟨pp, pcap, pre, rfl, hp1, hp2⟩ := open_notes g1
    obtain ⟨qp, qcap, post, rfl, hq1, hq2⟩ := open_notes g4
    obtain ⟨cp, ccap, cs, rfl, hc1, hc2⟩ := open_choices g5
    exact ⟨a0, a2, a3, pp, qp, cp, pcap, qcap, ccap, pre, post, cs, rfl, hp1, hq1, hc1, wf_u64 w3, hp2, hq2, hc2⟩

set_option maxRecDepth 100000 in
theorem fenced_lifted (os : Os) (started : os.Started) (H : Type) (enc : TypeId × Value → H) :
    ReturnsInHanded {} Try.checked os 4 .any (Rows.pmemFencedSpec.pre6 enc Try.prog Try.f4 Rows.pmemFencedRow.domain false) (Rows.pmemFencedSpec.post enc Try.prog Try.f4 false true false false) := by
  refine returnsInHanded_of_change (C := Try.checked) Try.own started (by kernel_rfl) Try.func4
    (ChangeSpec.witness6 (enc := enc) (C := Try.checked) false ⟨#[], #[.agg #[.int .i64 0, .slice none 0 0, .int .i64 0, .int .u64 0, .slice none 0 0, .slice none 0 0]], []⟩ 8 (by kernel_rfl) (by kernel_rfl) (by kernel_rfl) (by kernel_rfl)) ?_
  intro W base args ds gs before hval0 hW hcnd _
  have hval : ∀ (j : Nat) t v, Try.f4.params[j]? = some t → args[j]? = some v → Value.okWide Try.prog W .any base t v := hval0
  have hW' := hW
  obtain ⟨p, q, hA0, hV, rfl, hfz, hnd⟩ := hW
  have hA : DataW.TrodAll enc Try.prog W 0 (fun _ => true) true Try.f4.params.toList args.toList ds p := hA0
  rw [Try.params4] at hA hval
  obtain ⟨v0, vs0, d0, ds0, p0, q0, hargs, rfl, rfl, h0, r0⟩ := trodAll_cons hA
  obtain ⟨rfl, rfl, rfl⟩ := trodAll_nil r0
  obtain rfl : args = #[v0] := by cases args; simp_all
  obtain ⟨rfl, rfl⟩ := trodVars_none hV
  have k0 := h0
  have lt0 : ∀ x ∈ p0, x.block < W.heap.size := by obtain ⟨m, hm⟩ := k0; exact DataW.trod_lt m _ _ _ hm
  obtain ⟨pages, at_, V, pp, qp, cp, pcap, qcap, ccap, pre, post, cs, rfl, hp, hq, hc, hV', l1, l2, l3⟩ := open_fenced (hval 0 43 v0 rfl rfl) h0
  clear hA0
  simp only [List.append_nil] at hW'
  refine (fenced_walk W pages at_ V pp qp cp pcap qcap ccap pre post cs hp hq hc hV' l1 l2 l3).mono fun e W' ⟨he, bel⟩ => ?_
  subst he
  exact ⟨_, rfl, _, _, _, [], _, [], hW', trodAll_mk1 (shut_bool Try.underlying4 _), (trodAll_cons_mk (Below.trod Try.laidOut (by kernel_rfl) (of_decide_eq_true (by kernel_rfl)) k0 bel lt0) trodAll_mk0), rfl, bel.frame _, fun h => by cases h⟩

theorem fenced_holds_row : Rows.PmemFencedSaid :=
  OpenClaim.holds_of_wide 4 Try.f4 rfl rfl rfl rfl rfl rfl rfl ⟨rfl, rfl, rfl, rfl, rfl⟩ rfl rfl rfl rfl rfl (by kernel_rfl) Try.func4 (by kernel_rfl)
    (of_decide_eq_true (by kernel_rfl)) (by unfold Func.isWrapper; first | (rw [if_pos (by decide +kernel)]; kernel_rfl) | (rw [if_neg (by decide +kernel)]; exact ⟨rfl, rfl⟩))
    (fun os started H enc _ => fenced_lifted os started H enc)

end Go.Proofs.Ytfiekdgpdboolaa
