import Derived.Test.YtnafocbgapianabW7
import Derived.Test.YtnafocbgapianabR0
import Derived.SizedLaws
namespace Go.Proofs.Ytnafocbgapianab
open Go.ChangeShapes Go.WideShapes Go.ChangeAt Go.RowKit Go.Deep Go.Joins

theorem Try.cells75 : Try.prog.cellsOf 75 = 11 := by kernel_rfl
theorem Try.cells24 : Try.prog.cellsOf 24 = 4 := by kernel_rfl
theorem Try.cells30 : Try.prog.cellsOf 30 = 1 := by kernel_rfl
theorem Try.cells49 : Try.prog.cellsOf 49 = 1 := by kernel_rfl

variable {H : Type} {enc : TypeId × Value → H} {w : World} {spare : Nat → Bool} {held : Bool}

theorem open_sliceV {t e : TypeId} (ht : Try.prog.underlying t = some (.slice e)) {fuel : Nat} {v : Value} {x : DataW H × List MemPlace} (h : DataW.trod enc Try.prog w 0 spare held fuel t [v] = some x) : ∃ p n c, v = .slice p n c := by
  rcases open_slice ht h with ⟨h0, _⟩ | ⟨a, len, cap, m, n, D, Pl, hcs, _⟩
  · cases h0; exact ⟨none, 0, 0, rfl⟩
  · cases hcs; exact ⟨_, _, _, rfl⟩

set_option maxRecDepth 100000 in
theorem open_op {fuel : Nat} {cs' : List Value} {x : DataW H × List MemPlace} (h : DataW.trod enc Try.prog w 0 spare held fuel 75 cs' = some x) :
    ∃ t : OpT, cs' = [.int .i64 t.k, .int .i64 t.A, .int .i64 t.Bq, .int .i64 t.N, .int .i64 t.M, .slice t.pp t.pn t.pc, .slice t.sq t.sn t.sc, .int .i64 t.s0, .int .i64 t.s1, .int .i64 t.s2, .int .i64 t.s3] := by
  obtain ⟨xs, n, _, hxe, hl, hlen, hg⟩ := DataW.trod_struct Try.underlying75 h
  rw [Try.cells75] at hl
  match xs, hlen, cs', hl with
  | [y0, y1, y2, y3, y4, y5, y6, y7], _, [c0, c1, c2, c3, c4, c5, c6, c7, c8, c9, c10], _ =>
    have g0 := hg 0 _ rfl
    have g1 := hg 1 _ rfl
    have g2 := hg 2 _ rfl
    have g3 := hg 3 _ rfl
    have g4 := hg 4 _ rfl
    have g5 := hg 5 _ rfl
    have g6 := hg 6 _ rfl
    have g7 := hg 7 _ rfl
    simp [Try.cells3, Try.cells24, Try.cells30, Try.cells49] at g0 g1 g2 g3 g4 g5 g6 g7
    obtain ⟨a0, e0, _, _⟩ := DataW.trod_int Try.underlying3 g0
    obtain ⟨a1, e1, _, _⟩ := DataW.trod_int Try.underlying3 g1
    obtain ⟨a2, e2, _, _⟩ := DataW.trod_int Try.underlying3 g2
    obtain ⟨a3, e3, _, _⟩ := DataW.trod_int Try.underlying3 g3
    obtain ⟨a4, e4, _, _⟩ := DataW.trod_int Try.underlying3 g4
    obtain ⟨p5, n5, c5', e5⟩ := open_sliceV Try.underlying49 g5
    obtain ⟨p6, n6, c6', e6⟩ := open_sliceV Try.underlying30 g6
    obtain ⟨xs7, n7, _, _, hl7, hlen7, hg7⟩ := DataW.trod_struct Try.underlying24 g7
    match xs7, hlen7 with
    | [z0, z1, z2, z3], _ =>
      have k0 := hg7 0 _ rfl
      have k1 := hg7 1 _ rfl
      have k2 := hg7 2 _ rfl
      have k3 := hg7 3 _ rfl
      simp [Try.cells3] at k0 k1 k2 k3
      obtain ⟨b0, f0, _, _⟩ := DataW.trod_int Try.underlying3 k0
      obtain ⟨b1, f1, _, _⟩ := DataW.trod_int Try.underlying3 k1
      obtain ⟨b2, f2, _, _⟩ := DataW.trod_int Try.underlying3 k2
      obtain ⟨b3, f3, _, _⟩ := DataW.trod_int Try.underlying3 k3
      simp at e0 e1 e2 e3 e4 f0 f1 f2 f3
      subst e0 e1 e2 e3 e4 e5 e6 f0 f1 f2 f3
      exact ⟨⟨a0, a1, a2, a3, a4, p5, n5, c5', p6, n6, c6', b0, b1, b2, b3⟩, rfl⟩

set_option maxRecDepth 100000 in
/-- A script, opened. -/
theorem open_ops {fuel : Nat} {v : Value} {x : DataW H × List MemPlace} (h : DataW.trod enc Try.prog w 0 spare held fuel 64 [v] = some x) :
    ∃ p cap l, v = .slice p l.length cap ∧ OpIn w p l ∧ l.length ≤ maxLen := by
  rcases open_slice Try.underlying64 h with ⟨h0, _⟩ | ⟨a, len, cap, m, n, D, Pl, hcs, hb, hl, hm, hmm, hxx, hx'⟩
  · exact ⟨none, 0, [], by simpa using h0, fun h => absurd h (by simp), by simp⟩
  · have hlm : len ≤ m := by rw [hmm]; split <;> omega
    have each : ∀ i, i < len → ∃ q : OpT, ∀ j u, [Value.int .i64 q.k, .int .i64 q.A, .int .i64 q.Bq, .int .i64 q.N, .int .i64 q.M, .slice q.pp q.pn q.pc, .slice q.sq q.sn q.sc, .int .i64 q.s0, .int .i64 q.s1, .int .i64 q.s2, .int .i64 q.s3][j]? = some u → w.cell? (a.add (i * 11 + j)) = some u := by
      intro i hi
      obtain ⟨cs', h1, h2⟩ := hx' i (by omega)
      rw [Try.cells75] at h1
      obtain ⟨_, hlen, hcell⟩ := World.cells?_some h1
      obtain ⟨q, hq⟩ := open_op h2
      refine ⟨q, fun j u hj => ?_⟩
      rw [← hq] at hj
      have hjl := (List.getElem?_eq_some_iff.1 hj).1
      have := hcell j (by omega)
      rw [add_add] at this
      rw [this, hj]
    obtain ⟨q, hq⟩ := choose_lt each
    refine ⟨some a, cap, (List.range len).map q, by simpa using hcs, ?_, by simp; omega⟩
    intro h0
    simp only [List.length_map, List.length_range] at h0
    have hs : a.spot = none ∧ a.block < w.heap.size := by
      have := hq 0 h0 0 _ rfl
      exact cell_addr (a := a) (by simpa [Addr.add] using this)
    obtain ⟨ab, ao, sp⟩ := a
    obtain rfl : sp = none := hs.1
    refine ⟨ab, ao, rfl, hs.2, fun i hi => ?_⟩
    simp only [List.length_map, List.length_range] at hi
    have e : ((List.range len).map q).getD i opZ = q i := by simp [List.getD_eq_getElem?_getD, hi]
    rw [e]
    have hc : ∀ j u, [Value.int .i64 (q i).k, .int .i64 (q i).A, .int .i64 (q i).Bq, .int .i64 (q i).N, .int .i64 (q i).M, .slice (q i).pp (q i).pn (q i).pc, .slice (q i).sq (q i).sn (q i).sc, .int .i64 (q i).s0, .int .i64 (q i).s1, .int .i64 (q i).s2, .int .i64 (q i).s3][j]? = some u → w.cell? ⟨ab, ao + i * 11 + j, none⟩ = some u := fun j u hj => by
      have := hq i hi j u hj
      rw [addr_add] at this
      rw [Nat.add_assoc]; exact this
    exact ⟨hc 0 _ rfl, hc 1 _ rfl, hc 2 _ rfl, hc 3 _ rfl, hc 4 _ rfl, hc 5 _ rfl, hc 6 _ rfl, hc 7 _ rfl, hc 8 _ rfl, hc 9 _ rfl, hc 10 _ rfl⟩

set_option maxHeartbeats 1000000 in
set_option maxRecDepth 100000 in
theorem marks_lifted (os : Os) (started : os.Started) (H : Type) (enc : TypeId × Value → H) :
    ReturnsInHanded {} Try.checked os 6 .any (Rows.extentsMarksSpec.pre6 enc Try.prog Try.f6 Rows.extentsMarksRow.domain false) (Rows.extentsMarksSpec.post enc Try.prog Try.f6 false true false false) := by
  refine returnsInHanded_of_change_sized (C := Try.checked) Try.own started (by kernel_rfl) Try.func6
    (ChangeSpec.witness6 (enc := enc) (C := Try.checked) false ⟨#[], #[.slice none 0 0], []⟩ 8 (by kernel_rfl) (by kernel_rfl) (by kernel_rfl) (by kernel_rfl)) ?_
  intro W base args ds gs before hval0 hW _ _ _
  have hval : ∀ (j : Nat) t v, Try.f6.params[j]? = some t → args[j]? = some v → Value.okWide Try.prog W .any base t v := hval0
  have hW' := hW
  obtain ⟨p, q, hA0, hV, rfl, hfz, hnd⟩ := hW
  have hA : DataW.TrodAll enc Try.prog W 0 (fun _ => true) true Try.f6.params.toList args.toList ds p := hA0
  rw [Try.params6] at hA hval
  obtain ⟨v0, vs0, d0, ds0, p0, q0, hargs, rfl, rfl, h0, r0⟩ := trodAll_cons hA
  obtain ⟨rfl, rfl, rfl⟩ := trodAll_nil r0
  obtain rfl : args = #[v0] := by cases args; simp_all
  obtain ⟨rfl, rfl⟩ := trodVars_none hV
  have k0 := h0
  have lt0 : ∀ x ∈ p0, x.block < W.heap.size := by obtain ⟨m, hm⟩ := k0; exact DataW.trod_lt m _ _ _ hm
  obtain ⟨fuel0, hf0⟩ := h0
  obtain ⟨a0, n0, c0, rfl⟩ := okWide_slice Try.underlying64 (hval 0 64 v0 rfl rfl)
  obtain ⟨pp0, cap0, l0, e0, hm0, hn0⟩ := open_ops (by simpa [Value.cells] using hf0)
  cases e0
  clear hA0
  simp only [List.append_nil] at hW'
  refine (marks_walk W a0 c0 l0 hm0 hn0).mono fun e W' ⟨he, bel0⟩ => ?_
  have bel : Below W.heap.size W W' := bel0.below (Nat.le_refl _) (fun k hk => hk)
  subst he
  exact ⟨_, rfl, _, _, _, [], _, [], hW', trodAll_mk1 (shut_bool Try.underlying4 _), (trodAll_cons_mk (Below.trod Try.laidOut (by kernel_rfl) (of_decide_eq_true (by kernel_rfl)) k0 bel lt0) trodAll_mk0), rfl, bel.frame _, fun h => by cases h⟩

theorem marks_holds : Rows.ExtentsMarksSaid :=
  OpenClaim.holds_of_wide 6 Try.f6 rfl rfl rfl rfl rfl rfl rfl ⟨rfl, rfl, rfl, rfl, rfl⟩ rfl rfl rfl rfl rfl (by kernel_rfl) Try.func6 (by kernel_rfl)
    (of_decide_eq_true (by kernel_rfl)) (by unfold Func.isWrapper; first | (rw [if_pos (by decide +kernel)]; kernel_rfl) | (rw [if_neg (by decide +kernel)]; exact ⟨rfl, rfl⟩))
    (fun os started H enc _ => marks_lifted os started H enc)

end Go.Proofs.Ytnafocbgapianab
