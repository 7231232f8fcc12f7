import Derived.Test.YtnafocbgapianabP8
import Derived.Test.YtnafocbgapianabW8
namespace Go.Proofs.Ytnafocbgapianab
open Go.ChangeShapes Go.WideShapes Go.ChangeAt Go.RowKit Go.Deep Go.Joins

theorem Try.bytes3 : Try.prog.bytesOf 3 = 8 := by kernel_rfl
theorem Try.bytes46 : Try.prog.bytesOf 46 = 16 := by kernel_rfl
theorem Try.cells46 : Try.prog.cellsOf 46 = 2 := by kernel_rfl

variable {H : Type} {enc : TypeId × Value → H} {w : World} {spare : Nat → Bool} {held : Bool}

/-- All its weights are within reach. -/
def Light (t : TypeId) (d : DataW H) : Prop := ∀ n ∈ d.weights Try.prog t, n ≤ reachBytes

theorem weights_all {P : Program} {e : TypeId} {d : DataW H} : ∀ {l : List (DataW H)}, d ∈ l → ∀ n ∈ d.weights P e, n ∈ DataW.weightsAll P e l
  | x :: l, hd, n, hn => by
    simp only [DataW.weightsAll, List.mem_append]
    rcases List.mem_cons.1 hd with rfl | h
    · exact Or.inl hn
    · exact Or.inr (weights_all h n hn)

set_option maxRecDepth 100000 in
/-- A slice of ints, opened, with its weight. -/
theorem open_intsL {fuel : Nat} {v : Value} {x : DataW H × List MemPlace} (h : DataW.trod enc Try.prog w 0 spare held fuel 49 [v] = some x) (hx : Light 49 x.1) :
    ∃ p cap, ∃ l : List Int, v = .slice p l.length cap ∧ IntIn w p l ∧ l.length ≤ maxLen ∧ l.length * 8 ≤ 140737488355328 := by
  rcases open_slice1 Try.underlying49 Try.cells3 h with ⟨h0, _⟩ | ⟨a, len, cap, m, n, V, D, Pl, hcs, hb, hl, hm, hmm, hxx, hx'⟩
  · exact ⟨none, 0, [], by simpa using h0, fun h => absurd h (by simp), by simp, by simp⟩
  · have hlm : len ≤ m := by rw [hmm]; split <;> omega
    have each : ∀ i, i < len → ∃ q : Int, w.cell? (a.add i) = some (.int .i64 q) := by
      intro i hi
      obtain ⟨h1, h2⟩ := hx' i (by omega)
      obtain ⟨a0, e0, _, w0⟩ := DataW.trod_int Try.underlying3 h2
      simp at e0
      exact ⟨a0, by rw [h1, e0]⟩
    obtain ⟨q, hq⟩ := choose_lt each
    have hlen : len * 8 ≤ 140737488355328 := by
      rw [hxx] at hx
      have := hx ((((List.range len).map D).length + ((List.range (m - len)).map fun j => D (len + j)).length) * Try.prog.bytesOf 3) (by simp [DataW.weights, Try.underlying49])
      rw [Try.bytes3] at this
      simp [reachBytes] at this
      omega
    refine ⟨some a, cap, (List.range len).map q, by simpa using hcs, ?_, by simp; omega, by simpa using hlen⟩
    intro h0
    simp only [List.length_map, List.length_range] at h0
    have hs : a.spot = none ∧ a.block < w.heap.size := cell_addr (hq 0 h0)
    obtain ⟨ab, ao, sp⟩ := a
    obtain rfl : sp = none := hs.1
    refine ⟨ab, ao, rfl, hs.2, fun i hi => ?_⟩
    simp only [List.length_map, List.length_range] at hi
    have e : ((List.range len).map q).getD i 0 = q i := by simp [List.getD_eq_getElem?_getD, hi]
    rw [e]
    have c0 := hq i hi
    rw [addr_add] at c0
    exact c0

set_option maxRecDepth 100000 in
/-- A slice of spans, opened, with its weight. -/
theorem open_spansL {fuel : Nat} {v : Value} {x : DataW H × List MemPlace} (h : DataW.trod enc Try.prog w 0 spare held fuel 30 [v] = some x) (hx : Light 30 x.1) :
    ∃ p cap, ∃ l : List (Int × Int), v = .slice p l.length cap ∧ SpIn w p l ∧ l.length ≤ maxLen ∧ l.length * 16 ≤ 140737488355328 ∧ ∀ s ∈ l, s.1 ≤ 9223372036854775807 := by
  rcases open_slice Try.underlying30 h with ⟨h0, _⟩ | ⟨a, len, cap, m, n, D, Pl, hcs, hb, hl, hm, hmm, hxx, hx'⟩
  · exact ⟨none, 0, [], by simpa using h0, fun h => absurd h (by simp), by simp, by simp, by simp⟩
  · have hlm : len ≤ m := by rw [hmm]; split <;> omega
    have each : ∀ i, i < len → ∃ q : Int × Int, (w.cell? (a.add (i * 2)) = some (.int .i64 q.1) ∧ w.cell? (a.add (i * 2 + 1)) = some (.int .i64 q.2)) ∧ q.1 ≤ 9223372036854775807 := by
      intro i hi
      obtain ⟨cs', h1, h2⟩ := hx' i (by omega)
      rw [Try.cells46] at h1
      obtain ⟨_, hlen, hcell⟩ := World.cells?_some h1
      obtain ⟨xs, n', _, hxe, hl', hlen', hg⟩ := DataW.trod_struct Try.underlying46 h2
      match xs, hlen', cs', hlen with
      | [y0, y1], _, [v0, v1], _ =>
        have g0 := hg 0 _ rfl
        have g1 := hg 1 _ rfl
        simp [Try.cells3] at g0 g1
        obtain ⟨a0, e0, _, w0⟩ := DataW.trod_int Try.underlying3 g0
        obtain ⟨a1, e1, _, _⟩ := DataW.trod_int Try.underlying3 g1
        simp at e0 e1
        subst e0 e1
        have c0 := hcell 0 (by omega)
        have c1 := hcell 1 (by omega)
        rw [add_add] at c0 c1
        exact ⟨(a0, a1), ⟨by simpa using c0, by simpa using c1⟩, (wf_i64_bd w0).2⟩
    obtain ⟨q, hq⟩ := choose_lt each
    have hlen : len * 16 ≤ 140737488355328 := by
      rw [hxx] at hx
      have := hx ((((List.range len).map D).length + ((List.range (m - len)).map fun j => D (len + j)).length) * Try.prog.bytesOf 46) (by simp [DataW.weights, Try.underlying30])
      rw [Try.bytes46] at this
      simp [reachBytes] at this
      omega
    refine ⟨some a, cap, (List.range len).map q, by simpa using hcs, ?_, by simp; omega, by simpa using hlen, ?_⟩
    · intro h0
      simp only [List.length_map, List.length_range] at h0
      have hs : a.spot = none ∧ a.block < w.heap.size := by
        have := (hq 0 h0).1.1
        exact cell_addr (a := a) (by simpa [Addr.add] using this)
      obtain ⟨ab, ao, sp⟩ := a
      obtain rfl : sp = none := hs.1
      refine ⟨ab, ao, rfl, hs.2, fun i hi => ?_⟩
      simp only [List.length_map, List.length_range] at hi
      have e : ((List.range len).map q).getD i (0, 0) = q i := by simp [List.getD_eq_getElem?_getD, hi]
      rw [e]
      obtain ⟨c0, c1⟩ := (hq i hi).1
      rw [addr_add] at c0 c1
      exact ⟨c0, by simpa [Nat.add_assoc] using c1⟩
    · intro s hs
      obtain ⟨i, hi, rfl⟩ := List.mem_map.1 hs
      exact (hq i (List.mem_range.1 hi)).2

set_option maxRecDepth 100000 in
theorem open_opL {fuel : Nat} {cs' : List Value} {x : DataW H × List MemPlace} (h : DataW.trod enc Try.prog w 0 spare held fuel 75 cs' = some x) (hx : Light 75 x.1) :
    ∃ t : OpT, cs' = [.int .i64 t.k, .int .i64 t.A, .int .i64 t.Bq, .int .i64 t.N, .int .i64 t.M, .slice t.pp t.pn t.pc, .slice t.sq t.sn t.sc, .int .i64 t.s0, .int .i64 t.s1, .int .i64 t.s2, .int .i64 t.s3] ∧ ∃ l1 l2, OpOk w w.heap.size t.pp t.pn t.sq t.sn l1 l2 := by
  obtain ⟨xs, n, _, hxe, hl, hlen, hg⟩ := DataW.trod_struct Try.underlying75 h
  rw [Try.cells75] at hl
  match xs, hlen, cs', hl with
  | [y0, y1, y2, y3, y4, y5, y6, y7], _, [c0, c1, c2, c3, c4, c5, c6, c7, c8, c9, c10], _ =>
    have g0 := hg 0 _ rfl
    have g1 := hg 1 _ rfl
    have g2 := hg 2 _ rfl
    have g3 := hg 3 _ rfl
    have g4 := hg 4 _ rfl
    have g5 := hg 5 _ rfl
    have g6 := hg 6 _ rfl
    have g7 := hg 7 _ rfl
    simp [Try.cells3, Try.cells24, Try.cells30, Try.cells49] at g0 g1 g2 g3 g4 g5 g6 g7
    obtain ⟨a0, e0, _, _⟩ := DataW.trod_int Try.underlying3 g0
    obtain ⟨a1, e1, _, _⟩ := DataW.trod_int Try.underlying3 g1
    obtain ⟨a2, e2, _, _⟩ := DataW.trod_int Try.underlying3 g2
    obtain ⟨a3, e3, _, _⟩ := DataW.trod_int Try.underlying3 g3
    obtain ⟨a4, e4, _, _⟩ := DataW.trod_int Try.underlying3 g4
    rw [hxe] at hx
    have hall : ∀ n ∈ DataW.weightsEach Try.prog [3, 3, 3, 3, 3, 49, 30, 24] [y0.1, y1.1, y2.1, y3.1, y4.1, y5.1, y6.1, y7.1], n ≤ reachBytes := fun n hn => hx n (by
      simp only [DataW.weights, Try.underlying75]
      exact hn)
    obtain ⟨p5, c5', l1, e5, i1, le1, w1⟩ := open_intsL g5 (fun n hn => hall n (DataW.weights_mem_each (j := 5) rfl rfl n hn))
    obtain ⟨p6, c6', l2, e6, i2, le2, w2, hr⟩ := open_spansL g6 (fun n hn => hall n (DataW.weights_mem_each (j := 6) rfl rfl n hn))
    obtain ⟨xs7, n7, _, _, hl7, hlen7, hg7⟩ := DataW.trod_struct Try.underlying24 g7
    match xs7, hlen7 with
    | [z0, z1, z2, z3], _ =>
      have k0 := hg7 0 _ rfl
      have k1 := hg7 1 _ rfl
      have k2 := hg7 2 _ rfl
      have k3 := hg7 3 _ rfl
      simp [Try.cells3] at k0 k1 k2 k3
      obtain ⟨b0, f0, _, _⟩ := DataW.trod_int Try.underlying3 k0
      obtain ⟨b1, f1, _, _⟩ := DataW.trod_int Try.underlying3 k1
      obtain ⟨b2, f2, _, _⟩ := DataW.trod_int Try.underlying3 k2
      obtain ⟨b3, f3, _, _⟩ := DataW.trod_int Try.underlying3 k3
      simp at e0 e1 e2 e3 e4 f0 f1 f2 f3
      subst e0 e1 e2 e3 e4 e5 e6 f0 f1 f2 f3
      refine ⟨⟨a0, a1, a2, a3, a4, p5, l1.length, c5', p6, l2.length, c6', b0, b1, b2, b3⟩, rfl, l1, l2, rfl, rfl, i1, i2, fun h0 b hb => ?_, fun h0 b hb => ?_, le1, le2, w1, w2, hr⟩
      · obtain ⟨b', o', e', hb', _⟩ := i1 h0
        simp only at hb
        rw [e'] at hb
        cases hb
        exact hb'
      · obtain ⟨b', o', e', hb', _⟩ := i2 h0
        simp only at hb
        rw [e'] at hb
        cases hb
        exact hb'

set_option maxRecDepth 100000 in
/-- A script, opened, with what is known of its lists. -/
theorem open_opsL {fuel : Nat} {v : Value} {x : DataW H × List MemPlace} (h : DataW.trod enc Try.prog w 0 spare held fuel 64 [v] = some x) (hx : Light 64 x.1) :
    ∃ p cap l, v = .slice p l.length cap ∧ OpIn w p l ∧ (∀ i, i < l.length → ∃ l1 l2, OpOk w w.heap.size (l.getD i opZ).pp (l.getD i opZ).pn (l.getD i opZ).sq (l.getD i opZ).sn l1 l2) ∧ l.length ≤ maxLen := by
  rcases open_slice Try.underlying64 h with ⟨h0, _⟩ | ⟨a, len, cap, m, n, D, Pl, hcs, hb, hl, hm, hmm, hxx, hx'⟩
  · exact ⟨none, 0, [], by simpa using h0, fun h => absurd h (by simp), fun i hi => absurd hi (by simp), by simp⟩
  · have hlm : len ≤ m := by rw [hmm]; split <;> omega
    have each : ∀ i, i < len → ∃ q : OpT, (∀ j u, [Value.int .i64 q.k, .int .i64 q.A, .int .i64 q.Bq, .int .i64 q.N, .int .i64 q.M, .slice q.pp q.pn q.pc, .slice q.sq q.sn q.sc, .int .i64 q.s0, .int .i64 q.s1, .int .i64 q.s2, .int .i64 q.s3][j]? = some u → w.cell? (a.add (i * 11 + j)) = some u) ∧ ∃ l1 l2, OpOk w w.heap.size q.pp q.pn q.sq q.sn l1 l2 := by
      intro i hi
      obtain ⟨cs', h1, h2⟩ := hx' i (by omega)
      rw [Try.cells75] at h1
      obtain ⟨_, hlen, hcell⟩ := World.cells?_some h1
      obtain ⟨q, hq, hok⟩ := open_opL h2 (fun n hn => by
        rw [hxx] at hx
        refine hx n ?_
        simp only [DataW.weights, Try.underlying64, List.mem_cons, List.mem_append]
        exact Or.inr (Or.inl (weights_all (d := D i) (List.mem_map.2 ⟨i, List.mem_range.2 hi, rfl⟩) n hn)))
      refine ⟨q, fun j u hj => ?_, hok⟩
      rw [← hq] at hj
      have hjl := (List.getElem?_eq_some_iff.1 hj).1
      have := hcell j (by omega)
      rw [add_add] at this
      rw [this, hj]
    obtain ⟨q, hq⟩ := choose_lt each
    refine ⟨some a, cap, (List.range len).map q, by simpa using hcs, ?_, ?_, by simp; omega⟩
    · intro h0
      simp only [List.length_map, List.length_range] at h0
      have hs : a.spot = none ∧ a.block < w.heap.size := by
        have := (hq 0 h0).1 0 _ rfl
        exact cell_addr (a := a) (by simpa [Addr.add] using this)
      obtain ⟨ab, ao, sp⟩ := a
      obtain rfl : sp = none := hs.1
      refine ⟨ab, ao, rfl, hs.2, fun i hi => ?_⟩
      simp only [List.length_map, List.length_range] at hi
      have e : ((List.range len).map q).getD i opZ = q i := by simp [List.getD_eq_getElem?_getD, hi]
      rw [e]
      have hc : ∀ j u, [Value.int .i64 (q i).k, .int .i64 (q i).A, .int .i64 (q i).Bq, .int .i64 (q i).N, .int .i64 (q i).M, .slice (q i).pp (q i).pn (q i).pc, .slice (q i).sq (q i).sn (q i).sc, .int .i64 (q i).s0, .int .i64 (q i).s1, .int .i64 (q i).s2, .int .i64 (q i).s3][j]? = some u → w.cell? ⟨ab, ao + i * 11 + j, none⟩ = some u := fun j u hj => by
        have := (hq i hi).1 j u hj
        rw [addr_add] at this
        rw [Nat.add_assoc]; exact this
      exact ⟨hc 0 _ rfl, hc 1 _ rfl, hc 2 _ rfl, hc 3 _ rfl, hc 4 _ rfl, hc 5 _ rfl, hc 6 _ rfl, hc 7 _ rfl, hc 8 _ rfl, hc 9 _ rfl, hc 10 _ rfl⟩
    · intro i hi
      simp only [List.length_map, List.length_range] at hi
      have e : ((List.range len).map q).getD i opZ = q i := by simp [List.getD_eq_getElem?_getD, hi]
      rw [e]
      exact (hq i hi).2

set_option maxHeartbeats 1000000 in
set_option maxRecDepth 100000 in
theorem pools_lifted (os : Os) (started : os.Started) (H : Type) (enc : TypeId × Value → H) :
    ReturnsInHanded {} Try.checked os 8 .any (Rows.extentsPoolsSpec.pre6 enc Try.prog Try.f8 Rows.extentsPoolsRow.domain false) (Rows.extentsPoolsSpec.post enc Try.prog Try.f8 false true false false) := by
  refine returnsInHanded_of_change_sized (C := Try.checked) Try.own started (by kernel_rfl) Try.func8
    (ChangeSpec.witness6 (enc := enc) (C := Try.checked) false ⟨#[], #[.slice none 0 0], []⟩ 8 (by kernel_rfl) (by kernel_rfl) (by kernel_rfl) (by kernel_rfl)) ?_
  intro W base args ds gs before hval0 hW hcnd hsz0 _
  have hval : ∀ (j : Nat) t v, Try.f8.params[j]? = some t → args[j]? = some v → Value.okWide Try.prog W .any base t v := hval0
  have hsz : (DataW.weightsEach Try.prog (Try.f8.params.toList ++ Rows.extentsPoolsSpec.plain.varTypes Try.prog) (ds ++ gs)).all (· ≤ reachBytes) = true := hsz0
  have hW' := hW
  obtain ⟨p, q, hA0, hV, rfl, hfz, hnd⟩ := hW
  have hA : DataW.TrodAll enc Try.prog W 0 (fun _ => true) true Try.f8.params.toList args.toList ds p := hA0
  rw [Try.params8] at hA hval hsz
  obtain ⟨v0, vs0, d0, ds0, p0, q0, hargs, rfl, rfl, h0, r0⟩ := trodAll_cons hA
  obtain ⟨rfl, rfl, rfl⟩ := trodAll_nil r0
  obtain rfl : args = #[v0] := by cases args; simp_all
  obtain ⟨rfl, rfl⟩ := trodVars_none hV
  have k0 := h0
  have lt0 : ∀ x ∈ p0, x.block < W.heap.size := by obtain ⟨m, hm⟩ := k0; exact DataW.trod_lt m _ _ _ hm
  have hlight : ∀ n ∈ d0.weights Try.prog 64, n ≤ reachBytes := fun n hn => by
    have := List.all_eq_true.1 hsz n (DataW.weights_mem_each (j := 0) rfl rfl n hn)
    simpa using this
  obtain ⟨fuel0, hf0⟩ := h0
  obtain ⟨a0, n0, c0, rfl⟩ := okWide_slice Try.underlying64 (hval 0 64 v0 rfl rfl)
  obtain ⟨pp0, cap0, l0, e0, hm0, hk0, hn0⟩ := open_opsL (x := (d0, p0)) (by simpa [Value.cells] using hf0) hlight
  cases e0
  clear hA0
  simp only [List.append_nil] at hW'
  refine (pools_walk W a0 c0 l0 hm0 hk0 hn0).mono fun e W' ⟨he, bel0⟩ => ?_
  have bel : Below W.heap.size W W' := bel0.below (Nat.le_refl _) (fun k hk => hk)
  subst he
  exact ⟨_, rfl, _, _, _, [], _, [], hW', trodAll_mk1 (shut_bool Try.underlying4 _), (trodAll_cons_mk (Below.trod Try.laidOut (by kernel_rfl) (of_decide_eq_true (by kernel_rfl)) k0 bel lt0) trodAll_mk0), rfl, bel.frame _, fun h => by cases h⟩

theorem pools_holds : Rows.ExtentsPoolsSaid :=
  OpenClaim.holds_of_wide 8 Try.f8 rfl rfl rfl rfl rfl rfl rfl ⟨rfl, rfl, rfl, rfl, rfl⟩ rfl rfl rfl rfl rfl (by kernel_rfl) Try.func8 (by kernel_rfl)
    (of_decide_eq_true (by kernel_rfl)) (by unfold Func.isWrapper; first | (rw [if_pos (by decide +kernel)]; kernel_rfl) | (rw [if_neg (by decide +kernel)]; exact ⟨rfl, rfl⟩))
    (fun os started H enc _ => pools_lifted os started H enc)

end Go.Proofs.Ytnafocbgapianab
