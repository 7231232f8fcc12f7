import Derived.Test.YtfekgfimbkgkfabC3
namespace Go.Proofs.Ytfekgfimbkgkfab
open Go.RowKit Go.Maps

theorem info61 : (Try.prog.info? 61).map (fun i => (i.zero, i.size, i.bytes)) = some (some (.agg #[.int .i64 0, .bool false]), 2, 16) := by kernel_rfl
def encell (e : En) : List Value := [.int .i64 e.1, .bool e.2]
def encells (l : List En) : List Value := l.flatMap encell
theorem encells_len (l : List En) : (encells l).length = l.length * 2 := by
  induction l with
  | nil => rfl
  | cons e l ih => simp only [encells, List.flatMap_cons, List.length_append, List.length_cons] at ih ⊢; rw [ih]; simp [encell]; omega
theorem encells_snoc (l : List En) (a : En) : encells (l ++ [a]) = encells l ++ [.int .i64 a.1, .bool a.2] := by simp [encells, encell]
/-- The way in memory, its last last. -/
def wayL (a : En) (r : List En) : List En := r.reverse ++ [a]
theorem wayL_len (a : En) (r : List En) : (wayL a r).length = r.length + 1 := by simp [wayL]
theorem wayL_push (a b : En) (r : List En) : wayL b (a :: r) = wayL a r ++ [b] := by simp [wayL]

/-- A way in memory. -/
def WayAt (w : World) (base : Nat) (v : Value) (a : En) (r : List En) : Prop := w.ownsRow base 61 2 v (r.length + 1) (encells (wayL a r))
theorem WayAt.shape {w : World} {base : Nat} {v : Value} {a : En} {r : List En} (h : WayAt w base v a r) : ∃ g cap, v = .slice (some ⟨g, 0, none⟩) (r.length + 1) cap ∧ base ≤ g ∧ r.length + 1 ≤ cap ∧ w.cell? ⟨g, r.length * 2, none⟩ = some (.int .i64 a.1) ∧ w.cell? ⟨g, r.length * 2 + 1, none⟩ = some (.bool a.2) := by
  have h' := h
  rcases h'.2 with ⟨_, h0⟩ | ⟨g, cap, cur, rfl, hg, hb, hc, _⟩
  · omega
  · have e : (encells (wayL a r))[r.length * 2]? = some (.int .i64 a.1) ∧ (encells (wayL a r))[r.length * 2 + 1]? = some (.bool a.2) := by
      have h1 : (encells r.reverse).length = r.length * 2 := by rw [encells_len]; simp
      unfold wayL
      rw [encells_snoc]
      constructor
      · rw [List.getElem?_append_right (by omega), h1]; simp
      · rw [List.getElem?_append_right (by omega), h1]; simp
    refine ⟨g, cap, rfl, hg, hc, ?_, ?_⟩
    · rw [h.cellAt _ (by omega)]; exact e.1
    · rw [h.cellAt _ (by omega)]; exact e.2
/-- The way cut by its last. -/
theorem WayAt.cut {w : World} {base g cap : Nat} {a b : En} {r : List En} (h : WayAt w base (.slice (some ⟨g, 0, none⟩) (r.length + 1 + 1) cap) a (b :: r)) : WayAt w base (.slice (some ⟨g, 0, none⟩) (r.length + 1) cap) b r := by
  have hl : (encells (wayL b r)).length = (r.length + 1) * 2 := by rw [encells_len, wayL_len]
  refine ⟨hl, Or.inr ?_⟩
  rcases h.2 with ⟨h0, _⟩ | ⟨g', cap', cur, e, hg, hb, hc, hm, hs, ht⟩
  · cases h0
  · cases e
    refine ⟨g, cap, cur, rfl, hg, hb, by simp at hc; omega, hm, hs, ?_⟩
    have e2 : encells (wayL a (b :: r)) = encells (wayL b r) ++ [.int .i64 a.1, .bool a.2] := by rw [wayL_push, encells_snoc]
    rw [e2] at ht
    have h3 := congrArg (List.take ((r.length + 1) * 2)) ht
    rw [List.take_take, List.take_append_of_le_length (Nat.le_of_eq hl.symm), List.take_of_length_le (l := encells (wayL b r)) (Nat.le_of_eq hl)] at h3
    rw [← h3]
    congr 1
    simp only [List.length_cons]; omega

def wfF (F : Dr) : Prop := ∀ d s, (Lit.int .i64 (F d s).1).wf = true
theorem wf1 : (Lit.int .i64 1).wf = true := by decide
theorem wfF_tab {l : List Ed} (h : ∀ e ∈ l, EdOk e) : wfF (tabF l) := by
  have hh : ∀ (l : List Ed) (F : Dr), wfF F → (∀ e ∈ l, EdOk e) → wfF (l.foldl put1 F) := by
    intro l
    induction l with
    | nil => intro F hF _; exact hF
    | cons e l ih =>
      intro F hF h
      refine ih _ ?_ (fun x hx => h x (List.mem_cons_of_mem _ hx))
      intro d s
      unfold put1
      split
      · show (Lit.int .i64 (if d = e.1 ∧ s = e.2.1 then (e.2.2.1, e.2.2.2) else F d s).1).wf = true
        split
        · exact (h e (List.mem_cons_self ..)).2.1
        · exact hF d s
      · exact hF d s
  exact hh l tab0 (fun _ _ => (by decide : (Lit.int .i64 0).wf = true)) h
theorem lead_wf {F : Dr} (hF : wfF F) {p : List ByteArray} {a : En} {r : List En} (h : lead F p = .ok a r) : (Lit.int .i64 a.1).wf = true := by
  have hI := lead_inStep h
  revert hI
  cases clR p with
  | nil => rintro ⟨rfl, _⟩; decide
  | cons s acc => rintro ⟨_, _, b, r', _, _, rfl, _⟩; exact hF _ _
theorem wlk_len (F : Dr) : ∀ (p : List ByteArray) (a : En) (r : List En) (a' : En) (r' : List En), wlk F a r p = .ok a' r' → r'.length ≤ r.length + p.length
  | [], a, r, a', r', h => by cases h; simp
  | s :: p, a, r, a', r', h => by
    simp only [wlk] at h
    cases hs : step1 F a r s with
    | bad e => rw [hs] at h; cases h
    | ok b q =>
      rw [hs] at h
      have := wlk_len F p b q a' r' h
      have h2 : q.length ≤ r.length + 1 := by
        unfold step1 at hs
        split at hs
        · split at hs
          · cases hs; omega
          · split at hs
            · split at hs
              · cases hs; simp
              · cases hs; simp; omega
            · split at hs
              · cases hs
              · cases hs; simp
        · cases hs
      simp only [List.length_cons]; omega
theorem lead_len {F : Dr} {p : List ByteArray} {a : En} {r : List En} (h : lead F p = .ok a r) : r.length ≤ p.length := by
  have := wlk_len F p _ _ _ _ h
  simpa using this

/-- What walk answers. -/
def wkR (F : Dr) (p : List ByteArray) : En × Int := match lead F p with | .bad e => ((0, false), e) | .ok a _ => (a, 0)
theorem lead_bad_take {F : Dr} {p : List ByteArray} {k : Nat} {e : Int} (h : lead F (p.take k) = .bad e) : lead F p = .bad e := by
  have := lead_append F (p.take k) (p.drop k)
  rw [List.take_append_drop, h] at this
  exact this

theorem addr_zero (a : Addr) : a.add 0 = a := by unfold Addr.add; split <;> simp_all
theorem slice87 (w : World) (p : Option Addr) (n cap k : Nat) (hk : k ≤ cap) :
    (Instr.slice 87 (.slice p n cap) none (some (.int .i64 (k : Int))) none).run Try.prog w = .ok (.slice p k cap) w := by
  have he : Try.prog.elem 87 = 61 := by kernel_rfl
  have hz : (sizeOf (Try.prog.elem 87)).run Try.prog w = .ok 2 w := by rw [he]; rfl
  have ht : Try.prog.underlying 87 = some (.slice (Try.prog.elem 87)) := by rw [he]; exact Try.underlying87
  rw [run_slice_h w 87 p n cap ht .i64 (k : Int) (by omega) (by omega), hz]
  have : p.map (fun a => a.add 0) = p := by cases p <;> simp [addr_zero]
  simp [Result.andThen, sliced, this]
theorem slice23 (w : World) (p : Option Addr) (n cap k : Nat) (hk : k ≤ cap) :
    (Instr.slice 23 (.slice p n cap) none (some (.int .i64 (k : Int))) none).run Try.prog w = .ok (.slice p k cap) w := by
  have he : Try.prog.elem 23 = 9 := by kernel_rfl
  have hz : (sizeOf (Try.prog.elem 23)).run Try.prog w = .ok 1 w := by rw [he]; rfl
  have ht : Try.prog.underlying 23 = some (.slice (Try.prog.elem 23)) := by rw [he]; exact Try.underlying23
  rw [run_slice_h w 23 p n cap ht .i64 (k : Int) (by omega) (by omega), hz]
  have : p.map (fun a => a.add 0) = p := by cases p <;> simp [addr_zero]
  simp [Result.andThen, sliced, this]
end Go.Proofs.Ytfekgfimbkgkfab
