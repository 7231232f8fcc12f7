import Derived.Test.YtndojlacdggfcaaD2
namespace Go.Proofs.Ytndojlacdggfcaa
open Go.RowKit Go.Shelf

attribute [local go_sem] Oper.semAt_some

/-- A run: Off, Page, Count. -/
abbrev Rn := Int × Int × Int
def rcells (r : Rn) : List Value := [.int .i64 r.1, .int .i64 r.2.1, .int .i64 r.2.2]
def rflat (l : List Rn) : List Value := l.flatMap rcells
theorem rflat_len (l : List Rn) : (rflat l).length = l.length * 3 := by
  induction l with
  | nil => rfl
  | cons r l ih => simp [rflat, rcells] at ih ⊢; omega
theorem rflat_snoc (l : List Rn) (r : Rn) : rflat (l ++ [r]) = rflat l ++ rcells r := by simp [rflat]

def goes (r : Rn) (o v : Int) : Bool := decide (o = wrap64 (r.1 + r.2.2)) && decide (v = wrap64 (r.2.1 + r.2.2))
def runStep (l : List Rn) (o v : Int) : List Rn :=
  match l.getLast? with
  | some r => if goes r o v then l.dropLast ++ [(r.1, r.2.1, wrap64 (r.2.2 + 1))] else l ++ [(o, v, 1)]
  | none => l ++ [(o, v, 1)]
def runsOf (L : List El) : List Rn := L.foldl (fun l x => runStep l (x.1.val : Int) x.2) []
theorem runsOf_snoc (L : List El) (x : El) : runsOf (L ++ [x]) = runStep (runsOf L) (x.1.val : Int) x.2 := by simp [runsOf]
theorem runStep_nil (o v : Int) : runStep [] o v = [(o, v, 1)] := rfl
theorem runStep_yes {l : List Rn} {r : Rn} {o v : Int} (h : goes r o v = true) : runStep (l ++ [r]) o v = l ++ [(r.1, r.2.1, wrap64 (r.2.2 + 1))] := by simp [runStep, h]
theorem runStep_no {l : List Rn} {r : Rn} {o v : Int} (h : goes r o v = false) : runStep (l ++ [r]) o v = l ++ [r] ++ [(o, v, 1)] := by simp [runStep, h]
theorem runStep_len (l : List Rn) (o v : Int) : (runStep l o v).length ≤ l.length + 1 := by
  rcases List.eq_nil_or_concat l with rfl | ⟨l', r, rfl⟩
  · simp [runStep_nil]
  · rw [List.concat_eq_append]
    cases h : goes r o v
    · rw [runStep_no h]; simp
    · rw [runStep_yes h]; simp
theorem runsOf_len (L : List El) : (runsOf L).length ≤ L.length := by
  have h : ∀ (l : List Rn), (L.foldl (fun l x => runStep l (x.1.val : Int) x.2) l).length ≤ l.length + L.length := by
    induction L with
    | nil => intro l; simp
    | cons x L ih =>
      intro l
      have := ih (runStep l (x.1.val : Int) x.2)
      have h2 := runStep_len l (x.1.val : Int) x.2
      simp only [List.foldl_cons, List.length_cons]
      omega
  simpa [runsOf] using h []

set_option maxHeartbeats 400000 in
theorem goesOn_any (r : Rn) (o v : Int) (w : World) : Calls Try.prog 46 #[.agg #[.int .i64 r.1, .int .i64 r.2.1, .int .i64 r.2.2], .int .i64 o, .int .i64 v] w fun e w' => e = .returned (.bool (goes r o v)) ∧ Keeps (fun _ => False) w w' := by
  obtain ⟨a, b, c⟩ := r
  have hK := Keeps.new w (.cells #[.int .i64 a, .int .i64 b, .int .i64 c] 66)
  by_cases h1 : o = wrap64 (a + c)
  · by_cases h2 : v = wrap64 (b + c)
    · have e : goes (a, b, c) o v = true := by simp [goes, ← h1, ← h2]
      rw [e]
      have h1' : (o == wrap64 (a + c)) = true := by simpa using h1
      have h2' : (v == wrap64 (b + c)) = true := by simpa using h2
      clear h1 h2
      go_enter Try.func46, Try.ntmps46
      go_wp2
      go_ret
      exact ⟨rfl, hK⟩
    · have e : goes (a, b, c) o v = false := by simp [goes, h2]
      rw [e]
      have h1' : (o == wrap64 (a + c)) = true := by simpa using h1
      have h2' : (v == wrap64 (b + c)) = false := by simpa using h2
      clear h1 h2
      go_enter Try.func46, Try.ntmps46
      go_wp2
      go_ret
      exact ⟨rfl, hK⟩
  · have e : goes (a, b, c) o v = false := by simp [goes, h1]
    rw [e]
    have h1' : (o == wrap64 (a + c)) = false := by simpa using h1
    clear h1
    go_enter Try.func46, Try.ntmps46
    go_wp2
    go_ret
    exact ⟨rfl, hK⟩

theorem info38 : (Try.prog.info? 66).map (fun i => (i.zero, i.size, i.bytes)) = some (some (.agg #[.int .i64 0, .int .i64 0, .int .i64 0]), 3, 24) := by kernel_rfl

theorem ownsRow_set {W : World} {base : Nat} {e : TypeId} {size : Nat} {v : Value} {n : Nat} {xs : List Value} (h : W.ownsRow base e size v n xs) {g : Nat} (hg : v.ownBlock = some g) (j : Nat) (u : Value) :
    (W.setCell ⟨g, j, none⟩ u).ownsRow base e size v n (xs.set j u) := by
  refine ⟨by rw [List.length_set]; exact h.1, ?_⟩
  rcases h.2 with ⟨rfl, _⟩ | ⟨g', cap, cur, rfl, hb, hgb, h1, h2, h3, h4⟩
  · simp [Value.ownBlock] at hg
  · obtain rfl : g' = g := by simpa [Value.ownBlock] using hg
    refine .inr ⟨g', cap, cur.setIfInBounds j u, rfl, hb, setCell_block (a := ⟨g', j, none⟩) hgb rfl, h1, h2, by simpa using h3, ?_⟩
    rw [← h4, Array.toList_setIfInBounds, List.take_set]
theorem rflat_set (l : List Rn) (r : Rn) (c : Int) : (rflat (l ++ [r])).set (l.length * 3 + 2) (.int .i64 c) = rflat (l ++ [(r.1, r.2.1, c)]) := by
  rw [rflat_snoc, rflat_snoc, List.set_append_right _ _ (by rw [rflat_len]; omega), rflat_len, show l.length * 3 + 2 - l.length * 3 = 2 by omega]
  rfl
theorem rflat_cells {W : World} {base : Nat} {l : List Rn} {r : Rn} {v : Value} {g : Nat} (h : W.ownsRow base 66 3 v (l.length + 1) (rflat (l ++ [r]))) (hg : v.ownBlock = some g) :
    W.cell? ⟨g, l.length * 3, none⟩ = some (.int .i64 r.1) ∧ W.cell? ⟨g, l.length * 3 + 1, none⟩ = some (.int .i64 r.2.1) ∧ W.cell? ⟨g, l.length * 3 + 2, none⟩ = some (.int .i64 r.2.2) := by
  have hc := h.cells hg
  have hadd : ∀ j, (⟨g, 0, none⟩ : Addr).add j = ⟨g, j, none⟩ := by intro j; unfold Addr.add; split <;> simp_all
  have e : ∀ k, k < 3 → (rflat (l ++ [r]))[l.length * 3 + k]? = (rcells r)[k]? := fun k _ => by
    rw [rflat_snoc, List.getElem?_append_right (by rw [rflat_len]; omega), rflat_len, show l.length * 3 + k - l.length * 3 = k by omega]
  refine ⟨?_, ?_, ?_⟩
  · have := hc (l.length * 3) _ (by rw [← Nat.add_zero (l.length * 3), e 0 (by omega)]; rfl)
    rwa [hadd] at this
  · have := hc (l.length * 3 + 1) _ (by rw [e 1 (by omega)]; rfl)
    rwa [hadd] at this
  · have := hc (l.length * 3 + 2) _ (by rw [e 2 (by omega)]; rfl)
    rwa [hadd] at this
theorem cells_three_new (W : World) (a b c : Value) (t : TypeId) : ∀ j u, [a, b, c][j]? = some u → (W.alloc (.cells #[a, b, c] t)).cell? ((⟨W.heap.size, 0, none⟩ : Addr).add j) = some u := by
  intro j u hj
  have hadd : (⟨W.heap.size, 0, none⟩ : Addr).add j = ⟨W.heap.size, j, none⟩ := by unfold Addr.add; split <;> simp_all
  rw [hadd, cell_of_row _ _ j _ t (0, 0) (MapKept.heap_alloc W _).1]
  simpa using hj

end Go.Proofs.Ytndojlacdggfcaa
