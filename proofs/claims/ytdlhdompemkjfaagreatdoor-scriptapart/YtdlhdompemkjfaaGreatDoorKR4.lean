import Derived.Test.YtdlhdompemkjfaaGreatDoorK33
import Derived.Test.YtdlhdompemkjfaaGreatDoorKW4
namespace Go.Proofs.YtdlhdompemkjfaaGreatDoor
open Go.ChangeShapes Go.WideShapes Go.ChangeAt Go.RowKit Go.Deep Go.Joins

section
variable {H : Type} {enc : TypeId × Value → H} {w : World} {spare : Nat → Bool} {held : Bool}
theorem weights_all {P : Program} {e : TypeId} {d : DataW H} : ∀ {l : List (DataW H)}, d ∈ l → ∀ n ∈ d.weights P e, n ∈ DataW.weightsAll P e l
  | [], h, _, _ => by cases h
  | x :: l, h, n, hn => by
    simp only [DataW.weightsAll, List.mem_append]
    rcases List.mem_cons.1 h with rfl | h
    · exact Or.inl hn
    · exact Or.inr (weights_all h n hn)
/-- A slice, opened: its elements one by one (k cells each), with their weights. -/
theorem open_row {α : Type} [Inhabited α] {t e : TypeId} {k by_ : Nat} (enca : α → List Value) (Ok : α → Prop) (ht : Tryz.prog.underlying t = some (.slice e)) (hk : Tryz.prog.cellsOf e = k) (hk0 : 0 < k) (hby : Tryz.prog.bytesOf e = by_) (hlen : ∀ a, (enca a).length = k)
    (hel : ∀ {fuel : Nat} {cs : List Value} {x : DataW H × List MemPlace}, DataW.trod enc Tryz.prog w 0 spare held fuel e cs = some x → (∀ n ∈ x.1.weights Tryz.prog e, n ≤ reachBytes) → ∃ a, cs = enca a ∧ Ok a)
    {fuel : Nat} {v : Value} {x : DataW H × List MemPlace} (h : DataW.trod enc Tryz.prog w 0 spare held fuel t [v] = some x) (hx : ∀ n ∈ x.1.weights Tryz.prog t, n ≤ reachBytes) :
    ∃ l : List α, Row w v l.length (l.flatMap enca) ∧ (∀ a ∈ l, Ok a) ∧ l.length * by_ ≤ reachBytes := by
  rcases open_slice ht h with ⟨h0, _⟩ | ⟨a, len, cap, m, n, D, Pl, hcs, hb, hl, hm, hmm, hxx, hx'⟩
  · simp only [List.cons.injEq, and_true] at h0
    subst h0
    exact ⟨[], ⟨none, 0, rfl, Nat.le_refl _, fun h => absurd h (by simp)⟩, by simp, by simp⟩
  · have hlm : len ≤ m := by rw [hmm]; split <;> omega
    rw [hxx] at hx
    have each : ∀ i, i < len → ∃ q : α, (∀ j u, (enca q)[j]? = some u → w.cell? (a.add (i * k + j)) = some u) ∧ Ok q := by
      intro i hi
      obtain ⟨cs', h1, h2⟩ := hx' i (by omega)
      rw [hk] at h1
      obtain ⟨_, hlen', hcell⟩ := World.cells?_some h1
      obtain ⟨q, hq, hok⟩ := hel h2 (fun n hn => hx n (by
        simp only [DataW.weights, ht, List.mem_cons, List.mem_append]
        exact Or.inr (Or.inl (weights_all (d := D i) (List.mem_map.2 ⟨i, List.mem_range.2 hi, rfl⟩) n hn))))
      refine ⟨q, fun j u hj => ?_, hok⟩
      rw [← hq] at hj
      have hjl := (List.getElem?_eq_some_iff.1 hj).1
      have := hcell j (by omega)
      rw [add_add] at this
      rw [this, hj]
    obtain ⟨q, hq⟩ := choose_lt each
    have hlb : len * by_ ≤ reachBytes := by
      have := hx ((((List.range len).map D).length + ((List.range (m - len)).map fun j => D (len + j)).length) * Tryz.prog.bytesOf e) (by simp [DataW.weights, ht])
      rw [hby] at this
      simp only [List.length_map, List.length_range] at this
      exact Nat.le_trans (Nat.mul_le_mul_right _ (by omega)) this
    simp only [List.cons.injEq, and_true] at hcs
    subst hcs
    have hL : ((List.range len).map q).length = len := by simp
    refine ⟨(List.range len).map q, ⟨some a, cap, by rw [hL], by rw [hL]; exact hl, fun h0 => ?_⟩, ?_, by rw [hL]; exact hlb⟩
    · rw [hL] at h0
      have hs : a.spot = none ∧ a.block < w.heap.size := by
        have h1 : (enca (q 0))[0]? = some ((enca (q 0))[0]'(by rw [hlen]; exact hk0)) := List.getElem?_eq_getElem _
        have := (hq 0 h0).1 0 _ h1
        exact cell_addr (a := a) (by simpa [Addr.add] using this)
      obtain ⟨ab, ao, sp⟩ := a
      obtain rfl : sp = none := hs.1
      refine ⟨ab, ao, rfl, hs.2, ?_⟩
      have key : ∀ (n : Nat) (j : Nat) (u : Value), n ≤ len → (((List.range n).map q).flatMap enca)[j]? = some u → w.cell? ⟨ab, ao + j, none⟩ = some u := by
        intro n
        induction n with
        | zero => intro j u _ hj; simp at hj
        | succ n ih =>
          intro j u hn hj
          have hl2 : (((List.range n).map q).flatMap enca).length = n * k := by
            clear ih hj hn
            induction n with
            | zero => simp
            | succ n ih2 => rw [List.range_succ, List.map_append, List.flatMap_append, List.length_append, ih2]; simp [hlen, Nat.succ_mul]
          rw [List.range_succ, List.map_append, List.flatMap_append] at hj
          rcases Nat.lt_or_ge j (n * k) with hjn | hjn
          · rw [List.getElem?_append_left (by rw [hl2]; exact hjn)] at hj
            exact ih j u (by omega) hj
          · rw [List.getElem?_append_right (by rw [hl2]; exact hjn), hl2] at hj
            have := (hq n (by omega)).1 (j - n * k) u (by simpa using hj)
            rw [addr_add, show n * k + (j - n * k) = j by omega] at this
            exact this
      intro j u hj
      exact key len j u (Nat.le_refl _) hj
    · intro s hs
      obtain ⟨i, hi, rfl⟩ := List.mem_map.1 hs
      exact (hq i (List.mem_range.1 hi)).2

def sz : St := ⟨0, ⟨#[]⟩, ⟨#[]⟩, 0, 0, 0, []⟩
instance : Inhabited (St × Value) := ⟨(sz, .slice none 0 0)⟩
theorem Tryz.bytesStep : Tryz.prog.bytesOf 24 = 88 := by kernel_rfl
/-- A list of steps, opened. -/
theorem open_steps {fuel : Nat} {v : Value} {x : DataW H × List MemPlace} (h : DataW.trod enc Tryz.prog w 0 spare held fuel 29 [v] = some x) (hx : ∀ n ∈ x.1.weights Tryz.prog 29, n ≤ reachBytes) :
    ∃ l : List (St × Value), StR w v l ∧ (∀ p ∈ l, InH p.1 ∧ (-9223372036854775808 ≤ p.1.kind ∧ p.1.kind ≤ 9223372036854775807)) ∧ l.length * 88 ≤ 140737488355328 := by
  obtain ⟨l, h1, h2, h3⟩ := open_row (fun p : St × Value => (scell p.1 p.2).toList) (fun p => Row w p.2 p.1.l.length (ints p.1.l) ∧ InH p.1 ∧ (-9223372036854775808 ≤ p.1.kind ∧ p.1.kind ≤ 9223372036854775807)) Tryz.underlying29 Tryz.cellsStep (by omega) Tryz.bytesStep (fun _ => rfl)
    (fun h hw => by
      obtain ⟨t, z, e, hr, hk, hi, hl, ha, hb⟩ := open_step h hw
      exact ⟨(t, z), e, hr, ⟨hi, hl, ha, hb⟩, hk⟩) h hx
  refine ⟨l, ⟨h1, fun p hp => (h2 p hp).1⟩, fun p hp => (h2 p hp).2, ?_⟩
  unfold reachBytes at h3; omega
end
end Go.Proofs.YtdlhdompemkjfaaGreatDoor
