import Derived.Test.YtngoifbflpeapabDoorT3
import Derived.Deep.DeepCutAuto
namespace Go.Proofs.YtngoifbflpeapabDoor
open Go.RowKit Go.Maps
set_option maxRecDepth 100000

/-! The document's Words. -/
def rcell (x : Wd) : Array Value := #[.bool x.quoted, .string x.text]
def rzero : Array Value := #[.bool false, .string ⟨#[]⟩]
theorem infoR : (Tryd.prog.info? 57).map (fun i => (i.zero, i.size, i.bytes)) = some (some (.agg rzero), 2, 24) := by kernel_rfl
theorem sizeR : (Tryd.prog.info? 57).map (·.size) = some 2 := by kernel_rfl
def rcells (l : List Wd) : List Value := l.flatMap fun x => (rcell x).toList
theorem rcells_len (l : List Wd) : (rcells l).length = l.length * 2 := by
  induction l with
  | nil => rfl
  | cons a l ih => simp [rcells, rcell] at ih ⊢; omega
theorem rcells_app (a b : List Wd) : rcells (a ++ b) = rcells a ++ rcells b := by simp [rcells]
def RB (w W : World) (v : Value) (l : List Wd) : Prop := W.ownsRow w.heap.size 57 2 v l.length (rcells l) ∧ Keeps (fun _ => False) w W
theorem RB.nil (w : World) : RB w w (.slice none 0 0) [] := ⟨World.ownsRow_nil _ _ _ _, Keeps.refl _ _⟩
theorem RB.keep {w A B : World} {v : Value} {l : List Wd} (h : RB w A v l) (k : Keeps (fun _ => False) A B) : RB w B v l := ⟨own_grow h.1 k, h.2.trans k⟩
theorem wpList_appr {ops : Array Oper} {rest : List Oper} {o : Oper} {a : Act} {Q : Exit → Act → World → Prop} (hgd : o.guard = none) (s x : Operand)
    (ho : o.op = .call { callee := .builtin .append, args := #[s, x], argTypes := #[53, 53] }) (w W : World) (v : Value) (l : List Wd) (hs : a.eval s = v) (h : RB w W v l) (b : Wd)
    (hx : a.eval x = .slice (some ⟨W.heap.size, 0, none⟩) 1 1) (hl : l.length ≤ 1000000000)
    (K : ∀ v' W', RB w W' v' (l ++ [b]) → wpList Tryd.prog ops Q rest (a.put o.dst v') W') : wpList Tryd.prog ops Q (o :: rest) a (W.alloc (.cells (rcell b) 57)) := by
  obtain ⟨i0, hi, hz0, hz1, hz2⟩ := info_parts infoR
  refine wpList_append_own_at _ hgd s x 53 ho w.heap.size 57 i0 (.agg rzero) 2 24 Tryd.underlying53 hi hz0 hz1 hz2 rfl (by decide) v l.length (rcells l) hs (h.1.alloc _) ⟨W.heap.size, 0, none⟩ 1 1 (rcell b).toList hx rfl ?_ ?_ (by unfold maxLen; omega) (by omega) (by rw [World.size_alloc]; have := h.2.size; omega) ?_
  · intro j u hj
    have h2 := heap_last W (.cells (rcell b) 57)
    rw [addr_add]
    simp only [World.cell?, h2, Nat.zero_add]
    rw [Array.getElem?_toList] at hj
    exact hj
  · intro u hu
    simp only [rcell, List.mem_cons, List.not_mem_nil, or_false] at hu
    rcases hu with rfl | rfl <;> rfl
  · intro v' W' hown hgr _ _
    refine K v' W' ⟨?_, ?_⟩
    · rw [rcells_app, List.length_append]
      have e : rcells [b] = (rcell b).toList := by simp [rcells]
      rw [e]; exact hown
    · refine (h.2.alloc _).step hgr (fun k hk => Or.inr ?_)
      exact ((h.1.lt k hk).1)
theorem fillr (b : Wd) : Instr.fill (fun i => some (i * 2, 2)) ((Array.range (1 * 2)).map (rzero[· % 2]!)) [(0, .agg (rcell b))] = some (rcell b) := by kernel_rfl
theorem wpList_wordr {ops : Array Oper} {rest : List Oper} {o : Oper} {a : Act} {W : World} {Q : Exit → Act → World → Prop} (hgd : o.guard = none) (x : Operand) (ho : o.op = .buildSlice 53 1 #[(0, x)])
    (b : Wd) (hx : a.eval x = .agg (rcell b)) (h : wpList Tryd.prog ops Q rest (a.put o.dst (.slice (some ⟨W.heap.size, 0, none⟩) 1 1)) (W.alloc (.cells (rcell b) 57))) : wpList Tryd.prog ops Q (o :: rest) a W := by
  obtain ⟨i0, hi, hz0, hz1, hz2⟩ := info_parts infoR
  refine wpList_buildSlice hgd 53 57 1 _ ho (rcell b) i0 (.agg rzero) Tryd.underlying53 hi hz0 (by rw [hz1]; decide) (by rw [hz1]; decide) ?_ h
  rw [hz1, show ((#[(0, x)] : Array (Nat × Operand)).map fun (i, x) => (i, a.eval x)).toList = [(0, a.eval x)] by simp, hx]
  exact fillr b
theorem upto_go {t : Bs} {j : Nat} (hj : j ≤ upto 32 t) {b : UInt8} (hb : t[j]? = some b) (hn : ¬ b = 32) : j + 1 ≤ upto 32 t := by
  rcases Nat.lt_or_ge j (upto 32 t) with h | h
  · exact h
  · exfalso
    have e : j = upto 32 t := by omega
    have : ∀ (t : Bs), t[upto 32 t]? = some b → b = 32 := by
      intro t
      induction t with
      | nil => intro h; cases h
      | cons c r ih =>
        intro h
        by_cases hc : c = 32
        · have e0 : upto 32 (c :: r) = 0 := by unfold upto; rw [List.takeWhile_cons, if_neg (by simp [hc])]; rfl
          rw [e0] at h
          have : c = b := by simpa using h
          rw [← this]; exact hc
        · rw [upto_cons hc, List.getElem?_cons_succ] at h
          exact ih h
    exact hn (this t (by rw [← e]; exact hb))
theorem upto_end {t : Bs} {j : Nat} (hj : j ≤ upto 32 t) (h : t[j]? = none ∨ t[j]? = some 32) : j = upto 32 t := by
  rcases Nat.lt_or_ge j (upto 32 t) with h1 | h1
  · exfalso
    have : ∀ (t : Bs) (j : Nat), j < upto 32 t → ∃ b, t[j]? = some b ∧ ¬ b = 32 := by
      intro t
      induction t with
      | nil => intro j hj; simp [upto] at hj
      | cons c r ih =>
        intro j hj
        by_cases hc : c = 32
        · have e0 : upto 32 (c :: r) = 0 := by unfold upto; rw [List.takeWhile_cons, if_neg (by simp [hc])]; rfl
          omega
        · cases j with
          | zero => exact ⟨c, rfl, hc⟩
          | succ j =>
            rw [upto_cons hc] at hj
            obtain ⟨b, hb, hn⟩ := ih j (by omega)
            exact ⟨b, by rw [List.getElem?_cons_succ]; exact hb, hn⟩
    obtain ⟨b, hb, hn⟩ := this t j h1
    rcases h with h | h
    · rw [h] at hb; cases hb
    · rw [h] at hb; cases hb; exact hn rfl
  · omega
/-- The first word, where no quote stands. -/
theorem fw_pl {t : Bs} (h34 : ¬ t.getD 0 0 = 34) {j : Nat} (hj : j = upto 32 t) (ha : (t.take j).all (· != 34) = true) : fw t = (⟨mkB (t.take j), false⟩, j) := by
  unfold fw
  rw [if_neg h34]
  unfold fwP
  rw [← hj, if_pos ha]
theorem fw_pl_bad {t : Bs} (h34 : ¬ t.getD 0 0 = 34) {j : Nat} (hj : j < upto 32 t) (hb : t[j]? = some 34) : (fw t).2 = 0 := by
  unfold fw
  rw [if_neg h34]
  unfold fwP
  rw [if_neg]
  intro ha
  rw [List.all_eq_true] at ha
  have : (34 : UInt8) ∈ t.take (upto 32 t) := List.mem_of_getElem? (i := j) (by rw [List.getElem?_take, if_pos hj]; exact hb)
  have := ha _ this
  simp at this
theorem fw_quo_none {t : Bs} (h34 : t.getD 0 0 = 34) (h : uq t = none) : (fw t).2 = 0 := by
  unfold fw
  rw [if_pos h34]
  unfold fwQ
  rw [h]
theorem fw_quo_bad {t : Bs} (h34 : t.getD 0 0 = 34) {a : Bs} {n : Nat} (h : uq t = some (a, n)) (hn : n < t.length) (hb : ¬ t.getD n 0 = 32) : (fw t).2 = 0 := by
  unfold fw
  rw [if_pos h34]
  unfold fwQ
  rw [h]
  simp only
  rw [if_pos ⟨hn, hb⟩]
theorem fw_quo {t : Bs} (h34 : t.getD 0 0 = 34) {a : Bs} {n : Nat} (h : uq t = some (a, n)) (hb : n < t.length → t.getD n 0 = 32) : fw t = (⟨mkB a, true⟩, n) := by
  unfold fw
  rw [if_pos h34]
  unfold fwQ
  rw [h]
  simp only
  rw [if_neg (fun hh => hh.2 (hb hh.1))]
end Go.Proofs.YtngoifbflpeapabDoor

