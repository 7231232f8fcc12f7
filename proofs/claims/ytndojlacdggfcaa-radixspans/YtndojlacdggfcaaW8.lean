import Derived.Test.YtndojlacdggfcaaW7
import Derived.RangeFuncNested
import Derived.RangeFuncBound
import Derived.RangeFuncCalls
import Derived.RangeFuncLeaves
import Derived.Shelf.Abstract
import Derived.Shelf.RegionOpen
import Derived.OwnWalkIn
import Derived.TacticsInMore
import Derived.LoopNIn
import Derived.LoopIn
namespace Go.Proofs.Ytndojlacdggfcaa
open Go.RowKit Go.Shelf

theorem sp_no {a : Sp} (h : ¬ a = (0, 0)) : ((none : Option Addr).isNone && (a.1 == 0 && a.2 == 0)) = false := by
  by_cases h1 : a.1 = 0
  · by_cases h2 : a.2 = 0
    · exact absurd (Prod.ext h1 h2) h
    · simp [h2]
  · simp [h1]

attribute [local go_sem] Oper.semAt_some

/-- Slots and nodesP lie as they lay. -/
def KeepSP (W W' : World) : Prop := ∀ (b : Nat) (c : Array Value) (t : TypeId), (t = 79 ∨ t = 105) → W.heap[b]? = some (.cells c t (0, 0)) → W'.heap[b]? = some (.cells c t (0, 0))
theorem KeepSP.refl (W : World) : KeepSP W W := fun _ _ _ _ h => h
theorem KeepSP.trans {A B C : World} (h : KeepSP A B) (k : KeepSP B C) : KeepSP A C := fun b c t ht hn => k b c t ht (h b c t ht hn)
theorem KeepSP.nodesP {A B : World} (h : KeepSP A B) : KeepNP A B := fun b _ _ hn => h b _ 105 (.inr rfl) hn
theorem Keeps.slotsP {X : Nat → Prop} {A B : World} (h : Keeps X A B) (hx : ∀ (b : Nat) (c : Array Value) (t : TypeId), X b → (t = 79 ∨ t = 105) → ¬ A.heap[b]? = some (.cells c t (0, 0))) : KeepSP A B := fun b c t ht hn => h.at hn fun hb => hx b c t hb ht hn
theorem Keeps.none_slotsP {A B : World} (h : Keeps (fun _ => False) A B) : KeepSP A B := h.slotsP fun _ _ _ h => h.elim
theorem keepS_bP (w : World) (W : World) (l : Nat) (o o' : Obj) (_ : w.heap.size ≤ l) (h : W.heap[l]? = some o) (hc : o.isCells = false) (_ : o.isWalk = false) : KeepSP W (W.putObj l o') := by
  intro b c t _ hb
  have hne : b ≠ l := by rintro rfl; rw [h] at hb; cases hb; cases hc
  exact (World.putObj_heap_other hne).trans hb

/-- What From hands on: an offset and its value. -/
abbrev ElP := Fin 512 × Sp
def encsP (x : ElP) : Array Value := #[.int .i64 (x.1.val : Int), .agg #[.int .i64 x.2.1, .int .i64 x.2.2]]
def elP (g : Nat → Sp) (lo : Int) (o : Nat) : Option ElP := if h : o < 512 then (if lo ≤ (o : Int) ∧ g o ≠ (0, 0) then some (⟨o, h⟩, g o) else none) else none
def elsP (g : Nat → Sp) (lo : Int) (a n : Nat) : List ElP := (List.range' a n).filterMap (elP g lo)

theorem els_addP (g : Nat → Sp) (lo : Int) (a n m : Nat) : elsP g lo a (n + m) = elsP g lo a n ++ elsP g lo (a + n) m := by
  simp only [elsP]
  rw [← List.filterMap_append, List.range'_append_1]
theorem els_zeroP (g : Nat → Sp) (lo : Int) (a : Nat) : elsP g lo a 0 = [] := rfl
theorem els_noneP {g : Nat → Sp} {lo : Int} {a n : Nat} (h : ∀ o, a ≤ o → o < a + n → (o : Int) < lo ∨ g o = (0, 0)) : elsP g lo a n = [] := by
  simp only [elsP, List.filterMap_eq_nil_iff]
  intro o ho
  obtain ⟨h1, h2⟩ := List.mem_range'_1.1 ho
  simp only [elP]
  split
  · rw [if_neg]
    rintro ⟨h3, h4⟩
    rcases h o h1 h2 with h5 | h5
    · omega
    · exact h4 h5
  · rfl
theorem els_oneP {g : Nat → Sp} {lo : Int} {a : Nat} (ha : a < 512) (h1 : lo ≤ (a : Int)) (h2 : g a ≠ (0, 0)) : elsP g lo a 1 = [(⟨a, ha⟩, g a)] := by
  simp [elsP, elP, ha, h1, h2]

end Go.Proofs.Ytndojlacdggfcaa
