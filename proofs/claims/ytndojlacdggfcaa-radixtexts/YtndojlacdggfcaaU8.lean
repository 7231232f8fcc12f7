import Derived.Test.YtndojlacdggfcaaU7
import Derived.RangeFuncNested
import Derived.RangeFuncBound
import Derived.RangeFuncCalls
import Derived.RangeFuncLeaves
import Derived.Shelf.Abstract
import Derived.Shelf.RegionOpen
import Derived.OwnWalkIn
import Derived.TacticsInMore
import Derived.LoopNIn
import Derived.LoopIn
namespace Go.Proofs.Ytndojlacdggfcaa
open Go.RowKit Go.Shelf

theorem beq_yes : ((⟨#[]⟩ : ByteArray) == ⟨#[]⟩) = true := (Go.MapKept.bytes_beq _ _).2 rfl
theorem beq_no {a : ByteArray} (h : ¬ a = ⟨#[]⟩) : (a == (⟨#[]⟩ : ByteArray)) = false := by
  cases hb : (a == (⟨#[]⟩ : ByteArray))
  · rfl
  · exact absurd ((Go.MapKept.bytes_beq _ _).1 hb) h

attribute [local go_sem] Oper.semAt_some

/-- Slots and nodesS lie as they lay. -/
def KeepSS (W W' : World) : Prop := ∀ (b : Nat) (c : Array Value) (t : TypeId), (t = 90 ∨ t = 110) → W.heap[b]? = some (.cells c t (0, 0)) → W'.heap[b]? = some (.cells c t (0, 0))
theorem KeepSS.refl (W : World) : KeepSS W W := fun _ _ _ _ h => h
theorem KeepSS.trans {A B C : World} (h : KeepSS A B) (k : KeepSS B C) : KeepSS A C := fun b c t ht hn => k b c t ht (h b c t ht hn)
theorem KeepSS.nodesS {A B : World} (h : KeepSS A B) : KeepNS A B := fun b _ _ hn => h b _ 110 (.inr rfl) hn
theorem Keeps.slotsS {X : Nat → Prop} {A B : World} (h : Keeps X A B) (hx : ∀ (b : Nat) (c : Array Value) (t : TypeId), X b → (t = 90 ∨ t = 110) → ¬ A.heap[b]? = some (.cells c t (0, 0))) : KeepSS A B := fun b c t ht hn => h.at hn fun hb => hx b c t hb ht hn
theorem Keeps.none_slotsS {A B : World} (h : Keeps (fun _ => False) A B) : KeepSS A B := h.slotsS fun _ _ _ h => h.elim
theorem keepS_bS (w : World) (W : World) (l : Nat) (o o' : Obj) (_ : w.heap.size ≤ l) (h : W.heap[l]? = some o) (hc : o.isCells = false) (_ : o.isWalk = false) : KeepSS W (W.putObj l o') := by
  intro b c t _ hb
  have hne : b ≠ l := by rintro rfl; rw [h] at hb; cases hb; cases hc
  exact (World.putObj_heap_other hne).trans hb

/-- What From hands on: an offset and its value. -/
abbrev ElS := Fin 512 × ByteArray
def encsS (x : ElS) : Array Value := #[.int .i64 (x.1.val : Int), .string x.2]
def elS (g : Nat → ByteArray) (lo : Int) (o : Nat) : Option ElS := if h : o < 512 then (if lo ≤ (o : Int) ∧ g o ≠ ⟨#[]⟩ then some (⟨o, h⟩, g o) else none) else none
def elsS (g : Nat → ByteArray) (lo : Int) (a n : Nat) : List ElS := (List.range' a n).filterMap (elS g lo)

theorem els_addS (g : Nat → ByteArray) (lo : Int) (a n m : Nat) : elsS g lo a (n + m) = elsS g lo a n ++ elsS g lo (a + n) m := by
  simp only [elsS]
  rw [← List.filterMap_append, List.range'_append_1]
theorem els_zeroS (g : Nat → ByteArray) (lo : Int) (a : Nat) : elsS g lo a 0 = [] := rfl
theorem els_noneS {g : Nat → ByteArray} {lo : Int} {a n : Nat} (h : ∀ o, a ≤ o → o < a + n → (o : Int) < lo ∨ g o = ⟨#[]⟩) : elsS g lo a n = [] := by
  simp only [elsS, List.filterMap_eq_nil_iff]
  intro o ho
  obtain ⟨h1, h2⟩ := List.mem_range'_1.1 ho
  simp only [elS]
  split
  · rw [if_neg]
    rintro ⟨h3, h4⟩
    rcases h o h1 h2 with h5 | h5
    · omega
    · exact h4 h5
  · rfl
theorem els_oneS {g : Nat → ByteArray} {lo : Int} {a : Nat} (ha : a < 512) (h1 : lo ≤ (a : Int)) (h2 : g a ≠ ⟨#[]⟩) : elsS g lo a 1 = [(⟨a, ha⟩, g a)] := by
  simp [elsS, elS, ha, h1, h2]

end Go.Proofs.Ytndojlacdggfcaa
