import Derived.Test.YtndojlacdggfcaaB1
import Derived.RangeFuncNested
import Derived.RangeFuncBound
import Derived.RangeFuncCalls
import Derived.RangeFuncLeaves
import Derived.Shelf.Abstract
import Derived.Shelf.RegionOpen
import Derived.OwnWalkIn
import Derived.TacticsInMore
import Derived.LoopNIn
import Derived.LoopIn
namespace Go.Proofs.Ytndojlacdggfcaa
open Go.RowKit Go.Shelf

attribute [local go_sem] Oper.semAt_some

theorem room_of_none {F : Fence} (hd : F.depth = none) (k : Nat) : F.room k := fun d h => by rw [hd] at h; cases h
theorem RoundIn.anyDepth {F : Fence} (hd : F.depth = none) {m m' : Nat} {P : Program} {l : Nat} {f : FuncId} {tmps : Array Value} {assign body : Code} {w : World} {R : Ending → World → Prop}
    (h : RoundIn F m P l f tmps assign body w R) : RoundIn F m' P l f tmps assign body w R := ⟨h.1, fun c cs _ => h.2 c cs (room_of_none hd _)⟩
theorem YieldAt.anyDepth {F : Fence} (hd : F.depth = none) {m : Nat} (m' : Nat) {P : Program} {l : Nat} {args : Array Value} {W : World} {R : Ending → World → Prop} (h : YieldAt F m P l args W R) : YieldAt F m' P l args W R := by
  obtain ⟨fn, tmps, assign, body, hy, hR⟩ := h
  exact ⟨fn, tmps, assign, body, hy, RoundIn.anyDepth hd hR⟩

/-- Slots and nodes lie as they lay. -/
def KeepS (W W' : World) : Prop := ∀ (b : Nat) (c : Array Value) (t : TypeId), (t = 71 ∨ t = 102) → W.heap[b]? = some (.cells c t (0, 0)) → W'.heap[b]? = some (.cells c t (0, 0))
theorem KeepS.refl (W : World) : KeepS W W := fun _ _ _ _ h => h
theorem KeepS.trans {A B C : World} (h : KeepS A B) (k : KeepS B C) : KeepS A C := fun b c t ht hn => k b c t ht (h b c t ht hn)
theorem KeepS.nodes {A B : World} (h : KeepS A B) : KeepN A B := fun b _ _ hn => h b _ 102 (.inr rfl) hn
theorem Keeps.slots {X : Nat → Prop} {A B : World} (h : Keeps X A B) (hx : ∀ (b : Nat) (c : Array Value) (t : TypeId), X b → (t = 71 ∨ t = 102) → ¬ A.heap[b]? = some (.cells c t (0, 0))) : KeepS A B := fun b c t ht hn => h.at hn fun hb => hx b c t hb ht hn
theorem Keeps.none_slots {A B : World} (h : Keeps (fun _ => False) A B) : KeepS A B := h.slots fun _ _ _ h => h.elim
theorem keepS_b (w : World) (W : World) (l : Nat) (o o' : Obj) (_ : w.heap.size ≤ l) (h : W.heap[l]? = some o) (hc : o.isCells = false) (_ : o.isWalk = false) : KeepS W (W.putObj l o') := by
  intro b c t _ hb
  have hne : b ≠ l := by rintro rfl; rw [h] at hb; cases hb; cases hc
  exact (World.putObj_heap_other hne).trans hb

/-- What From hands on: an offset and its value. -/
abbrev El := Fin 512 × Int
def encs (x : El) : Array Value := #[.int .i64 (x.1.val : Int), .int .i64 x.2]
def el (g : Nat → Int) (lo : Int) (o : Nat) : Option El := if h : o < 512 then (if lo ≤ (o : Int) ∧ g o ≠ 0 then some (⟨o, h⟩, g o) else none) else none
def els (g : Nat → Int) (lo : Int) (a n : Nat) : List El := (List.range' a n).filterMap (el g lo)

theorem els_add (g : Nat → Int) (lo : Int) (a n m : Nat) : els g lo a (n + m) = els g lo a n ++ els g lo (a + n) m := by
  simp only [els]
  rw [← List.filterMap_append, List.range'_append_1]
theorem els_zero (g : Nat → Int) (lo : Int) (a : Nat) : els g lo a 0 = [] := rfl
theorem els_none {g : Nat → Int} {lo : Int} {a n : Nat} (h : ∀ o, a ≤ o → o < a + n → (o : Int) < lo ∨ g o = 0) : els g lo a n = [] := by
  simp only [els, List.filterMap_eq_nil_iff]
  intro o ho
  obtain ⟨h1, h2⟩ := List.mem_range'_1.1 ho
  simp only [el]
  split
  · rw [if_neg]
    rintro ⟨h3, h4⟩
    rcases h o h1 h2 with h5 | h5
    · omega
    · exact h4 h5
  · rfl
theorem els_one {g : Nat → Int} {lo : Int} {a : Nat} (ha : a < 512) (h1 : lo ≤ (a : Int)) (h2 : g a ≠ 0) : els g lo a 1 = [(⟨a, ha⟩, g a)] := by
  simp [els, el, ha, h1, h2]

end Go.Proofs.Ytndojlacdggfcaa
