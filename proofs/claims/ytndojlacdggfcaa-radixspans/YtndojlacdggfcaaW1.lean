import Derived.Test.YtndojlacdggfcaaE1
import Derived.Test.YtndojlacdggfcaaH5
import Derived.WalkKit
import Derived.WalkSpells
import Derived.WalkLawsBesides
import Derived.Deep.QuietTactic
import Derived.BigQuiet
import Derived.Deep.RegionLaw
namespace Go.Proofs.Ytndojlacdggfcaa
open Go.RowKit

abbrev Sp := Int × Int
def sp0 : Sp := (0, 0)

def updP (f : Nat → Sp) (k : Nat) (x : Sp) : Nat → Sp := fun o => if o = k then x else f o

def ncellsP (q : Nat → Option Addr) (u : Nat → Sp) : Array Value :=
  #[.pointer (q 0), .int .i64 (u 0).1, .int .i64 (u 0).2, .pointer (q 1), .int .i64 (u 1).1, .int .i64 (u 1).2, .pointer (q 2), .int .i64 (u 2).1, .int .i64 (u 2).2, .pointer (q 3), .int .i64 (u 3).1, .int .i64 (u 3).2, .pointer (q 4), .int .i64 (u 4).1, .int .i64 (u 4).2, .pointer (q 5), .int .i64 (u 5).1, .int .i64 (u 5).2, .pointer (q 6), .int .i64 (u 6).1, .int .i64 (u 6).2, .pointer (q 7), .int .i64 (u 7).1, .int .i64 (u 7).2]

def NodeAtP (W : World) (b : Nat) (q : Nat → Option Addr) (u : Nat → Sp) : Prop := W.heap[b]? = some (.cells (ncellsP q u) 105 (0, 0))

/-- A slot of level k (it stands for 8 ^ k offsets), its two fields p and v, holds f; its nodesP lie in blocks of X. -/
def SlotAtP (W : World) (X : Nat → Prop) : Nat → Option Addr → Sp → (Nat → Sp) → Prop
  | 0, p, v, f => p = none ∧ v = f 0
  | k + 1, p, v, f => v = (0, 0) ∧ ((p = none ∧ ∀ o, o < 8 ^ (k + 1) → f o = (0, 0)) ∨
      ∃ b q u, p = some ⟨b, 0, none⟩ ∧ X b ∧ NodeAtP W b q u ∧ ∀ i, i < 8 → SlotAtP W X k (q i) (u i) (fun o => f (i * 8 ^ k + o)))

theorem SlotAtP.congr {W : World} {X : Nat → Prop} : ∀ {k : Nat} {p : Option Addr} {v : Sp} {f g : Nat → Sp}, SlotAtP W X k p v f → (∀ o, o < 8 ^ k → f o = g o) → SlotAtP W X k p v g
  | 0, _, _, _, _, h, e => ⟨h.1, h.2.trans (e 0 (by decide))⟩
  | k + 1, _, _, _, _, h, e => ⟨h.1, h.2.elim (fun ⟨hp, hz⟩ => .inl ⟨hp, fun o ho => (e o ho).symm.trans (hz o ho)⟩)
      (fun ⟨b, q, u, hp, hx, hn, hs⟩ => .inr ⟨b, q, u, hp, hx, hn, fun i hi => (hs i hi).congr fun o ho => e _ (idx_lt hi ho)⟩)⟩

/-- Nodes lie as they lay. -/
def KeepNP (W W' : World) : Prop := ∀ b q u, NodeAtP W b q u → NodeAtP W' b q u
theorem KeepNP.refl (W : World) : KeepNP W W := fun _ _ _ h => h
theorem KeepNP.trans {A B C : World} (h : KeepNP A B) (k : KeepNP B C) : KeepNP A C := fun b q u hn => k b q u (h b q u hn)
theorem Keeps.nodesP {X : Nat → Prop} {A B : World} (h : Keeps X A B) (hx : ∀ b q u, X b → ¬ NodeAtP A b q u) : KeepNP A B := fun b q u hn => h.at hn fun hb => hx b q u hb hn
theorem SlotAtP.keepX {A B : World} {X Y : Nat → Prop} (hk : ∀ b q u, X b → NodeAtP A b q u → Y b ∧ NodeAtP B b q u) : ∀ {k : Nat} {p : Option Addr} {v : Sp} {f : Nat → Sp}, SlotAtP A X k p v f → SlotAtP B Y k p v f
  | 0, _, _, _, h => h
  | _ + 1, _, _, _, h => ⟨h.1, h.2.elim .inl (fun ⟨b, q, u, hp, hx, hn, hs⟩ => .inr ⟨b, q, u, hp, (hk b q u hx hn).1, (hk b q u hx hn).2, fun i hi => (hs i hi).keepX hk⟩)⟩
theorem SlotAtP.keep {A B : World} {X : Nat → Prop} (hk : KeepNP A B) {k : Nat} {p : Option Addr} {v : Sp} {f : Nat → Sp} (h : SlotAtP A X k p v f) : SlotAtP B X k p v f := h.keepX fun b q u hx hn => ⟨hx, hk b q u hn⟩
theorem SlotAtP.mono {A : World} {X Y : Nat → Prop} (hk : ∀ b, X b → Y b) {k : Nat} {p : Option Addr} {v : Sp} {f : Nat → Sp} (h : SlotAtP A X k p v f) : SlotAtP A Y k p v f := h.keepX fun b _ _ hx hn => ⟨hk b hx, hn⟩
/-- Nodes that lay in A, of X, and whatever has not turned since. -/
theorem SlotAtP.old {A B : World} {X Z : Nat → Prop} (hk : Keeps Z A B) (hz : ∀ b, b < A.heap.size → X b → ¬ Z b) {k : Nat} {p : Option Addr} {v : Sp} {f : Nat → Sp} (h : SlotAtP A X k p v f) : SlotAtP B (fun b => X b ∧ b < A.heap.size) k p v f :=
  h.keepX fun b _ _ hx hn => ⟨⟨hx, heap_lt hn⟩, hk.at hn (hz b (heap_lt hn) hx)⟩
theorem SlotAtP.zeros {W : World} {X : Nat → Prop} {k : Nat} {f : Nat → Sp} (hz : ∀ o, o < 8 ^ k → f o = (0, 0)) : SlotAtP W X k none (0, 0) f := by
  cases k with
  | zero => exact ⟨rfl, (hz 0 (by decide)).symm⟩
  | succ k => exact ⟨rfl, .inl ⟨rfl, hz⟩⟩
theorem SlotAtP.zero {W : World} {X : Nat → Prop} {k : Nat} {f : Nat → Sp} (h : SlotAtP W X k none (0, 0) f) : ∀ o, o < 8 ^ k → f o = (0, 0) := by
  cases k with
  | zero => intro o ho; obtain rfl : o = 0 := by simpa using ho
            exact h.2.symm
  | succ k =>
    obtain ⟨_, ⟨_, hz⟩ | ⟨b, q, u, hp, _⟩⟩ := h
    · exact hz
    · cases hp

theorem node_cellP {W : World} {b : Nat} {q : Nat → Option Addr} {u : Nat → Sp} (h : NodeAtP W b q u) (i : Nat) (hi : i < 8) :
    W.cell? ⟨b, i * 3, none⟩ = some (.pointer (q i)) ∧ W.cell? ⟨b, i * 3 + 1, none⟩ = some (.int .i64 (u i).1) ∧ W.cell? ⟨b, i * 3 + 2, none⟩ = some (.int .i64 (u i).2) := by
  have h' : W.heap[b]? = some (.cells (ncellsP q u) 105 (0, 0)) := h
  have : i = 0 ∨ i = 1 ∨ i = 2 ∨ i = 3 ∨ i = 4 ∨ i = 5 ∨ i = 6 ∨ i = 7 := by omega
  rcases this with rfl | rfl | rfl | rfl | rfl | rfl | rfl | rfl <;> simp [World.cell?, h', ncellsP]
theorem node_frozenP {W : World} {b : Nat} {q : Nat → Option Addr} {u : Nat → Sp} (h : NodeAtP W b q u) (i : Nat) : W.frozen? ⟨b, i, none⟩ = false := by
  have h' : W.heap[b]? = some (.cells (ncellsP q u) 105 (0, 0)) := h
  simp [World.frozen?, h']

set_option maxHeartbeats 400000 in
theorem new_anyP (w : World) : Calls Try.prog 15 #[] w fun e w' => e = .returned (.pointer (some ⟨w.heap.size, 0, none⟩)) ∧ w' = w.alloc (.cells #[.pointer none, .int .i64 0, .int .i64 0] 81) := by
  go_enter Try.func15, Try.ntmps15
  go_wp2
  go_ret
  exact ⟨rfl, rfl⟩

end Go.Proofs.Ytndojlacdggfcaa
