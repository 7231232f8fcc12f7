import Derived.Test.YtndojlacdggfcaaE1
import Derived.Test.YtndojlacdggfcaaH5
import Derived.WalkKit
import Derived.WalkSpells
import Derived.WalkLawsBesides
import Derived.Deep.QuietTactic
import Derived.BigQuiet
import Derived.Deep.RegionLaw
namespace Go.Proofs.Ytndojlacdggfcaa
open Go.RowKit

def updS (f : Nat → ByteArray) (k : Nat) (x : ByteArray) : Nat → ByteArray := fun o => if o = k then x else f o

def ncellsS (q : Nat → Option Addr) (u : Nat → ByteArray) : Array Value :=
  #[.pointer (q 0), .string (u 0), .pointer (q 1), .string (u 1), .pointer (q 2), .string (u 2), .pointer (q 3), .string (u 3), .pointer (q 4), .string (u 4), .pointer (q 5), .string (u 5), .pointer (q 6), .string (u 6), .pointer (q 7), .string (u 7)]

def NodeAtS (W : World) (b : Nat) (q : Nat → Option Addr) (u : Nat → ByteArray) : Prop := W.heap[b]? = some (.cells (ncellsS q u) 110 (0, 0))

/-- A slot of level k (it stands for 8 ^ k offsets), its two fields p and v, holds f; its nodesS lie in blocks of X. -/
def SlotAtS (W : World) (X : Nat → Prop) : Nat → Option Addr → ByteArray → (Nat → ByteArray) → Prop
  | 0, p, v, f => p = none ∧ v = f 0
  | k + 1, p, v, f => v = ⟨#[]⟩ ∧ ((p = none ∧ ∀ o, o < 8 ^ (k + 1) → f o = ⟨#[]⟩) ∨
      ∃ b q u, p = some ⟨b, 0, none⟩ ∧ X b ∧ NodeAtS W b q u ∧ ∀ i, i < 8 → SlotAtS W X k (q i) (u i) (fun o => f (i * 8 ^ k + o)))

theorem SlotAtS.congr {W : World} {X : Nat → Prop} : ∀ {k : Nat} {p : Option Addr} {v : ByteArray} {f g : Nat → ByteArray}, SlotAtS W X k p v f → (∀ o, o < 8 ^ k → f o = g o) → SlotAtS W X k p v g
  | 0, _, _, _, _, h, e => ⟨h.1, h.2.trans (e 0 (by decide))⟩
  | k + 1, _, _, _, _, h, e => ⟨h.1, h.2.elim (fun ⟨hp, hz⟩ => .inl ⟨hp, fun o ho => (e o ho).symm.trans (hz o ho)⟩)
      (fun ⟨b, q, u, hp, hx, hn, hs⟩ => .inr ⟨b, q, u, hp, hx, hn, fun i hi => (hs i hi).congr fun o ho => e _ (idx_lt hi ho)⟩)⟩

/-- Nodes lie as they lay. -/
def KeepNS (W W' : World) : Prop := ∀ b q u, NodeAtS W b q u → NodeAtS W' b q u
theorem KeepNS.refl (W : World) : KeepNS W W := fun _ _ _ h => h
theorem KeepNS.trans {A B C : World} (h : KeepNS A B) (k : KeepNS B C) : KeepNS A C := fun b q u hn => k b q u (h b q u hn)
theorem Keeps.nodesS {X : Nat → Prop} {A B : World} (h : Keeps X A B) (hx : ∀ b q u, X b → ¬ NodeAtS A b q u) : KeepNS A B := fun b q u hn => h.at hn fun hb => hx b q u hb hn
theorem SlotAtS.keepX {A B : World} {X Y : Nat → Prop} (hk : ∀ b q u, X b → NodeAtS A b q u → Y b ∧ NodeAtS B b q u) : ∀ {k : Nat} {p : Option Addr} {v : ByteArray} {f : Nat → ByteArray}, SlotAtS A X k p v f → SlotAtS B Y k p v f
  | 0, _, _, _, h => h
  | _ + 1, _, _, _, h => ⟨h.1, h.2.elim .inl (fun ⟨b, q, u, hp, hx, hn, hs⟩ => .inr ⟨b, q, u, hp, (hk b q u hx hn).1, (hk b q u hx hn).2, fun i hi => (hs i hi).keepX hk⟩)⟩
theorem SlotAtS.keep {A B : World} {X : Nat → Prop} (hk : KeepNS A B) {k : Nat} {p : Option Addr} {v : ByteArray} {f : Nat → ByteArray} (h : SlotAtS A X k p v f) : SlotAtS B X k p v f := h.keepX fun b q u hx hn => ⟨hx, hk b q u hn⟩
theorem SlotAtS.mono {A : World} {X Y : Nat → Prop} (hk : ∀ b, X b → Y b) {k : Nat} {p : Option Addr} {v : ByteArray} {f : Nat → ByteArray} (h : SlotAtS A X k p v f) : SlotAtS A Y k p v f := h.keepX fun b _ _ hx hn => ⟨hk b hx, hn⟩
/-- Nodes that lay in A, of X, and whatever has not turned since. -/
theorem SlotAtS.old {A B : World} {X Z : Nat → Prop} (hk : Keeps Z A B) (hz : ∀ b, b < A.heap.size → X b → ¬ Z b) {k : Nat} {p : Option Addr} {v : ByteArray} {f : Nat → ByteArray} (h : SlotAtS A X k p v f) : SlotAtS B (fun b => X b ∧ b < A.heap.size) k p v f :=
  h.keepX fun b _ _ hx hn => ⟨⟨hx, heap_lt hn⟩, hk.at hn (hz b (heap_lt hn) hx)⟩
theorem SlotAtS.zeros {W : World} {X : Nat → Prop} {k : Nat} {f : Nat → ByteArray} (hz : ∀ o, o < 8 ^ k → f o = ⟨#[]⟩) : SlotAtS W X k none ⟨#[]⟩ f := by
  cases k with
  | zero => exact ⟨rfl, (hz 0 (by decide)).symm⟩
  | succ k => exact ⟨rfl, .inl ⟨rfl, hz⟩⟩
theorem SlotAtS.zero {W : World} {X : Nat → Prop} {k : Nat} {f : Nat → ByteArray} (h : SlotAtS W X k none ⟨#[]⟩ f) : ∀ o, o < 8 ^ k → f o = ⟨#[]⟩ := by
  cases k with
  | zero => intro o ho; obtain rfl : o = 0 := by simpa using ho
            exact h.2.symm
  | succ k =>
    obtain ⟨_, ⟨_, hz⟩ | ⟨b, q, u, hp, _⟩⟩ := h
    · exact hz
    · cases hp

theorem node_cellS {W : World} {b : Nat} {q : Nat → Option Addr} {u : Nat → ByteArray} (h : NodeAtS W b q u) (i : Nat) (hi : i < 8) :
    W.cell? ⟨b, i * 2, none⟩ = some (.pointer (q i)) ∧ W.cell? ⟨b, i * 2 + 1, none⟩ = some (.string (u i)) := by
  have h' : W.heap[b]? = some (.cells (ncellsS q u) 110 (0, 0)) := h
  have : i = 0 ∨ i = 1 ∨ i = 2 ∨ i = 3 ∨ i = 4 ∨ i = 5 ∨ i = 6 ∨ i = 7 := by omega
  rcases this with rfl | rfl | rfl | rfl | rfl | rfl | rfl | rfl <;> simp [World.cell?, h', ncellsS]
theorem node_frozenS {W : World} {b : Nat} {q : Nat → Option Addr} {u : Nat → ByteArray} (h : NodeAtS W b q u) (i : Nat) : W.frozen? ⟨b, i, none⟩ = false := by
  have h' : W.heap[b]? = some (.cells (ncellsS q u) 110 (0, 0)) := h
  simp [World.frozen?, h']

set_option maxHeartbeats 400000 in
theorem new_anyS (w : World) : Calls Try.prog 23 #[] w fun e w' => e = .returned (.pointer (some ⟨w.heap.size, 0, none⟩)) ∧ w' = w.alloc (.cells #[.pointer none, .string ⟨#[]⟩] 92) := by
  go_enter Try.func23, Try.ntmps23
  go_wp2
  go_ret
  exact ⟨rfl, rfl⟩

end Go.Proofs.Ytndojlacdggfcaa
