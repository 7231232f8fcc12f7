import Derived.Test.YtndojlacdggfcaaProg
import Derived.WalkKit
import Derived.WalkSpells
import Derived.WalkLawsBesides
import Derived.Deep.QuietTactic
import Derived.BigQuiet
import Derived.Deep.RegionLaw
namespace Go.Proofs.Ytndojlacdggfcaa
open Go.RowKit

theorem Hid.mk' {p : Prop} (h : p) : Hid p := h
theorem ret_int {k : IntKind} {a b : Int} (h : a = b) : Ending.returned (.int k a) = .returned (.int k b) := by rw [h]
theorem ret_bool {a b : Bool} (h : a = b) : Ending.returned (.bool a) = .returned (.bool b) := by rw [h]

theorem wrap64_id {x : Int} (h1 : -9223372036854775808 ≤ x) (h2 : x ≤ 9223372036854775807) : wrap64 x = x := by
  unfold wrap64; omega
theorem i64_id {x : Int} (h1 : -9223372036854775808 ≤ x) (h2 : x ≤ 9223372036854775807) : IntKind.i64.wrap x = x := by
  simp only [IntKind.wrap, IntKind.signed, IntKind.bits]; simp; omega
theorem u64_id {x : Int} (h1 : 0 ≤ x) (h2 : x < 18446744073709551616) : IntKind.u64.wrap x = x := by
  simp only [IntKind.wrap, IntKind.signed, IntKind.bits]; simp; omega

theorem setCell_block {w : World} {a : Addr} {v : Value} {c : Array Value} {t : TypeId} {f : Nat × Nat} (h : w.heap[a.block]? = some (.cells c t f)) (hs : a.spot = none) :
    (w.setCell a v).heap[a.block]? = some (.cells (c.setIfInBounds a.off v) t f) := by
  simp [World.setCell, Array.getElem?_modify, h, hs]
theorem grownBy_setCell (w : World) (a : Addr) (v : Value) : w.grownBy (w.setCell a v) (some a.block) :=
  ⟨rfl, rfl, rfl, by simp [World.setCell], fun k _ hk => Below.heap_setCell _ _ _ _ (by rintro rfl; exact hk rfl)⟩
theorem heap_lt {w : World} {d : Nat} {o : Obj} (h : w.heap[d]? = some o) : d < w.heap.size := (Array.getElem?_eq_some_iff.1 h).1

/-- Nothing that lay in w has turned but blocks of X. -/
structure Keeps (X : Nat → Prop) (w w' : World) : Prop where
  os : w'.os = w.os
  tape : w'.tape = w.tape
  output : w'.output = w.output
  size : w.heap.size ≤ w'.heap.size
  block : ∀ k, k < w.heap.size → ¬ X k → w'.heap[k]? = w.heap[k]?

theorem Keeps.refl (X : Nat → Prop) (w : World) : Keeps X w w := ⟨rfl, rfl, rfl, Nat.le_refl _, fun _ _ _ => rfl⟩
theorem Keeps.drewN (X : Nat → Prop) (w : World) (n : Nat) : Keeps X w (w.drewN n) := ⟨rfl, rfl, rfl, Nat.le_refl _, fun _ _ _ => rfl⟩
theorem Keeps.trans {X : Nat → Prop} {a b c : World} (h : Keeps X a b) (k : Keeps X b c) : Keeps X a c :=
  ⟨k.os.trans h.os, k.tape.trans h.tape, k.output.trans h.output, Nat.le_trans h.size k.size,
   fun i hi hr => (k.block i (Nat.lt_of_lt_of_le hi h.size) hr).trans (h.block i hi hr)⟩
theorem Keeps.of {X : Nat → Prop} {a b : World} {r : Option Nat} (h : a.grownBy b r) (hr : ∀ k, r = some k → X k ∨ a.heap.size ≤ k) : Keeps X a b :=
  ⟨h.os, h.tape, h.output, h.size, fun i hi hx => h.block i hi (by
    intro e; rcases hr i e.symm with h1 | h1
    · exact hx h1
    · omega)⟩
/-- A further step that turns blocks of X, or new ones. -/
theorem Keeps.step {X : Nat → Prop} {a b c : World} {r : Option Nat} (h : Keeps X a b) (k : b.grownBy c r) (hr : ∀ k, r = some k → X k ∨ a.heap.size ≤ k) : Keeps X a c :=
  ⟨k.os.trans h.os, k.tape.trans h.tape, k.output.trans h.output, Nat.le_trans h.size k.size,
   fun i hi hx => (k.block i (Nat.lt_of_lt_of_le hi h.size) (by
    intro e; rcases hr i e.symm with h1 | h1
    · exact hx h1
    · omega)).trans (h.block i hi hx)⟩
/-- .. a step that turns blocks of X, or of Y that are new. -/
theorem Keeps.then {X Y : Nat → Prop} {a b c : World} (h : Keeps X a b) (k : Keeps Y b c) (hr : ∀ k, Y k → X k ∨ a.heap.size ≤ k) : Keeps X a c :=
  ⟨k.os.trans h.os, k.tape.trans h.tape, k.output.trans h.output, Nat.le_trans h.size k.size,
   fun i hi hx => (k.block i (Nat.lt_of_lt_of_le hi h.size) (by
    intro e; rcases hr i e with h1 | h1
    · exact hx h1
    · omega)).trans (h.block i hi hx)⟩
theorem Keeps.mono {X Y : Nat → Prop} {a b : World} (h : Keeps X a b) (hxy : ∀ k, k < a.heap.size → X k → Y k) : Keeps Y a b :=
  ⟨h.os, h.tape, h.output, h.size, fun i hi hy => h.block i hi fun hx => hy (hxy i hi hx)⟩
theorem Keeps.below {X : Nat → Prop} {B : Nat} {a b : World} (h : Keeps X a b) (hB : B ≤ a.heap.size) (hx : ∀ k, X k → B ≤ k) : Below B a b :=
  ⟨h.os, h.tape, h.output, h.size, fun k hk => h.block k (by omega) fun hk' => by have := hx k hk'; omega⟩
theorem Keeps.at {X : Nat → Prop} {a b : World} {d : Nat} {o : Obj} (h : Keeps X a b) (hd : a.heap[d]? = some o) (hx : ¬ X d) : b.heap[d]? = some o :=
  (h.block d (heap_lt hd) hx).trans hd
theorem Keeps.cell {X : Nat → Prop} {a b : World} {p : Addr} {v : Value} (h : Keeps X a b) (hd : a.cell? p = some v) (hx : ¬ X p.block) : b.cell? p = some v := by
  have hl : p.block < a.heap.size := by
    cases hh : a.heap[p.block]? with
    | none => simp [World.cell?, hh] at hd
    | some o => exact heap_lt hh
  have := h.block p.block hl hx
  rw [← hd]; simp [World.cell?, this]


/-! What a tree holds: values by offset. -/
def upd (f : Nat → Int) (k : Nat) (x : Int) : Nat → Int := fun o => if o = k then x else f o

/-- A slot's two cells; a node's sixteen. -/
def scells (p : Option Addr) (v : Int) : Array Value := #[.pointer p, .int .i64 v]
def ncells (q : Nat → Option Addr) (u : Nat → Int) : Array Value :=
  #[.pointer (q 0), .int .i64 (u 0), .pointer (q 1), .int .i64 (u 1), .pointer (q 2), .int .i64 (u 2), .pointer (q 3), .int .i64 (u 3), .pointer (q 4), .int .i64 (u 4), .pointer (q 5), .int .i64 (u 5), .pointer (q 6), .int .i64 (u 6), .pointer (q 7), .int .i64 (u 7)]

def NodeAt (W : World) (b : Nat) (q : Nat → Option Addr) (u : Nat → Int) : Prop := W.heap[b]? = some (.cells (ncells q u) 102 (0, 0))

/-- A slot of level k (it stands for 8 ^ k offsets), its two fields p and v, holds f; its nodes lie in blocks of X. -/
def SlotAt (W : World) (X : Nat → Prop) : Nat → Option Addr → Int → (Nat → Int) → Prop
  | 0, p, v, f => p = none ∧ v = f 0
  | k + 1, p, v, f => v = 0 ∧ ((p = none ∧ ∀ o, o < 8 ^ (k + 1) → f o = 0) ∨
      ∃ b q u, p = some ⟨b, 0, none⟩ ∧ X b ∧ NodeAt W b q u ∧ ∀ i, i < 8 → SlotAt W X k (q i) (u i) (fun o => f (i * 8 ^ k + o)))

theorem idx_lt {i o k : Nat} (hi : i < 8) (ho : o < 8 ^ k) : i * 8 ^ k + o < 8 ^ (k + 1) := by
  have := Nat.mul_le_mul_right (8 ^ k) (show i ≤ 7 by omega)
  rw [Nat.pow_succ]; omega

theorem SlotAt.congr {W : World} {X : Nat → Prop} : ∀ {k : Nat} {p : Option Addr} {v : Int} {f g : Nat → Int}, SlotAt W X k p v f → (∀ o, o < 8 ^ k → f o = g o) → SlotAt W X k p v g
  | 0, _, _, _, _, h, e => ⟨h.1, h.2.trans (e 0 (by decide))⟩
  | k + 1, _, _, _, _, h, e => ⟨h.1, h.2.elim (fun ⟨hp, hz⟩ => .inl ⟨hp, fun o ho => (e o ho).symm.trans (hz o ho)⟩)
      (fun ⟨b, q, u, hp, hx, hn, hs⟩ => .inr ⟨b, q, u, hp, hx, hn, fun i hi => (hs i hi).congr fun o ho => e _ (idx_lt hi ho)⟩)⟩

/-- Nodes lie as they lay. -/
def KeepN (W W' : World) : Prop := ∀ b q u, NodeAt W b q u → NodeAt W' b q u
theorem KeepN.refl (W : World) : KeepN W W := fun _ _ _ h => h
theorem KeepN.trans {A B C : World} (h : KeepN A B) (k : KeepN B C) : KeepN A C := fun b q u hn => k b q u (h b q u hn)
theorem Keeps.nodes {X : Nat → Prop} {A B : World} (h : Keeps X A B) (hx : ∀ b q u, X b → ¬ NodeAt A b q u) : KeepN A B := fun b q u hn => h.at hn fun hb => hx b q u hb hn
theorem SlotAt.keepX {A B : World} {X Y : Nat → Prop} (hk : ∀ b q u, X b → NodeAt A b q u → Y b ∧ NodeAt B b q u) : ∀ {k : Nat} {p : Option Addr} {v : Int} {f : Nat → Int}, SlotAt A X k p v f → SlotAt B Y k p v f
  | 0, _, _, _, h => h
  | _ + 1, _, _, _, h => ⟨h.1, h.2.elim .inl (fun ⟨b, q, u, hp, hx, hn, hs⟩ => .inr ⟨b, q, u, hp, (hk b q u hx hn).1, (hk b q u hx hn).2, fun i hi => (hs i hi).keepX hk⟩)⟩
theorem SlotAt.keep {A B : World} {X : Nat → Prop} (hk : KeepN A B) {k : Nat} {p : Option Addr} {v : Int} {f : Nat → Int} (h : SlotAt A X k p v f) : SlotAt B X k p v f := h.keepX fun b q u hx hn => ⟨hx, hk b q u hn⟩
theorem SlotAt.mono {A : World} {X Y : Nat → Prop} (hk : ∀ b, X b → Y b) {k : Nat} {p : Option Addr} {v : Int} {f : Nat → Int} (h : SlotAt A X k p v f) : SlotAt A Y k p v f := h.keepX fun b _ _ hx hn => ⟨hk b hx, hn⟩
/-- Nodes that lay in A, of X, and whatever has not turned since. -/
theorem SlotAt.old {A B : World} {X Z : Nat → Prop} (hk : Keeps Z A B) (hz : ∀ b, b < A.heap.size → X b → ¬ Z b) {k : Nat} {p : Option Addr} {v : Int} {f : Nat → Int} (h : SlotAt A X k p v f) : SlotAt B (fun b => X b ∧ b < A.heap.size) k p v f :=
  h.keepX fun b _ _ hx hn => ⟨⟨hx, heap_lt hn⟩, hk.at hn (hz b (heap_lt hn) hx)⟩
theorem SlotAt.zeros {W : World} {X : Nat → Prop} {k : Nat} {f : Nat → Int} (hz : ∀ o, o < 8 ^ k → f o = 0) : SlotAt W X k none 0 f := by
  cases k with
  | zero => exact ⟨rfl, (hz 0 (by decide)).symm⟩
  | succ k => exact ⟨rfl, .inl ⟨rfl, hz⟩⟩
theorem SlotAt.zero {W : World} {X : Nat → Prop} {k : Nat} {f : Nat → Int} (h : SlotAt W X k none 0 f) : ∀ o, o < 8 ^ k → f o = 0 := by
  cases k with
  | zero => intro o ho; obtain rfl : o = 0 := by simpa using ho
            exact h.2.symm
  | succ k =>
    obtain ⟨_, ⟨_, hz⟩ | ⟨b, q, u, hp, _⟩⟩ := h
    · exact hz
    · cases hp

theorem node_cell {W : World} {b : Nat} {q : Nat → Option Addr} {u : Nat → Int} (h : NodeAt W b q u) (i : Nat) (hi : i < 8) :
    W.cell? ⟨b, i * 2, none⟩ = some (.pointer (q i)) ∧ W.cell? ⟨b, i * 2 + 1, none⟩ = some (.int .i64 (u i)) := by
  have h' : W.heap[b]? = some (.cells (ncells q u) 102 (0, 0)) := h
  have : i = 0 ∨ i = 1 ∨ i = 2 ∨ i = 3 ∨ i = 4 ∨ i = 5 ∨ i = 6 ∨ i = 7 := by omega
  rcases this with rfl | rfl | rfl | rfl | rfl | rfl | rfl | rfl <;> simp [World.cell?, h', ncells]
theorem node_frozen {W : World} {b : Nat} {q : Nat → Option Addr} {u : Nat → Int} (h : NodeAt W b q u) (i : Nat) : W.frozen? ⟨b, i, none⟩ = false := by
  have h' : W.heap[b]? = some (.cells (ncells q u) 102 (0, 0)) := h
  simp [World.frozen?, h']

set_option maxHeartbeats 400000 in
theorem reach_any (w : World) : Calls Try.prog 33 #[] w fun e w' => e = .returned (.int .i64 512) ∧ w' = w := by
  go_enter Try.func33, Try.ntmps33
  go_wp2
  refine wp_loop_rounds 4 ?_
  rw [rounds_succ]; go_wp2
  rw [rounds_succ]; go_wp2
  rw [rounds_succ]; go_wp2
  rw [rounds_succ]; go_wp2
  go_ret
  exact ⟨rfl, rfl⟩

set_option maxHeartbeats 400000 in
theorem isOff_any (x : Int) (w : World) : Calls Try.prog 35 #[.int .i64 x] w fun e w' => e = .returned (.bool (decide (0 ≤ x ∧ x < 512))) ∧ w' = w := by
  by_cases h0 : 0 ≤ x
  · by_cases h1 : x < 512
    · go_enter Try.func35, Try.ntmps35
      go_wp2
      go_ret
      exact ⟨by simp [h0, h1], rfl⟩
    · go_enter Try.func35, Try.ntmps35
      go_wp2
      go_ret
      exact ⟨ret_bool (by simp; omega), rfl⟩
  · go_enter Try.func35, Try.ntmps35
    go_wp2
    go_ret
    exact ⟨ret_bool (by simp; omega), rfl⟩

set_option maxHeartbeats 400000 in
theorem new_any (w : World) : Calls Try.prog 30 #[] w fun e w' => e = .returned (.pointer (some ⟨w.heap.size, 0, none⟩)) ∧ w' = w.alloc (.cells #[.pointer none, .int .i64 0] 73) := by
  go_enter Try.func30, Try.ntmps30
  go_wp2
  go_ret
  exact ⟨rfl, rfl⟩

end Go.Proofs.Ytndojlacdggfcaa
