import Derived.Test.YtfiekdgpdboolabA3
import Derived.Maps.OwnOps
import Derived.Maps.OwnSet
import Derived.Maps.AppendAt
import Derived.Maps.RangeWalk
import Derived.Deep.QuietTactic
import Derived.BigQuiet
namespace Go.Proofs.Ytfiekdgpdboolab
open Go.RowKit Go.Maps

/-- Nothing that lay in w has turned but blocks of X. -/
structure Keeps (X : Nat → Prop) (w w' : World) : Prop where
  os : w'.os = w.os
  tape : w'.tape = w.tape
  output : w'.output = w.output
  size : w.heap.size ≤ w'.heap.size
  block : ∀ k, k < w.heap.size → ¬ X k → w'.heap[k]? = w.heap[k]?

theorem Keeps.refl (X : Nat → Prop) (w : World) : Keeps X w w := ⟨rfl, rfl, rfl, Nat.le_refl _, fun _ _ _ => rfl⟩
theorem Keeps.trans {X : Nat → Prop} {a b c : World} (h : Keeps X a b) (k : Keeps X b c) : Keeps X a c :=
  ⟨k.os.trans h.os, k.tape.trans h.tape, k.output.trans h.output, Nat.le_trans h.size k.size,
   fun i hi hr => (k.block i (Nat.lt_of_lt_of_le hi h.size) hr).trans (h.block i hi hr)⟩
theorem Keeps.of {X : Nat → Prop} {a b : World} {r : Option Nat} (h : a.grownBy b r) (hr : ∀ k, r = some k → X k ∨ a.heap.size ≤ k) : Keeps X a b :=
  ⟨h.os, h.tape, h.output, h.size, fun i hi hx => h.block i hi (by
    intro e; rcases hr i e.symm with h1 | h1
    · exact hx h1
    · omega)⟩
/-- A further step that turns blocks of X, or new ones. -/
theorem Keeps.step {X : Nat → Prop} {a b c : World} {r : Option Nat} (h : Keeps X a b) (k : b.grownBy c r) (hr : ∀ k, r = some k → X k ∨ a.heap.size ≤ k) : Keeps X a c :=
  ⟨k.os.trans h.os, k.tape.trans h.tape, k.output.trans h.output, Nat.le_trans h.size k.size,
   fun i hi hx => (k.block i (Nat.lt_of_lt_of_le hi h.size) (by
    intro e; rcases hr i e.symm with h1 | h1
    · exact hx h1
    · omega)).trans (h.block i hi hx)⟩
theorem Keeps.mono {X Y : Nat → Prop} {a b : World} (h : Keeps X a b) (hxy : ∀ k, k < a.heap.size → X k → Y k) : Keeps Y a b :=
  ⟨h.os, h.tape, h.output, h.size, fun i hi hy => h.block i hi fun hx => hy (hxy i hi hx)⟩
theorem Keeps.below {X : Nat → Prop} {B : Nat} {a b : World} (h : Keeps X a b) (hB : B ≤ a.heap.size) (hx : ∀ k, X k → B ≤ k) : Below B a b :=
  ⟨h.os, h.tape, h.output, h.size, fun k hk => h.block k (by omega) fun hk' => by have := hx k hk'; omega⟩

theorem Keeps.map {X : Nat → Prop} {a b : World} {H : Type} {P : Program} {k : TypeId} {R : Value → Option (DataW H × List MemPlace)} {bm n : Nat} {D : DataW H} (h : Keeps X a b) (hm : a.ownsMap P k R bm n D) (hx : ¬ X bm) : b.ownsMap P k R bm n D := by
  have hlt := hm.lt
  obtain ⟨es, clock, hb, F, hs, hD⟩ := hm
  exact ⟨es, clock, (h.block bm hlt hx).trans hb, F, hs, hD⟩
theorem Keeps.row {X : Nat → Prop} {a b : World} {base : Nat} {e : TypeId} {size : Nat} {v : Value} {n : Nat} {xs : List Value} (h : Keeps X a b) (hr : a.ownsRow base e size v n xs) (hx : ∀ g, v.ownBlock = some g → ¬ X g) : b.ownsRow base e size v n xs := by
  have hlt := hr.lt
  obtain ⟨h1, h2⟩ := hr
  refine ⟨h1, ?_⟩
  rcases h2 with h2 | ⟨g, cap, cur, hv, hg, hh, r⟩
  · exact Or.inl h2
  · have e1 : v.ownBlock = some g := by rw [hv]; rfl
    exact Or.inr ⟨g, cap, cur, hv, hg, (h.block g (hlt g e1).2 (hx g e1)).trans hh, r⟩

/-- A map's element that is a pointer, read as its block's number. -/
def ptrElem : Value → Option (DataW Unit × List MemPlace)
  | .pointer none => some (.nil, [])
  | .pointer (some ⟨b, 0, none⟩) => some (.lit (.int .i64 b), [])
  | _ => none

theorem ptrElem_mk (b : Nat) : ptrElem (.pointer (some ⟨b, 0, none⟩)) = some (.lit (.int .i64 b), []) := rfl
theorem ptrElem_nil {v : Value} {ps : List MemPlace} (h : ptrElem v = some (.nil, ps)) : v = .pointer none := by
  unfold ptrElem at h
  split at h <;> simp_all
theorem ptrElem_int {v : Value} {ps : List MemPlace} {b : Nat} (h : ptrElem v = some (.lit (.int .i64 b), ps)) : v = .pointer (some ⟨b, 0, none⟩) := by
  unfold ptrElem at h
  split at h
  · simp at h
  · simp at h; obtain ⟨h1, _⟩ := h; have h2 : ∀ c d : Nat, (c : Int) = d → c = d := by omega
    rw [h2 _ _ h1]
  · simp at h
theorem ptrElem_inv {v : Value} {y : DataW Unit × List MemPlace} (h : ptrElem v = some y) : ∃ c : Option Nat, v = .pointer (c.map fun b => ⟨b, 0, none⟩) := by
  unfold ptrElem at h
  split at h
  · exact ⟨none, rfl⟩
  · rename_i b; exact ⟨some b, rfl⟩
  · simp at h

theorem keyLaw : Keyed Try.prog 3 := int_keyed Try.underlying3
theorem zero76 (w : World) : (zeroValue 84).run Try.prog w = .ok (.pointer none) w := by kernel_rfl

/-- 'm[k]' in a map of pointers: there. -/
theorem wpList_lookup_ptr {ops : Array Oper} {rest : List Oper} {o : Oper} {a : Act} {Q : Exit → Act → World → Prop} (w : World)
    (hg : o.guard = none) (m x : Operand) (hop : o.op = Op.lookup 73 m x false) (b n : Nat) (D : DataW Unit)
    (hm : a.eval m = .map (some b)) (hown : w.ownsMap Try.prog 3 ptrElem b n D) (k : Int) (hx : a.eval x = .int .i64 k) (hwf : (Lit.int .i64 k).wf = true)
    (p : Nat) (hat : ∀ z, D.atKey (.int .i64 k) z = .lit (.int .i64 p)) (hK : wpList Try.prog ops Q rest (a.put o.dst (.pointer (some ⟨p, 0, none⟩))) w) :
    wpList Try.prog ops Q (o :: rest) a w := by
  refine wpList_plain hg fun K' hK' => ?_
  obtain ⟨v, ps, hrun, hv⟩ := hown.lookup keyLaw Try.underlying73 (zero76 w) (zd := .nil) (zp := []) rfl (key := .int .i64 k) (keyOf_int_mk Try.underlying3 hwf)
  rw [hat] at hv
  obtain rfl := ptrElem_int hv
  unfold Oper.wp
  simp [execOp, hop, hm, hx, hrun, Result.andThen]
  exact hK' _ _ hK

/-- 'm[k]' in a map of pointers: not there. -/
theorem wpList_lookup_none {ops : Array Oper} {rest : List Oper} {o : Oper} {a : Act} {Q : Exit → Act → World → Prop} (w : World)
    (hg : o.guard = none) (m x : Operand) (hop : o.op = Op.lookup 73 m x false) (b n : Nat) (D : DataW Unit)
    (hm : a.eval m = .map (some b)) (hown : w.ownsMap Try.prog 3 ptrElem b n D) (k : Int) (hx : a.eval x = .int .i64 k) (hwf : (Lit.int .i64 k).wf = true)
    (hat : ∀ z, D.atKey (.int .i64 k) z = z) (hK : wpList Try.prog ops Q rest (a.put o.dst (.pointer none)) w) :
    wpList Try.prog ops Q (o :: rest) a w := by
  refine wpList_plain hg fun K' hK' => ?_
  obtain ⟨v, ps, hrun, hv⟩ := hown.lookup keyLaw Try.underlying73 (zero76 w) (zd := .nil) (zp := []) rfl (key := .int .i64 k) (keyOf_int_mk Try.underlying3 hwf)
  rw [hat] at hv
  obtain rfl := ptrElem_nil hv
  unfold Oper.wp
  simp [execOp, hop, hm, hx, hrun, Result.andThen]
  exact hK' _ _ hK

/-- What a step leaves of the steps left. -/
def tick (ar : Bool) (lf : Int) : Int := if ar then lf - 1 else lf

theorem step_live (d : Nat) (o m : Value) (room steps lf : Int) (ar : Bool) (w : World) (h : w.heap[d]? = some (devCells o m room steps ar lf)) (hs : 0 ≤ steps) (hs' : steps ≤ 1000000000000)
    (hl : 0 ≤ lf) (hl' : lf ≤ 9223372036854775807) (live : ¬ (ar = true ∧ lf = 0)) :
    Calls Try.prog 40 #[.pointer (some ⟨d, 0, none⟩)] w fun e w' => e = .returned (.int .i64 0) ∧ w'.heap[d]? = some (devCells o m room (steps + 1) ar (tick ar lf)) ∧ w.grownBy w' (some d) ∧ w'.heap.size = w.heap.size := by
  cases ar with
  | false => exact step_free d o m room steps lf w h hs hs'
  | true => exact step_armed d o m room steps lf w h hs hs' (by simp at live; omega) hl'

theorem wf_i64 {k : Int} (h1 : 0 ≤ k) (h2 : k ≤ 1000000000) : (Lit.int .i64 k).wf = true := WalkArith.wf_i64 (by omega)

set_option maxHeartbeats 400000 in
theorem now_any (p g k cap : Nat) (mk u : Int) (xs : List Value) (w : World) (h : w.heap[p]? = some (.cells #[.slice (some ⟨g, 0, none⟩) k cap, .int .i64 mk] 86 (0, 0)))
    (hrow : w.ownsRow 0 47 1 (.slice (some ⟨g, 0, none⟩) k cap) k xs) (hk : 0 < k) (_hk' : k ≤ 1000000000) (hv : xs[k - 1]? = some (.int .u64 u)) :
    Calls Try.prog 45 #[.pointer (some ⟨p, 0, none⟩)] w fun e w' => e = .returned (.int .u64 u) ∧ ∃ n, w' = w.drewN n := by
  have h0 : w.cell? ⟨p, 0, none⟩ = some (.slice (some ⟨g, 0, none⟩) k cap) := by simp [World.cell?, h]
  have hc : w.cell? ⟨g, k - 1, none⟩ = some (.int .u64 u) := (hrow.cellAt (k - 1) (by omega)).trans hv
  have hb : (0 : Int) ≤ (k : Int) - 1 := by omega
  have hb2 : (k : Int) - 1 < k := by omega
  have hb3 : ((k : Int) - 1).toNat = k - 1 := by omega
  clear h hrow hv
  go_enter Try.func45, Try.ntmps45
  go_wp2
  go_quiet (fail)
  go_wp2
  go_ret
  exact ⟨rfl, _, rfl⟩

end Go.Proofs.Ytfiekdgpdboolab
