import Derived.Test.YtpgabmfpffaajaaDoorProg
import Derived.Test.YtpgabmfpffaajaaDoorK00
import Derived.WalkKit
import Derived.WalkSpells
import Derived.WalkLawsBesides
import Derived.WalkMore
import Derived.Deep.QuietTactic
import Derived.BigQuiet
import Derived.Deep.RegionLaw
import Derived.Lib.Bytealg
import Derived.Lib.IndexLaws
import Derived.Laws.StandIn
import Derived.Laws.BytesArg
import Derived.Laws.Concat
import Derived.Laws.Strings
import Derived.Maps.AppendAt
import Derived.Deep.AppendLies
namespace Go.Proofs.YtpgabmfpffaajaaDoor
open Go.RowKit Go.Maps
set_option maxRecDepth 100000

theorem Hid.mk' {p : Prop} (h : p) : Hid p := h
theorem ret_int {k : IntKind} {a b : Int} (h : a = b) : Ending.returned (.int k a) = .returned (.int k b) := by rw [h]
theorem ret_bool {a b : Bool} (h : a = b) : Ending.returned (.bool a) = .returned (.bool b) := by rw [h]

theorem wrap64_id {x : Int} (h1 : -9223372036854775808 ≤ x) (h2 : x ≤ 9223372036854775807) : wrap64 x = x := by
  unfold wrap64; omega
theorem i64_id {x : Int} (h1 : -9223372036854775808 ≤ x) (h2 : x ≤ 9223372036854775807) : IntKind.i64.wrap x = x := by
  simp only [IntKind.wrap, IntKind.signed, IntKind.bits]; simp; omega
theorem u64_id {x : Int} (h1 : 0 ≤ x) (h2 : x < 18446744073709551616) : IntKind.u64.wrap x = x := by
  simp only [IntKind.wrap, IntKind.signed, IntKind.bits]; simp; omega

theorem setCell_block {w : World} {a : Addr} {v : Value} {c : Array Value} {t : TypeId} {f : Nat × Nat} (h : w.heap[a.block]? = some (.cells c t f)) (hs : a.spot = none) :
    (w.setCell a v).heap[a.block]? = some (.cells (c.setIfInBounds a.off v) t f) := by
  simp [World.setCell, Array.getElem?_modify, h, hs]
theorem grownBy_setCell (w : World) (a : Addr) (v : Value) : w.grownBy (w.setCell a v) (some a.block) :=
  ⟨rfl, rfl, rfl, by simp [World.setCell], fun k _ hk => Below.heap_setCell _ _ _ _ (by rintro rfl; exact hk rfl)⟩
theorem heap_lt {w : World} {d : Nat} {o : Obj} (h : w.heap[d]? = some o) : d < w.heap.size := (Array.getElem?_eq_some_iff.1 h).1

/-- Nothing that lay in w has turned but blocks of X. -/
structure Keeps (X : Nat → Prop) (w w' : World) : Prop where
  os : w'.os = w.os
  tape : w'.tape = w.tape
  output : w'.output = w.output
  size : w.heap.size ≤ w'.heap.size
  block : ∀ k, k < w.heap.size → ¬ X k → w'.heap[k]? = w.heap[k]?

theorem Keeps.refl (X : Nat → Prop) (w : World) : Keeps X w w := ⟨rfl, rfl, rfl, Nat.le_refl _, fun _ _ _ => rfl⟩
theorem Keeps.drewN (X : Nat → Prop) (w : World) (n : Nat) : Keeps X w (w.drewN n) := ⟨rfl, rfl, rfl, Nat.le_refl _, fun _ _ _ => rfl⟩
theorem Keeps.trans {X : Nat → Prop} {a b c : World} (h : Keeps X a b) (k : Keeps X b c) : Keeps X a c :=
  ⟨k.os.trans h.os, k.tape.trans h.tape, k.output.trans h.output, Nat.le_trans h.size k.size,
   fun i hi hr => (k.block i (Nat.lt_of_lt_of_le hi h.size) hr).trans (h.block i hi hr)⟩
theorem Keeps.of {X : Nat → Prop} {a b : World} {r : Option Nat} (h : a.grownBy b r) (hr : ∀ k, r = some k → X k ∨ a.heap.size ≤ k) : Keeps X a b :=
  ⟨h.os, h.tape, h.output, h.size, fun i hi hx => h.block i hi (by
    intro e; rcases hr i e.symm with h1 | h1
    · exact hx h1
    · omega)⟩
/-- A further step that turns blocks of X, or new ones. -/
theorem Keeps.step {X : Nat → Prop} {a b c : World} {r : Option Nat} (h : Keeps X a b) (k : b.grownBy c r) (hr : ∀ k, r = some k → X k ∨ a.heap.size ≤ k) : Keeps X a c :=
  ⟨k.os.trans h.os, k.tape.trans h.tape, k.output.trans h.output, Nat.le_trans h.size k.size,
   fun i hi hx => (k.block i (Nat.lt_of_lt_of_le hi h.size) (by
    intro e; rcases hr i e.symm with h1 | h1
    · exact hx h1
    · omega)).trans (h.block i hi hx)⟩
/-- .. a step that turns blocks of X, or of Y that are new. -/
theorem Keeps.then {X Y : Nat → Prop} {a b c : World} (h : Keeps X a b) (k : Keeps Y b c) (hr : ∀ k, Y k → X k ∨ a.heap.size ≤ k) : Keeps X a c :=
  ⟨k.os.trans h.os, k.tape.trans h.tape, k.output.trans h.output, Nat.le_trans h.size k.size,
   fun i hi hx => (k.block i (Nat.lt_of_lt_of_le hi h.size) (by
    intro e; rcases hr i e with h1 | h1
    · exact hx h1
    · omega)).trans (h.block i hi hx)⟩
theorem Keeps.mono {X Y : Nat → Prop} {a b : World} (h : Keeps X a b) (hxy : ∀ k, k < a.heap.size → X k → Y k) : Keeps Y a b :=
  ⟨h.os, h.tape, h.output, h.size, fun i hi hy => h.block i hi fun hx => hy (hxy i hi hx)⟩
theorem Keeps.below {X : Nat → Prop} {B : Nat} {a b : World} (h : Keeps X a b) (hB : B ≤ a.heap.size) (hx : ∀ k, X k → B ≤ k) : Below B a b :=
  ⟨h.os, h.tape, h.output, h.size, fun k hk => h.block k (by omega) fun hk' => by have := hx k hk'; omega⟩
theorem Keeps.at {X : Nat → Prop} {a b : World} {d : Nat} {o : Obj} (h : Keeps X a b) (hd : a.heap[d]? = some o) (hx : ¬ X d) : b.heap[d]? = some o :=
  (h.block d (heap_lt hd) hx).trans hd
theorem Keeps.cell {X : Nat → Prop} {a b : World} {p : Addr} {v : Value} (h : Keeps X a b) (hd : a.cell? p = some v) (hx : ¬ X p.block) : b.cell? p = some v := by
  have hl : p.block < a.heap.size := by
    cases hh : a.heap[p.block]? with
    | none => simp [World.cell?, hh] at hd
    | some o => exact heap_lt hh
  have := h.block p.block hl hx
  rw [← hd]; simp [World.cell?, this]

theorem Keeps.alloc {X : Nat → Prop} {a b : World} (h : Keeps X a b) (o : Obj) : Keeps X a (b.alloc o) := h.step (World.grownBy_alloc b o none) (fun k hk => by cases hk)
theorem Keeps.ofBelow {a b : World} (h : Below a.heap.size a b) : Keeps (fun _ => False) a b := ⟨h.os, h.tape, h.output, h.size, fun k hk _ => h.block k hk⟩

theorem index_lt (l : List UInt8) (c : UInt8) : (decide (Lib.indexByte l c < 0)) = l.all (· != c) := by
  have hge := Lib.indexByte_ge l c
  by_cases h : Lib.indexByte l c = -1
  · rw [h]
    have := Lib.indexByte_none h
    symm
    simp only [Int.reduceNeg, Int.reduceLT, decide_true]
    rw [List.all_eq_true]
    intro x hx
    obtain ⟨k, hk, rfl⟩ := List.getElem_of_mem hx
    have := this k
    simp [hk] at this ⊢
    exact this
  · obtain ⟨o, ho⟩ : ∃ o : Nat, Lib.indexByte l c = o := ⟨(Lib.indexByte l c).toNat, by omega⟩
    have h1 := (Lib.indexByte_some ho).1
    rw [ho]
    have hm : c ∈ l := List.mem_of_getElem? h1
    have : ¬ ((o : Int) < 0) := by omega
    simp only [this, decide_false]
    symm
    rw [List.all_eq_false]
    exact ⟨c, hm, by simp⟩

theorem extr (s : ByteArray) (a b : Nat) : (s.extract a b).data.toList = (s.data.toList.drop a).take (b - a) := by
  rw [ByteArray.data_extract, Array.toList_extract, List.extract_eq_take_drop]
theorem mkB_extr (s : ByteArray) (a b : Nat) : s.extract a b = mkB ((s.data.toList.drop a).take (b - a)) := by rw [← extr, mkB_data]
theorem size_len (s : ByteArray) : s.size = s.data.toList.length := Lib.size_eq s
/-- A slice whose cells are xs. -/
def Row (W : World) (v : Value) (n : Nat) (xs : List Value) : Prop :=
  ∃ a cap, v = .slice a n cap ∧ n ≤ cap ∧ (0 < n → ∃ b o, a = some ⟨b, o, none⟩ ∧ b < W.heap.size ∧ ∀ (j : Nat) (u : Value), xs[j]? = some u → W.cell? ⟨b, o + j, none⟩ = some u)
theorem Row.keep {A B : World} {v : Value} {n : Nat} {xs : List Value} (h : Row A v n xs) (hk : Keeps (fun _ => False) A B) : Row B v n xs := by
  obtain ⟨a, cap, e, hc, h⟩ := h
  refine ⟨a, cap, e, hc, fun h0 => ?_⟩
  obtain ⟨b, o, e, hb, hc⟩ := h h0
  exact ⟨b, o, e, Nat.lt_of_lt_of_le hb hk.size, fun j u hu => hk.cell (hc j u hu) id⟩
/-- .. where blocks are written, but not its own. -/
theorem Row.keepX {A B : World} {X : Nat → Prop} {v : Value} {n : Nat} {xs : List Value} (h : Row A v n xs) (hk : Keeps X A B) (hx : ∀ g, v.ownBlock = some g → ¬ X g) : Row B v n xs := by
  obtain ⟨a, cap, rfl, hc, h⟩ := h
  refine ⟨a, cap, rfl, hc, fun h0 => ?_⟩
  obtain ⟨b, o, rfl, hb, hc⟩ := h h0
  exact ⟨b, o, rfl, Nat.lt_of_lt_of_le hb hk.size, fun j u hu => hk.cell (hc j u hu) (hx b rfl)⟩
theorem Row.cap {W : World} {a : Option Addr} {n c : Nat} {xs : List Value} (h : Row W (.slice a n c) n xs) : n ≤ c := by
  obtain ⟨a', c', e, hc, _⟩ := h
  cases e; exact hc
theorem addr_add (b o j : Nat) : (⟨b, o, none⟩ : Addr).add j = ⟨b, o + j, none⟩ := by
  unfold Addr.add
  split
  · rename_i h; rw [h]; rfl
  · rfl
theorem Row.of_own {W : World} {base : Nat} {e : TypeId} {size : Nat} {v : Value} {n : Nat} {xs : List Value} (h : W.ownsRow base e size v n xs) : Row W v n xs := by
  rcases h.2 with ⟨rfl, rfl⟩ | ⟨g, cap, cur, rfl, _, _, hnc, _⟩
  · exact ⟨none, 0, rfl, Nat.le_refl _, fun h => absurd h (by omega)⟩
  · refine ⟨_, cap, rfl, hnc, fun _ => ⟨g, 0, rfl, (h.lt g rfl).2, fun j u hu => ?_⟩⟩
    have := h.cells (g := g) rfl j u hu
    rw [addr_add] at this
    exact this
theorem own_keep {X : Nat → Prop} {w w' : World} {base : Nat} {e : TypeId} {size : Nat} {v : Value} {n : Nat} {xs : List Value} (h : w.ownsRow base e size v n xs) (k : Keeps X w w') (hx : ∀ g, v.ownBlock = some g → ¬ X g) : w'.ownsRow base e size v n xs := by
  refine ⟨h.1, ?_⟩
  rcases h.2 with h | ⟨g, cap, cur, rfl, hg, hb, h1, h2, h3, h4⟩
  · exact Or.inl h
  · exact Or.inr ⟨g, cap, cur, rfl, hg, k.at hb (hx g rfl), h1, h2, h3, h4⟩
theorem own_grow {w w' : World} {base : Nat} {e : TypeId} {size : Nat} {v : Value} {n : Nat} {xs : List Value} (h : w.ownsRow base e size v n xs) (k : Keeps (fun _ => False) w w') : w'.ownsRow base e size v n xs := own_keep h k (fun _ _ h => h)
theorem own_base {w : World} {base base' : Nat} {e : TypeId} {size : Nat} {v : Value} {n : Nat} {xs : List Value} (h : w.ownsRow base e size v n xs) (hb : base' ≤ base) : w.ownsRow base' e size v n xs := by
  refine ⟨h.1, ?_⟩
  rcases h.2 with h | ⟨g, cap, cur, rfl, hg, hh, h1, h2, h3, h4⟩
  · exact Or.inl h
  · exact Or.inr ⟨g, cap, cur, rfl, Nat.le_trans hb hg, hh, h1, h2, h3, h4⟩
theorem take_getD {α : Type} (z : α) {l : List α} {k : Nat} (h : k < l.length) : l.take (k + 1) = l.take k ++ [l.getD k z] := by
  rw [List.take_succ_eq_append_getElem h]
  simp [List.getD_eq_getElem?_getD, h]
theorem getD_eq {α : Type} (z : α) {l : List α} {k : Nat} (h : k < l.length) : l.getD k z = l[k] := by simp [List.getD_eq_getElem?_getD, h]
theorem getD_mem {α : Type} (z : α) {l : List α} {k : Nat} (h : k < l.length) : l.getD k z ∈ l := by rw [getD_eq z h]; exact List.getElem_mem h
theorem size0 {s : ByteArray} (h : s.size = 0) : s = ⟨#[]⟩ := by
  rw [size_len] at h
  have := List.length_eq_zero_iff.1 h
  rw [← mkB_data s, this]; rfl
theorem empty_iff {s : ByteArray} : s.toList = [] ↔ s.size = 0 := by
  rw [ByteArray.toList_eq, size_len]; exact List.length_eq_zero_iff.symm

theorem drop_cons {t : Bs} {j : Nat} (h : j < t.length) : t.drop j = t.getD j 0 :: t.drop (j + 1) := by
  rw [List.drop_eq_getElem_cons h]; simp [List.getD_eq_getElem?_getD, h]
theorem byte_getD (s : ByteArray) (k : Nat) (hk : k < s.size) : s[k] = s.data.toList.getD k 0 := by
  obtain ⟨⟨l⟩⟩ := s
  have h' : k < l.length := hk
  show l[k] = l.getD k 0
  simp [List.getD_eq_getElem?_getD, h']

theorem byte_ne (s : ByteArray) (k : Nat) (hk : k < s.size) (c : UInt8) : (((s[k].toNat : Nat) : Int) == (c.toNat : Int)) = decide (s.data.toList.getD k 0 = c) := by
  rw [byte_getD s k hk]
  generalize s.data.toList.getD k 0 = b
  by_cases h : b = c
  · subst h; simp
  · have h3 : ¬ b.toNat = c.toNat := fun e => h (UInt8.toNat_inj.1 e)
    rw [decide_eq_false h]
    exact beq_eq_false_iff_ne.2 (by omega)

end Go.Proofs.YtpgabmfpffaajaaDoor
