import Derived.Test.YtendmohjodeelaaProg
import Derived.WalkKit
import Derived.WalkSpells
import Derived.WalkLawsBesides
import Derived.Deep.QuietTactic
import Derived.BigQuiet
import Derived.Deep.RegionLaw
import Derived.Lib.Bytealg
import Derived.Lib.IndexLaws
import Derived.Laws.StandIn
namespace Go.Proofs.Ytendmohjodeelaa
open Go.RowKit

theorem Hid.mk' {p : Prop} (h : p) : Hid p := h
theorem ret_int {k : IntKind} {a b : Int} (h : a = b) : Ending.returned (.int k a) = .returned (.int k b) := by rw [h]
theorem ret_bool {a b : Bool} (h : a = b) : Ending.returned (.bool a) = .returned (.bool b) := by rw [h]

theorem wrap64_id {x : Int} (h1 : -9223372036854775808 ≤ x) (h2 : x ≤ 9223372036854775807) : wrap64 x = x := by
  unfold wrap64; omega
theorem i64_id {x : Int} (h1 : -9223372036854775808 ≤ x) (h2 : x ≤ 9223372036854775807) : IntKind.i64.wrap x = x := by
  simp only [IntKind.wrap, IntKind.signed, IntKind.bits]; simp; omega
theorem u64_id {x : Int} (h1 : 0 ≤ x) (h2 : x < 18446744073709551616) : IntKind.u64.wrap x = x := by
  simp only [IntKind.wrap, IntKind.signed, IntKind.bits]; simp; omega

theorem setCell_block {w : World} {a : Addr} {v : Value} {c : Array Value} {t : TypeId} {f : Nat × Nat} (h : w.heap[a.block]? = some (.cells c t f)) (hs : a.spot = none) :
    (w.setCell a v).heap[a.block]? = some (.cells (c.setIfInBounds a.off v) t f) := by
  simp [World.setCell, Array.getElem?_modify, h, hs]
theorem grownBy_setCell (w : World) (a : Addr) (v : Value) : w.grownBy (w.setCell a v) (some a.block) :=
  ⟨rfl, rfl, rfl, by simp [World.setCell], fun k _ hk => Below.heap_setCell _ _ _ _ (by rintro rfl; exact hk rfl)⟩
theorem heap_lt {w : World} {d : Nat} {o : Obj} (h : w.heap[d]? = some o) : d < w.heap.size := (Array.getElem?_eq_some_iff.1 h).1

/-- Nothing that lay in w has turned but blocks of X. -/
structure Keeps (X : Nat → Prop) (w w' : World) : Prop where
  os : w'.os = w.os
  tape : w'.tape = w.tape
  output : w'.output = w.output
  size : w.heap.size ≤ w'.heap.size
  block : ∀ k, k < w.heap.size → ¬ X k → w'.heap[k]? = w.heap[k]?

theorem Keeps.refl (X : Nat → Prop) (w : World) : Keeps X w w := ⟨rfl, rfl, rfl, Nat.le_refl _, fun _ _ _ => rfl⟩
theorem Keeps.drewN (X : Nat → Prop) (w : World) (n : Nat) : Keeps X w (w.drewN n) := ⟨rfl, rfl, rfl, Nat.le_refl _, fun _ _ _ => rfl⟩
theorem Keeps.trans {X : Nat → Prop} {a b c : World} (h : Keeps X a b) (k : Keeps X b c) : Keeps X a c :=
  ⟨k.os.trans h.os, k.tape.trans h.tape, k.output.trans h.output, Nat.le_trans h.size k.size,
   fun i hi hr => (k.block i (Nat.lt_of_lt_of_le hi h.size) hr).trans (h.block i hi hr)⟩
theorem Keeps.of {X : Nat → Prop} {a b : World} {r : Option Nat} (h : a.grownBy b r) (hr : ∀ k, r = some k → X k ∨ a.heap.size ≤ k) : Keeps X a b :=
  ⟨h.os, h.tape, h.output, h.size, fun i hi hx => h.block i hi (by
    intro e; rcases hr i e.symm with h1 | h1
    · exact hx h1
    · omega)⟩
/-- A further step that turns blocks of X, or new ones. -/
theorem Keeps.step {X : Nat → Prop} {a b c : World} {r : Option Nat} (h : Keeps X a b) (k : b.grownBy c r) (hr : ∀ k, r = some k → X k ∨ a.heap.size ≤ k) : Keeps X a c :=
  ⟨k.os.trans h.os, k.tape.trans h.tape, k.output.trans h.output, Nat.le_trans h.size k.size,
   fun i hi hx => (k.block i (Nat.lt_of_lt_of_le hi h.size) (by
    intro e; rcases hr i e.symm with h1 | h1
    · exact hx h1
    · omega)).trans (h.block i hi hx)⟩
/-- .. a step that turns blocks of X, or of Y that are new. -/
theorem Keeps.then {X Y : Nat → Prop} {a b c : World} (h : Keeps X a b) (k : Keeps Y b c) (hr : ∀ k, Y k → X k ∨ a.heap.size ≤ k) : Keeps X a c :=
  ⟨k.os.trans h.os, k.tape.trans h.tape, k.output.trans h.output, Nat.le_trans h.size k.size,
   fun i hi hx => (k.block i (Nat.lt_of_lt_of_le hi h.size) (by
    intro e; rcases hr i e with h1 | h1
    · exact hx h1
    · omega)).trans (h.block i hi hx)⟩
theorem Keeps.mono {X Y : Nat → Prop} {a b : World} (h : Keeps X a b) (hxy : ∀ k, k < a.heap.size → X k → Y k) : Keeps Y a b :=
  ⟨h.os, h.tape, h.output, h.size, fun i hi hy => h.block i hi fun hx => hy (hxy i hi hx)⟩
theorem Keeps.below {X : Nat → Prop} {B : Nat} {a b : World} (h : Keeps X a b) (hB : B ≤ a.heap.size) (hx : ∀ k, X k → B ≤ k) : Below B a b :=
  ⟨h.os, h.tape, h.output, h.size, fun k hk => h.block k (by omega) fun hk' => by have := hx k hk'; omega⟩
theorem Keeps.at {X : Nat → Prop} {a b : World} {d : Nat} {o : Obj} (h : Keeps X a b) (hd : a.heap[d]? = some o) (hx : ¬ X d) : b.heap[d]? = some o :=
  (h.block d (heap_lt hd) hx).trans hd
theorem Keeps.cell {X : Nat → Prop} {a b : World} {p : Addr} {v : Value} (h : Keeps X a b) (hd : a.cell? p = some v) (hx : ¬ X p.block) : b.cell? p = some v := by
  have hl : p.block < a.heap.size := by
    cases hh : a.heap[p.block]? with
    | none => simp [World.cell?, hh] at hd
    | some o => exact heap_lt hh
  have := h.block p.block hl hx
  rw [← hd]; simp [World.cell?, this]


theorem lite (s : ByteArray) (c : Int) (w : World) :
    Calls Try.prog 53 #[.string s, .int .u8 c] w fun e w' => e = .returned (.int .i64 (Lib.indexByte s.data.toList c.toNat.toUInt8)) ∧ w' = w := by
  go_enter Try.func53, Try.ntmps53
  go_wp2
  rw [run_callFunc_extern Try.func55 (by kernel_rfl) (by kernel_rfl) (by kernel_rfl) (e := Extern.BytealgIndexByte.indexByte) (by kernel_rfl), Lib.run_indexByteString]
  simp only [Result.andThen]
  rw [Oper.upon_value]
  go_wp2
  go_ret
  exact ⟨rfl, rfl⟩

theorem index (s : ByteArray) (c : Int) (w : World) :
    Calls Try.prog 47 #[.string s, .int .u8 c] w fun e w' => e = .returned (.int .i64 (Lib.indexByte s.data.toList c.toNat.toUInt8)) ∧ w' = w := by
  have h7 := lite s c
  go_enter Try.func47, Try.ntmps47
  go_wp2_with (first | (go_at_call 53; refine (h7 _).mono ?_; rintro e w1 ⟨rfl, rfl⟩))
  go_ret
  exact ⟨rfl, rfl⟩

/-- Neither 0 nor '/' among the bytes. -/
def clean (l : List UInt8) : Bool := l.all fun b => b != 0 && b != 47

theorem index_lt (l : List UInt8) (c : UInt8) : (decide (Lib.indexByte l c < 0)) = l.all (· != c) := by
  have hge := Lib.indexByte_ge l c
  by_cases h : Lib.indexByte l c = -1
  · rw [h]
    have := Lib.indexByte_none h
    symm
    simp only [Int.reduceNeg, Int.reduceLT, decide_true]
    rw [List.all_eq_true]
    intro x hx
    obtain ⟨k, hk, rfl⟩ := List.getElem_of_mem hx
    have := this k
    simp [hk] at this ⊢
    exact this
  · obtain ⟨o, ho⟩ : ∃ o : Nat, Lib.indexByte l c = o := ⟨(Lib.indexByte l c).toNat, by omega⟩
    have h1 := (Lib.indexByte_some ho).1
    rw [ho]
    have hm : c ∈ l := List.mem_of_getElem? h1
    have : ¬ ((o : Int) < 0) := by omega
    simp only [this, decide_false]
    symm
    rw [List.all_eq_false]
    exact ⟨c, hm, by simp⟩

/-- A good name, as the document says it. -/
def valid (s : ByteArray) : Bool := !s.toList.isEmpty && decide (s.size ≤ 28) && !(s.toList == [46]) && !(s.toList == [46, 46]) && clean s.data.toList

theorem clean_eq (l : List UInt8) : clean l = (decide (Lib.indexByte l 0 < 0) && decide (Lib.indexByte l 47 < 0)) := by
  rw [index_lt, index_lt]
  induction l with
  | nil => rfl
  | cons b l ih =>
    unfold clean at ih ⊢
    rw [List.all_cons, ih, List.all_cons, List.all_cons]
    cases (b != 0) <;> cases (b != 47) <;> simp

set_option maxHeartbeats 1000000 in
theorem prog_valid (s : ByteArray) (w : World) :
    Calls Try.prog 35 #[.string s] w fun e w' => e = .returned (.bool (valid s)) ∧ w' = w := by
  have h6 := index s
  have hv : valid s = (!s.toList.isEmpty && decide (s.size ≤ 28) && !(s.toList == [46]) && !(s.toList == [46, 46]) && (decide (Lib.indexByte s.data.toList 0 < 0) && decide (Lib.indexByte s.data.toList 47 < 0))) := by
    rw [← clean_eq]; rfl
  rw [hv]
  clear hv
  go_enter Try.func35, Try.ntmps35
  go_wp2_with (first | (go_at_call 47; refine (h6 _ _).mono ?_; rintro e w1 ⟨rfl, rfl⟩))
  all_goals (clear h6; go_ret; refine ⟨ret_bool ?_, rfl⟩)
  · have h : s.toList = [] := by assumption
    simp [h]
  · have h : s.toList.isEmpty = true ∨ (28 : Int) < s.size := by assumption
    rcases h with h | h
    · simp [h]
    · have : ¬ s.size ≤ 28 := by omega
      simp [this]
  · have h : s.toList = [46] := by assumption
    simp [h]
  · have h : (s.toList == [46]) = true ∨ (s.toList == [46, 46]) = true := by assumption
    rcases h with h | h <;> simp [h]
  · have h1 : s.toList.isEmpty = false ∧ (s.size : Int) ≤ 28 := by assumption
    have h2 : (s.toList == [46]) = false ∧ (s.toList == [46, 46]) = false := by assumption
    have h3 : Lib.indexByte s.data.toList 0 < 0 := by assumption
    have h4 : s.size ≤ 28 := by omega
    simp [h1.1, h2.1, h2.2, h3, h4]
  · have h3 : 0 ≤ Lib.indexByte s.data.toList 0 := by assumption
    have h4 : ¬ Lib.indexByte s.data.toList 0 < 0 := by omega
    simp [h4]

theorem byte_at (s : ByteArray) (k : Nat) (hk : k < s.size) (h' : k < s.data.toList.length) : s.data.toList[k] = s[k] := by
  obtain ⟨⟨l⟩⟩ := s
  rfl

theorem clean_take (s : ByteArray) (k : Nat) (hk : k < s.size) : clean (s.data.toList.take (k + 1)) = (clean (s.data.toList.take k) && (s[k] != 0 && s[k] != 47)) := by
  have h' : k < s.data.toList.length := by simpa using hk
  rw [List.take_succ_eq_append_getElem h', byte_at s k hk h']
  unfold clean
  rw [List.all_append]
  simp

theorem clean_hit (s : ByteArray) (k : Nat) (hk : k < s.size) (h : s[k] = 0 ∨ s[k] = 47) : clean s.data.toList = false := by
  have h' : k < s.data.toList.length := by simpa using hk
  unfold clean
  rw [List.all_eq_false]
  refine ⟨s.data.toList[k], List.getElem_mem h', ?_⟩
  rw [byte_at s k hk h']
  rcases h with h | h <;> simp [h]

theorem byte_or {b : UInt8} (h : ((b.toNat : Int) == 0) = true ∨ ((b.toNat : Int) == 47) = true) : b = 0 ∨ b = 47 := by
  rcases h with h | h
  · left
    have : b.toNat = 0 := by simpa using h
    exact UInt8.toNat_inj.1 this
  · right
    have h1 : (b.toNat : Int) = 47 := by simpa using h
    have : b.toNat = 47 := by omega
    exact UInt8.toNat_inj.1 this

theorem byte_and {b : UInt8} (h : ((b.toNat : Int) == 0) = false ∧ ((b.toNat : Int) == 47) = false) : (b != 0 && b != 47) = true := by
  have h0 : b ≠ 0 := by rintro rfl; exact absurd h.1 (by decide)
  have h1 : b ≠ 47 := by rintro rfl; exact absurd h.2 (by decide)
  simp [h0, h1]


theorem toList_empty {s : ByteArray} : s.toList.isEmpty = decide (s.size < 1) := by
  have h : s.toList.length = s.size := by rw [ByteArray.toList_eq]; simp
  cases hl : s.toList with
  | nil => rw [hl] at h; rw [List.length_nil] at h; rw [decide_eq_true (show s.size < 1 by omega)]; rfl
  | cons a l => rw [hl] at h; rw [List.length_cons] at h; rw [decide_eq_false (show ¬ s.size < 1 by omega)]; rfl

set_option maxHeartbeats 1000000 in
theorem good_any (s : ByteArray) (w : World) :
    Calls Try.prog 15 #[.string s] w fun e w' => e = .returned (.bool (valid s)) ∧ w' = w := by
  go_enter Try.func15, Try.ntmps15
  go_wp2
  · have h : s.toList = [46] := by assumption
    go_ret
    exact ⟨ret_bool (by simp [valid, h]), rfl⟩
  · have h1 : 1 ≤ (s.size : Int) := by assumption
    have h2 : (s.size : Int) ≤ 28 := by assumption
    have h3 : ¬ s.toList = [46] := by assumption
    have h : (((s.size : Int) < 1 ∨ 28 < (s.size : Int)) ∨ (s.toList == [46]) = true) ∨ (s.toList == [46, 46]) = true := by assumption
    go_ret
    refine ⟨ret_bool ?_, rfl⟩
    unfold valid
    rcases h with ((h | h) | h) | h
    · omega
    · omega
    · simp [h]
    · simp [h]
  · have h1 : 1 ≤ (s.size : Int) := by assumption
    have h : ((1 ≤ (s.size : Int) ∧ (s.size : Int) ≤ 28) ∧ (s.toList == [46]) = false) ∧ (s.toList == [46, 46]) = false := by assumption
    have h4 : s.size ≤ 28 := by omega
    have hv : Hid (valid s = clean s.data.toList) := by
      show valid s = clean s.data.toList
      simp only [valid, toList_empty, h.1.2, h.2]
      rw [decide_eq_false (show ¬ s.size < 1 by omega), decide_eq_true h4]; rfl
    go_loop [3] (fun i => ∃ k : Nat, k ≤ s.size ∧ i = .int .i64 k ∧ Hid (clean (s.data.toList.take k) = true)) (fun i => s.size - (intOf i).toNat)
    case atStart => exact ⟨0, Nat.zero_le _, rfl, rfl⟩
    case round =>
      obtain ⟨k, hk, rfl, hc⟩ := hrel
      go_wp2
      · have hlt : k < s.size := by assumption
        have h0 : s[k].toNat = 0 := by assumption
        go_ret
        refine ⟨ret_bool ?_, rfl⟩
        rw [hv.out, clean_hit s k hlt (Or.inl (UInt8.toNat_inj.1 h0))]
      · have hlt : k < s.size := by assumption
        have h0 : ((s[k].toNat : Int) == 0) = true ∨ ((s[k].toNat : Int) == 47) = true := by assumption
        go_ret
        refine ⟨ret_bool ?_, rfl⟩
        rw [hv.out, clean_hit s k hlt (byte_or h0)]
      · have hlt : k < s.size := by assumption
        have h0 : ((s[k].toNat : Int) == 0) = false ∧ ((s[k].toNat : Int) == 47) = false := by assumption
        refine ⟨⟨k + 1, by omega, by omega, ?_⟩, by simp [intOf]; omega⟩
        show clean (s.data.toList.take (k + 1)) = true
        rw [clean_take s k hlt, hc.out, byte_and h0]
        rfl
      · have hge : ¬ k < s.size := by assumption
        go_ret
        refine ⟨ret_bool ?_, rfl⟩
        rw [hv.out]
        have h1 := hc.out
        have hk' : k = s.data.toList.length := by
          have : s.size = s.data.toList.length := by simp
          omega
        rw [hk', List.take_length] at h1
        exact h1.symm
  · have h1 : 28 < (s.size : Int) := by assumption
    go_ret
    refine ⟨ret_bool ?_, rfl⟩
    have : ¬ s.size ≤ 28 := by omega
    simp [valid, this]
  · have h1 : (s.size : Int) < 1 := by assumption
    go_ret
    refine ⟨ret_bool ?_, rfl⟩
    unfold valid
    rw [toList_empty, decide_eq_true (by omega)]
    rfl

end Go.Proofs.Ytendmohjodeelaa
