import Derived.WalkKit
import Derived.Test.YtdlhdompemkjfaaGreatDoorProg
import Derived.WalkSpells
import Derived.WalkLawsBesides
import Derived.WalkMore
import Derived.Deep.QuietTactic
import Derived.BigQuiet
import Derived.Deep.RegionLaw
import Derived.Lib.Bytealg
import Derived.Lib.IndexLaws
import Derived.Laws.StandIn
import Derived.Laws.BytesArg
import Derived.Laws.Concat
import Derived.Laws.Strings
import Derived.Maps.AppendAt
import Derived.Deep.AppendLies
namespace Go.Proofs.YtdlhdompemkjfaaGreatDoor

/-! Quoted texts, by themselves. -/
abbrev Bs := List UInt8
def mkB (l : Bs) : ByteArray := ⟨l.toArray⟩
theorem mkB_data (s : ByteArray) : mkB s.data.toList = s := by obtain ⟨⟨l⟩⟩ := s; rfl
theorem data_mkB (l : Bs) : (mkB l).data.toList = l := rfl
theorem mkB_inj {a b : Bs} (h : mkB a = mkB b) : a = b := by have := congrArg (fun s : ByteArray => s.data.toList) h; exact this
theorem mkB_size (l : Bs) : (mkB l).size = l.length := by simp [mkB, ByteArray.size]
theorem mkB_app (a b : Bs) : mkB a ++ mkB b = mkB (a ++ b) := by
  rw [← mkB_data (mkB a ++ mkB b)]
  congr 1

def dgs : Bs := [48, 49, 50, 51, 52, 53, 54, 55, 56, 57, 97, 98, 99, 100, 101, 102]
def dg (n : Nat) : UInt8 := dgs.getD n 0
/-- A byte that stands for itself, if it isn't a quote's own. -/
def prt (b : UInt8) : Bool := decide (32 ≤ b.toNat) && decide (b.toNat ≤ 126)
def esc (b : UInt8) : Bs := if b = 34 then [92, 34] else if b = 92 then [92, 92] else if b = 10 then [92, 110] else if prt b = true then [b] else [92, 120, dg (b.toNat / 16), dg (b.toNat % 16)]
def quo (l : Bs) : Bs := 34 :: (l.flatMap esc ++ [34])
/-- A digit's value; 16: it is none. -/
def hx (b : UInt8) : Nat := dgs.findIdx (· == b)
/-- The byte of two digits. -/
def xd : Bs → UInt8 × Nat
  | h :: l :: _ => if hx h < 16 ∧ hx l < 16 then (UInt8.ofNat (16 * hx h + hx l), 3) else (0, 0)
  | _ => (0, 0)
/-- The byte that is meant behind a backslash, and how many bytes tell it; 0: none. -/
def mnt : Bs → UInt8 × Nat
  | [] => (0, 0)
  | b :: r => if b = 34 then (34, 1) else if b = 92 then (92, 1) else if b = 110 then (10, 1) else if b = 120 then xd r else (0, 0)
/-- What stands at a place within quotes. -/
def unt (b : UInt8) (r : Bs) : UInt8 × Nat := if (prt b && (b != 34) && (b != 92)) = true then (b, 1) else if b = 92 then (if (mnt r).2 = 0 then (0, 0) else ((mnt r).1, (mnt r).2 + 1)) else (0, 0)
def hxI (b : UInt8) : Int := if hx b < 16 then (hx b : Int) else -1
def unq (acc : Bs) (k : Nat) (t : Bs) : Option (Bs × Nat) :=
  match t with
  | [] => none
  | b :: r => if b = 34 then some (acc, k + 1) else if b = 92 then (if (mnt r).2 = 0 then none else unq (acc ++ [(mnt r).1]) (k + 1 + (mnt r).2) (r.drop (mnt r).2)) else if prt b = true then unq (acc ++ [b]) (k + 1) r else none
termination_by t.length
decreasing_by
  · simp only [List.length_drop, List.length_cons]; omega
  · simp
def uq (t : Bs) : Option (Bs × Nat) := match t with | [] => none | b :: r => if b = 34 then unq [] 1 r else none
def uqT (t : Bs) : ByteArray := match uq t with | some (a, _) => mkB a | none => ⟨#[]⟩
def uqN (t : Bs) : Int := match uq t with | some (_, n) => n | none => 0
def uqE (t : Bs) : Int := match uq t with | some _ => 0 | none => 194

theorem unq_nil (acc : Bs) (k : Nat) : unq acc k [] = none := by rw [unq]
theorem unq_end (acc : Bs) (k : Nat) (r : Bs) : unq acc k (34 :: r) = some (acc, k + 1) := by rw [unq]; rfl
theorem unq_esc (acc : Bs) (k : Nat) (r : Bs) (h : (mnt r).2 ≠ 0) : unq acc k (92 :: r) = unq (acc ++ [(mnt r).1]) (k + 1 + (mnt r).2) (r.drop (mnt r).2) := by
  rw [unq]
  rw [if_neg (by decide), if_pos rfl, if_neg h]
theorem unq_bad (acc : Bs) (k : Nat) (r : Bs) (h : (mnt r).2 = 0) : unq acc k (92 :: r) = none := by
  rw [unq]
  rw [if_neg (by decide), if_pos rfl, if_pos h]
theorem unq_prt (acc : Bs) (k : Nat) (b : UInt8) (r : Bs) (h1 : b ≠ 34) (h2 : b ≠ 92) (h : prt b = true) : unq acc k (b :: r) = unq (acc ++ [b]) (k + 1) r := by
  rw [unq]
  rw [if_neg h1, if_neg h2, if_pos h]
theorem unq_not (acc : Bs) (k : Nat) (b : UInt8) (r : Bs) (h1 : b ≠ 34) (h2 : b ≠ 92) (h : prt b = false) : unq acc k (b :: r) = none := by
  rw [unq]
  rw [if_neg h1, if_neg h2, if_neg (by rw [h]; decide)]

theorem mnt_x (h l : UInt8) (r : Bs) : mnt (120 :: h :: l :: r) = if hx h < 16 ∧ hx l < 16 then (UInt8.ofNat (16 * hx h + hx l), 3) else (0, 0) := by simp [mnt, xd]

/-! There and back. -/
theorem byte_cases {p : UInt8 → Prop} (h : ∀ n : Fin 256, p (UInt8.ofNat n.val)) (b : UInt8) : p b := by
  have := h ⟨b.toNat, b.toNat_lt⟩
  simpa using this
theorem hx_dg : ∀ b : UInt8, hx (dg (b.toNat / 16)) = b.toNat / 16 ∧ hx (dg (b.toNat % 16)) = b.toNat % 16 := by
  apply byte_cases; decide +kernel
theorem hx_le : ∀ b : UInt8, hx b ≤ 16 := by
  apply byte_cases; decide +kernel
theorem dg_hx : ∀ b : UInt8, hx b < 16 → dg (hx b) = b := by
  apply byte_cases; decide +kernel
theorem hx_of_dg : ∀ n, n < 16 → hx (dg n) = n := by decide +kernel
theorem dg_low : ∀ n, n < 10 → (dg n).toNat = 48 + n := by decide +kernel
theorem dg_high : ∀ n, n < 16 → 10 ≤ n → (dg n).toNat = 97 + n - 10 := by decide +kernel
theorem unt_bad {r : Bs} (h : (mnt r).2 = 0) : unt 92 r = (0, 0) := by
  unfold unt; rw [if_neg (by decide), if_pos rfl, if_pos h]
theorem unt_esc {r : Bs} (h : (mnt r).2 ≠ 0) : unt 92 r = ((mnt r).1, (mnt r).2 + 1) := by
  unfold unt; rw [if_neg (by decide), if_pos rfl, if_neg h]
theorem unt_prt {b : UInt8} {r : Bs} (h1 : b ≠ 34) (h2 : b ≠ 92) (h : prt b = true) : unt b r = (b, 1) := by
  unfold unt; rw [if_pos (by simp [h, h1, h2])]
theorem unt_not {b : UInt8} {r : Bs} (h2 : b ≠ 92) (h : prt b = false) : unt b r = (0, 0) := by
  unfold unt; rw [if_neg (by simp [h]), if_neg h2]
theorem unt_end {r : Bs} : unt 34 r = (0, 0) := by
  unfold unt; rw [if_neg (by decide), if_neg (by decide)]
/-- One unit more. -/
theorem unq_unt (acc : Bs) (k : Nat) (b : UInt8) (r : Bs) (h : b ≠ 34) : unq acc k (b :: r) = if (unt b r).2 = 0 then none else unq (acc ++ [(unt b r).1]) (k + (unt b r).2) ((b :: r).drop (unt b r).2) := by
  by_cases h92 : b = 92
  · subst h92
    by_cases hm : (mnt r).2 = 0
    · rw [unt_bad hm, if_pos rfl, unq_bad _ _ _ hm]
    · rw [unt_esc hm, if_neg (by simp), unq_esc _ _ _ hm, List.drop_succ_cons, Nat.add_assoc, Nat.add_comm 1]
  · cases hp : prt b with
    | true => rw [unt_prt h h92 hp, if_neg (by simp), unq_prt _ _ _ _ h h92 hp]; rfl
    | false => rw [unt_not h92 hp, if_pos rfl, unq_not _ _ _ _ h h92 hp]
theorem esc_prt : ∀ b : UInt8, (esc b).all prt = true := by
  apply byte_cases; decide +kernel
theorem esc_len (b : UInt8) : 1 ≤ (esc b).length ∧ (esc b).length ≤ 4 := by
  unfold esc
  split
  · decide
  split
  · decide
  split
  · decide
  split <;> simp
theorem unq_escd (acc : Bs) (k : Nat) (b : UInt8) (r : Bs) : unq acc k (esc b ++ r) = unq (acc ++ [b]) (k + (esc b).length) r := by
  unfold esc
  split
  · rename_i h; subst h
    show unq acc k (92 :: 34 :: r) = _
    rw [unq_esc _ _ _ (by simp [mnt])]
    simp [mnt, Nat.add_assoc]
  split
  · rename_i h; subst h
    show unq acc k (92 :: 92 :: r) = _
    rw [unq_esc _ _ _ (by simp [mnt])]
    simp [mnt, Nat.add_assoc]
  split
  · rename_i h; subst h
    show unq acc k (92 :: 110 :: r) = _
    rw [unq_esc _ _ _ (by simp [mnt])]
    simp [mnt, Nat.add_assoc]
  rename_i h1 h2 _
  split
  · rename_i h
    show unq acc k (b :: r) = _
    rw [unq_prt _ _ _ _ h1 h2 h]; rfl
  · show unq acc k (92 :: 120 :: dg (b.toNat / 16) :: dg (b.toNat % 16) :: r) = _
    have hb := b.toNat_lt
    have e : mnt (120 :: dg (b.toNat / 16) :: dg (b.toNat % 16) :: r) = (b, 3) := by
      rw [mnt_x, (hx_dg b).1, (hx_dg b).2, if_pos (by omega), show 16 * (b.toNat / 16) + b.toNat % 16 = b.toNat by omega]
      simp
    rw [unq_esc _ _ _ (by rw [e]; exact (by decide : (3 : Nat) ≠ 0)), e]
    rfl
theorem unq_all (l : Bs) : ∀ (acc : Bs) (k : Nat) (r : Bs), unq acc k (l.flatMap esc ++ r) = unq (acc ++ l) (k + (l.flatMap esc).length) r := by
  induction l with
  | nil => intro acc k r; simp
  | cons b l ih =>
    intro acc k r
    rw [List.flatMap_cons, List.append_assoc, unq_escd, ih, List.append_assoc, List.length_append, Nat.add_assoc]; rfl
theorem uq_quo (l b : Bs) : uq (quo l ++ b) = some (l, (quo l).length) := by
  unfold quo
  show (if (34 : UInt8) = 34 then unq [] 1 ((l.flatMap esc ++ [34]) ++ b) else none) = _
  rw [if_pos rfl, List.append_assoc, unq_all]
  show unq _ _ (34 :: b) = _
  rw [unq_end]
  simp; omega
theorem quo_len (l : Bs) : l.length + 2 ≤ (quo l).length := by
  have : l.length ≤ (l.flatMap esc).length := by
    induction l with
    | nil => simp
    | cons b l ih => rw [List.flatMap_cons, List.length_append, List.length_cons]; have := (esc_len b).1; omega
  unfold quo
  rw [List.length_cons, List.length_append, List.length_singleton]; omega
theorem quo_le (l : Bs) : (quo l).length ≤ 4 * l.length + 2 := by
  have : (l.flatMap esc).length ≤ 4 * l.length := by
    induction l with
    | nil => simp
    | cons b l ih => rw [List.flatMap_cons, List.length_append, List.length_cons]; have := (esc_len b).2; omega
  unfold quo
  rw [List.length_cons, List.length_append, List.length_singleton]; omega
theorem quo_prt (l : Bs) : (quo l).all prt = true := by
  unfold quo
  rw [List.all_cons, List.all_append, List.all_flatMap]
  have : l.all (fun a => (esc a).all prt) = true := by
    rw [List.all_eq_true]; intro b _; exact esc_prt b
  rw [this]; decide
theorem quo_cut (l : Bs) : (quo l).take ((quo l).length - 1) = 34 :: l.flatMap esc := by
  unfold quo
  rw [← List.cons_append, List.length_append]
  simp
theorem uq_cut (l : Bs) : uq ((quo l).take ((quo l).length - 1)) = none := by
  rw [quo_cut]
  show (if (34 : UInt8) = 34 then unq [] 1 (l.flatMap esc) else none) = _
  have := unq_all l [] 1 []
  rw [List.append_nil] at this
  rw [if_pos rfl, this, unq_nil]
theorem uq_other (l : Bs) : uq (32 :: l) = none := by
  show (if (32 : UInt8) = 34 then unq [] 1 l else none) = _
  rw [if_neg (by decide)]
end Go.Proofs.YtdlhdompemkjfaaGreatDoor

namespace Go.Proofs.YtdlhdompemkjfaaGreatDoor
open Go.RowKit Go.Maps
set_option maxRecDepth 100000

theorem Hid.mk' {p : Prop} (h : p) : Hid p := h
theorem ret_int {k : IntKind} {a b : Int} (h : a = b) : Ending.returned (.int k a) = .returned (.int k b) := by rw [h]
theorem ret_bool {a b : Bool} (h : a = b) : Ending.returned (.bool a) = .returned (.bool b) := by rw [h]

theorem wrap64_id {x : Int} (h1 : -9223372036854775808 ≤ x) (h2 : x ≤ 9223372036854775807) : wrap64 x = x := by
  unfold wrap64; omega
theorem i64_id {x : Int} (h1 : -9223372036854775808 ≤ x) (h2 : x ≤ 9223372036854775807) : IntKind.i64.wrap x = x := by
  simp only [IntKind.wrap, IntKind.signed, IntKind.bits]; simp; omega
theorem u64_id {x : Int} (h1 : 0 ≤ x) (h2 : x < 18446744073709551616) : IntKind.u64.wrap x = x := by
  simp only [IntKind.wrap, IntKind.signed, IntKind.bits]; simp; omega

theorem setCell_block {w : World} {a : Addr} {v : Value} {c : Array Value} {t : TypeId} {f : Nat × Nat} (h : w.heap[a.block]? = some (.cells c t f)) (hs : a.spot = none) :
    (w.setCell a v).heap[a.block]? = some (.cells (c.setIfInBounds a.off v) t f) := by
  simp [World.setCell, Array.getElem?_modify, h, hs]
theorem grownBy_setCell (w : World) (a : Addr) (v : Value) : w.grownBy (w.setCell a v) (some a.block) :=
  ⟨rfl, rfl, rfl, by simp [World.setCell], fun k _ hk => Below.heap_setCell _ _ _ _ (by rintro rfl; exact hk rfl)⟩
theorem heap_lt {w : World} {d : Nat} {o : Obj} (h : w.heap[d]? = some o) : d < w.heap.size := (Array.getElem?_eq_some_iff.1 h).1

/-- Nothing that lay in w has turned but blocks of X. -/
structure Keeps (X : Nat → Prop) (w w' : World) : Prop where
  os : w'.os = w.os
  tape : w'.tape = w.tape
  output : w'.output = w.output
  size : w.heap.size ≤ w'.heap.size
  block : ∀ k, k < w.heap.size → ¬ X k → w'.heap[k]? = w.heap[k]?

theorem Keeps.refl (X : Nat → Prop) (w : World) : Keeps X w w := ⟨rfl, rfl, rfl, Nat.le_refl _, fun _ _ _ => rfl⟩
theorem Keeps.drewN (X : Nat → Prop) (w : World) (n : Nat) : Keeps X w (w.drewN n) := ⟨rfl, rfl, rfl, Nat.le_refl _, fun _ _ _ => rfl⟩
theorem Keeps.trans {X : Nat → Prop} {a b c : World} (h : Keeps X a b) (k : Keeps X b c) : Keeps X a c :=
  ⟨k.os.trans h.os, k.tape.trans h.tape, k.output.trans h.output, Nat.le_trans h.size k.size,
   fun i hi hr => (k.block i (Nat.lt_of_lt_of_le hi h.size) hr).trans (h.block i hi hr)⟩
theorem Keeps.of {X : Nat → Prop} {a b : World} {r : Option Nat} (h : a.grownBy b r) (hr : ∀ k, r = some k → X k ∨ a.heap.size ≤ k) : Keeps X a b :=
  ⟨h.os, h.tape, h.output, h.size, fun i hi hx => h.block i hi (by
    intro e; rcases hr i e.symm with h1 | h1
    · exact hx h1
    · omega)⟩
/-- A further step that turns blocks of X, or new ones. -/
theorem Keeps.step {X : Nat → Prop} {a b c : World} {r : Option Nat} (h : Keeps X a b) (k : b.grownBy c r) (hr : ∀ k, r = some k → X k ∨ a.heap.size ≤ k) : Keeps X a c :=
  ⟨k.os.trans h.os, k.tape.trans h.tape, k.output.trans h.output, Nat.le_trans h.size k.size,
   fun i hi hx => (k.block i (Nat.lt_of_lt_of_le hi h.size) (by
    intro e; rcases hr i e.symm with h1 | h1
    · exact hx h1
    · omega)).trans (h.block i hi hx)⟩
/-- .. a step that turns blocks of X, or of Y that are new. -/
theorem Keeps.then {X Y : Nat → Prop} {a b c : World} (h : Keeps X a b) (k : Keeps Y b c) (hr : ∀ k, Y k → X k ∨ a.heap.size ≤ k) : Keeps X a c :=
  ⟨k.os.trans h.os, k.tape.trans h.tape, k.output.trans h.output, Nat.le_trans h.size k.size,
   fun i hi hx => (k.block i (Nat.lt_of_lt_of_le hi h.size) (by
    intro e; rcases hr i e with h1 | h1
    · exact hx h1
    · omega)).trans (h.block i hi hx)⟩
theorem Keeps.mono {X Y : Nat → Prop} {a b : World} (h : Keeps X a b) (hxy : ∀ k, k < a.heap.size → X k → Y k) : Keeps Y a b :=
  ⟨h.os, h.tape, h.output, h.size, fun i hi hy => h.block i hi fun hx => hy (hxy i hi hx)⟩
theorem Keeps.below {X : Nat → Prop} {B : Nat} {a b : World} (h : Keeps X a b) (hB : B ≤ a.heap.size) (hx : ∀ k, X k → B ≤ k) : Below B a b :=
  ⟨h.os, h.tape, h.output, h.size, fun k hk => h.block k (by omega) fun hk' => by have := hx k hk'; omega⟩
theorem Keeps.at {X : Nat → Prop} {a b : World} {d : Nat} {o : Obj} (h : Keeps X a b) (hd : a.heap[d]? = some o) (hx : ¬ X d) : b.heap[d]? = some o :=
  (h.block d (heap_lt hd) hx).trans hd
theorem Keeps.cell {X : Nat → Prop} {a b : World} {p : Addr} {v : Value} (h : Keeps X a b) (hd : a.cell? p = some v) (hx : ¬ X p.block) : b.cell? p = some v := by
  have hl : p.block < a.heap.size := by
    cases hh : a.heap[p.block]? with
    | none => simp [World.cell?, hh] at hd
    | some o => exact heap_lt hh
  have := h.block p.block hl hx
  rw [← hd]; simp [World.cell?, this]

theorem Keeps.alloc {X : Nat → Prop} {a b : World} (h : Keeps X a b) (o : Obj) : Keeps X a (b.alloc o) := h.step (World.grownBy_alloc b o none) (fun k hk => by cases hk)
theorem Keeps.ofBelow {a b : World} (h : Below a.heap.size a b) : Keeps (fun _ => False) a b := ⟨h.os, h.tape, h.output, h.size, fun k hk _ => h.block k hk⟩

theorem lite (s : ByteArray) (c : Int) (w : World) :
    Calls Tryz.prog 102 #[.string s, .int .u8 c] w fun e w' => e = .returned (.int .i64 (Lib.indexByte s.data.toList c.toNat.toUInt8)) ∧ w' = w := by
  go_enter Tryz.func102, Tryz.ntmps102
  go_wp2
  rw [run_callFunc_extern Tryz.func112 (by kernel_rfl) (by kernel_rfl) (by kernel_rfl) (e := Extern.BytealgIndexByte.indexByte) (by kernel_rfl), Lib.run_indexByteString]
  simp only [Result.andThen]
  rw [Oper.upon_value]
  go_wp2
  go_ret
  exact ⟨rfl, rfl⟩
theorem index (s : ByteArray) (c : Int) (w : World) :
    Calls Tryz.prog 93 #[.string s, .int .u8 c] w fun e w' => e = .returned (.int .i64 (Lib.indexByte s.data.toList c.toNat.toUInt8)) ∧ w' = w := by
  have h7 := lite s c
  go_enter Tryz.func93, Tryz.ntmps93
  go_wp2_with (first | (go_at_call 102; refine (h7 _).mono ?_; rintro e w1 ⟨rfl, rfl⟩))
  go_ret
  exact ⟨rfl, rfl⟩
theorem index_lt (l : List UInt8) (c : UInt8) : (decide (Lib.indexByte l c < 0)) = l.all (· != c) := by
  have hge := Lib.indexByte_ge l c
  by_cases h : Lib.indexByte l c = -1
  · rw [h]
    have := Lib.indexByte_none h
    symm
    simp only [Int.reduceNeg, Int.reduceLT, decide_true]
    rw [List.all_eq_true]
    intro x hx
    obtain ⟨k, hk, rfl⟩ := List.getElem_of_mem hx
    have := this k
    simp [hk] at this ⊢
    exact this
  · obtain ⟨o, ho⟩ : ∃ o : Nat, Lib.indexByte l c = o := ⟨(Lib.indexByte l c).toNat, by omega⟩
    have h1 := (Lib.indexByte_some ho).1
    rw [ho]
    have hm : c ∈ l := List.mem_of_getElem? h1
    have : ¬ ((o : Int) < 0) := by omega
    simp only [this, decide_false]
    symm
    rw [List.all_eq_false]
    exact ⟨c, hm, by simp⟩

theorem extr (s : ByteArray) (a b : Nat) : (s.extract a b).data.toList = (s.data.toList.drop a).take (b - a) := by
  rw [ByteArray.data_extract, Array.toList_extract, List.extract_eq_take_drop]
theorem mkB_extr (s : ByteArray) (a b : Nat) : s.extract a b = mkB ((s.data.toList.drop a).take (b - a)) := by rw [← extr, mkB_data]
theorem size_len (s : ByteArray) : s.size = s.data.toList.length := Lib.size_eq s
/-- A slice whose cells are xs. -/
def Row (W : World) (v : Value) (n : Nat) (xs : List Value) : Prop :=
  ∃ a cap, v = .slice a n cap ∧ n ≤ cap ∧ (0 < n → ∃ b o, a = some ⟨b, o, none⟩ ∧ b < W.heap.size ∧ ∀ (j : Nat) (u : Value), xs[j]? = some u → W.cell? ⟨b, o + j, none⟩ = some u)
theorem Row.keep {A B : World} {v : Value} {n : Nat} {xs : List Value} (h : Row A v n xs) (hk : Keeps (fun _ => False) A B) : Row B v n xs := by
  obtain ⟨a, cap, e, hc, h⟩ := h
  refine ⟨a, cap, e, hc, fun h0 => ?_⟩
  obtain ⟨b, o, e, hb, hc⟩ := h h0
  exact ⟨b, o, e, Nat.lt_of_lt_of_le hb hk.size, fun j u hu => hk.cell (hc j u hu) id⟩
/-- .. where blocks are written, but not its own. -/
theorem Row.keepX {A B : World} {X : Nat → Prop} {v : Value} {n : Nat} {xs : List Value} (h : Row A v n xs) (hk : Keeps X A B) (hx : ∀ g, v.ownBlock = some g → ¬ X g) : Row B v n xs := by
  obtain ⟨a, cap, rfl, hc, h⟩ := h
  refine ⟨a, cap, rfl, hc, fun h0 => ?_⟩
  obtain ⟨b, o, rfl, hb, hc⟩ := h h0
  exact ⟨b, o, rfl, Nat.lt_of_lt_of_le hb hk.size, fun j u hu => hk.cell (hc j u hu) (hx b rfl)⟩
theorem Row.cap {W : World} {a : Option Addr} {n c : Nat} {xs : List Value} (h : Row W (.slice a n c) n xs) : n ≤ c := by
  obtain ⟨a', c', e, hc, _⟩ := h
  cases e; exact hc
theorem addr_add (b o j : Nat) : (⟨b, o, none⟩ : Addr).add j = ⟨b, o + j, none⟩ := by
  unfold Addr.add
  split
  · rename_i h; rw [h]; rfl
  · rfl
theorem Row.of_own {W : World} {base : Nat} {e : TypeId} {size : Nat} {v : Value} {n : Nat} {xs : List Value} (h : W.ownsRow base e size v n xs) : Row W v n xs := by
  rcases h.2 with ⟨rfl, rfl⟩ | ⟨g, cap, cur, rfl, _, _, hnc, _⟩
  · exact ⟨none, 0, rfl, Nat.le_refl _, fun h => absurd h (by omega)⟩
  · refine ⟨_, cap, rfl, hnc, fun _ => ⟨g, 0, rfl, (h.lt g rfl).2, fun j u hu => ?_⟩⟩
    have := h.cells (g := g) rfl j u hu
    rw [addr_add] at this
    exact this
theorem own_keep {X : Nat → Prop} {w w' : World} {base : Nat} {e : TypeId} {size : Nat} {v : Value} {n : Nat} {xs : List Value} (h : w.ownsRow base e size v n xs) (k : Keeps X w w') (hx : ∀ g, v.ownBlock = some g → ¬ X g) : w'.ownsRow base e size v n xs := by
  refine ⟨h.1, ?_⟩
  rcases h.2 with h | ⟨g, cap, cur, rfl, hg, hb, h1, h2, h3, h4⟩
  · exact Or.inl h
  · exact Or.inr ⟨g, cap, cur, rfl, hg, k.at hb (hx g rfl), h1, h2, h3, h4⟩
theorem own_grow {w w' : World} {base : Nat} {e : TypeId} {size : Nat} {v : Value} {n : Nat} {xs : List Value} (h : w.ownsRow base e size v n xs) (k : Keeps (fun _ => False) w w') : w'.ownsRow base e size v n xs := own_keep h k (fun _ _ h => h)
theorem own_base {w : World} {base base' : Nat} {e : TypeId} {size : Nat} {v : Value} {n : Nat} {xs : List Value} (h : w.ownsRow base e size v n xs) (hb : base' ≤ base) : w.ownsRow base' e size v n xs := by
  refine ⟨h.1, ?_⟩
  rcases h.2 with h | ⟨g, cap, cur, rfl, hg, hh, h1, h2, h3, h4⟩
  · exact Or.inl h
  · exact Or.inr ⟨g, cap, cur, rfl, Nat.le_trans hb hg, hh, h1, h2, h3, h4⟩
theorem take_getD {α : Type} (z : α) {l : List α} {k : Nat} (h : k < l.length) : l.take (k + 1) = l.take k ++ [l.getD k z] := by
  rw [List.take_succ_eq_append_getElem h]
  simp [List.getD_eq_getElem?_getD, h]
theorem getD_eq {α : Type} (z : α) {l : List α} {k : Nat} (h : k < l.length) : l.getD k z = l[k] := by simp [List.getD_eq_getElem?_getD, h]
theorem getD_mem {α : Type} (z : α) {l : List α} {k : Nat} (h : k < l.length) : l.getD k z ∈ l := by rw [getD_eq z h]; exact List.getElem_mem h
theorem size0 {s : ByteArray} (h : s.size = 0) : s = ⟨#[]⟩ := by
  rw [size_len] at h
  have := List.length_eq_zero_iff.1 h
  rw [← mkB_data s, this]; rfl
theorem empty_iff {s : ByteArray} : s.toList = [] ↔ s.size = 0 := by
  rw [ByteArray.toList_eq, size_len]; exact List.length_eq_zero_iff.symm

theorem drop_cons {t : Bs} {j : Nat} (h : j < t.length) : t.drop j = t.getD j 0 :: t.drop (j + 1) := by
  rw [List.drop_eq_getElem_cons h]; simp [List.getD_eq_getElem?_getD, h]
theorem byte_getD (s : ByteArray) (k : Nat) (hk : k < s.size) : s[k] = s.data.toList.getD k 0 := by
  obtain ⟨⟨l⟩⟩ := s
  have h' : k < l.length := hk
  show l[k] = l.getD k 0
  simp [List.getD_eq_getElem?_getD, h']

theorem byte_ne (s : ByteArray) (k : Nat) (hk : k < s.size) (c : UInt8) : (((s[k].toNat : Nat) : Int) == (c.toNat : Int)) = decide (s.data.toList.getD k 0 = c) := by
  rw [byte_getD s k hk]
  generalize s.data.toList.getD k 0 = b
  by_cases h : b = c
  · subst h; simp
  · have h3 : ¬ b.toNat = c.toNat := fun e => h (UInt8.toNat_inj.1 e)
    rw [decide_eq_false h]
    exact beq_eq_false_iff_ne.2 (by omega)

end Go.Proofs.YtdlhdompemkjfaaGreatDoor
