import Derived.Test.YtnafocbgapianabProg
import Derived.Test.YtnafocbgapianabM3
import Derived.WalkKit
import Derived.WalkSpells
import Derived.WalkLawsBesides
import Derived.Deep.QuietTactic
import Derived.BigQuiet
import Derived.Deep.RegionLaw
namespace Go.Proofs.Ytnafocbgapianab
open Go.RowKit

theorem Hid.mk' {p : Prop} (h : p) : Hid p := h
theorem ret_int {k : IntKind} {a b : Int} (h : a = b) : Ending.returned (.int k a) = .returned (.int k b) := by rw [h]
theorem ret_bool {a b : Bool} (h : a = b) : Ending.returned (.bool a) = .returned (.bool b) := by rw [h]

theorem wrap64_id {x : Int} (h1 : -9223372036854775808 ≤ x) (h2 : x ≤ 9223372036854775807) : wrap64 x = x := by
  unfold wrap64; omega
theorem i64_id {x : Int} (h1 : -9223372036854775808 ≤ x) (h2 : x ≤ 9223372036854775807) : IntKind.i64.wrap x = x := by
  simp only [IntKind.wrap, IntKind.signed, IntKind.bits]; simp; omega
theorem u64_id {x : Int} (h1 : 0 ≤ x) (h2 : x < 18446744073709551616) : IntKind.u64.wrap x = x := by
  simp only [IntKind.wrap, IntKind.signed, IntKind.bits]; simp; omega

theorem setCell_block {w : World} {a : Addr} {v : Value} {c : Array Value} {t : TypeId} {f : Nat × Nat} (h : w.heap[a.block]? = some (.cells c t f)) (hs : a.spot = none) :
    (w.setCell a v).heap[a.block]? = some (.cells (c.setIfInBounds a.off v) t f) := by
  simp [World.setCell, Array.getElem?_modify, h, hs]
theorem grownBy_setCell (w : World) (a : Addr) (v : Value) : w.grownBy (w.setCell a v) (some a.block) :=
  ⟨rfl, rfl, rfl, by simp [World.setCell], fun k _ hk => Below.heap_setCell _ _ _ _ (by rintro rfl; exact hk rfl)⟩
theorem heap_lt {w : World} {d : Nat} {o : Obj} (h : w.heap[d]? = some o) : d < w.heap.size := (Array.getElem?_eq_some_iff.1 h).1

/-- Nothing that lay in w has turned but blocks of X. -/
structure Keeps (X : Nat → Prop) (w w' : World) : Prop where
  os : w'.os = w.os
  tape : w'.tape = w.tape
  output : w'.output = w.output
  size : w.heap.size ≤ w'.heap.size
  block : ∀ k, k < w.heap.size → ¬ X k → w'.heap[k]? = w.heap[k]?

theorem Keeps.refl (X : Nat → Prop) (w : World) : Keeps X w w := ⟨rfl, rfl, rfl, Nat.le_refl _, fun _ _ _ => rfl⟩
theorem Keeps.drewN (X : Nat → Prop) (w : World) (n : Nat) : Keeps X w (w.drewN n) := ⟨rfl, rfl, rfl, Nat.le_refl _, fun _ _ _ => rfl⟩
theorem Keeps.trans {X : Nat → Prop} {a b c : World} (h : Keeps X a b) (k : Keeps X b c) : Keeps X a c :=
  ⟨k.os.trans h.os, k.tape.trans h.tape, k.output.trans h.output, Nat.le_trans h.size k.size,
   fun i hi hr => (k.block i (Nat.lt_of_lt_of_le hi h.size) hr).trans (h.block i hi hr)⟩
theorem Keeps.of {X : Nat → Prop} {a b : World} {r : Option Nat} (h : a.grownBy b r) (hr : ∀ k, r = some k → X k ∨ a.heap.size ≤ k) : Keeps X a b :=
  ⟨h.os, h.tape, h.output, h.size, fun i hi hx => h.block i hi (by
    intro e; rcases hr i e.symm with h1 | h1
    · exact hx h1
    · omega)⟩
/-- A further step that turns blocks of X, or new ones. -/
theorem Keeps.step {X : Nat → Prop} {a b c : World} {r : Option Nat} (h : Keeps X a b) (k : b.grownBy c r) (hr : ∀ k, r = some k → X k ∨ a.heap.size ≤ k) : Keeps X a c :=
  ⟨k.os.trans h.os, k.tape.trans h.tape, k.output.trans h.output, Nat.le_trans h.size k.size,
   fun i hi hx => (k.block i (Nat.lt_of_lt_of_le hi h.size) (by
    intro e; rcases hr i e.symm with h1 | h1
    · exact hx h1
    · omega)).trans (h.block i hi hx)⟩
/-- .. a step that turns blocks of X, or of Y that are new. -/
theorem Keeps.then {X Y : Nat → Prop} {a b c : World} (h : Keeps X a b) (k : Keeps Y b c) (hr : ∀ k, Y k → X k ∨ a.heap.size ≤ k) : Keeps X a c :=
  ⟨k.os.trans h.os, k.tape.trans h.tape, k.output.trans h.output, Nat.le_trans h.size k.size,
   fun i hi hx => (k.block i (Nat.lt_of_lt_of_le hi h.size) (by
    intro e; rcases hr i e with h1 | h1
    · exact hx h1
    · omega)).trans (h.block i hi hx)⟩
theorem Keeps.mono {X Y : Nat → Prop} {a b : World} (h : Keeps X a b) (hxy : ∀ k, k < a.heap.size → X k → Y k) : Keeps Y a b :=
  ⟨h.os, h.tape, h.output, h.size, fun i hi hy => h.block i hi fun hx => hy (hxy i hi hx)⟩
theorem Keeps.below {X : Nat → Prop} {B : Nat} {a b : World} (h : Keeps X a b) (hB : B ≤ a.heap.size) (hx : ∀ k, X k → B ≤ k) : Below B a b :=
  ⟨h.os, h.tape, h.output, h.size, fun k hk => h.block k (by omega) fun hk' => by have := hx k hk'; omega⟩
theorem Keeps.at {X : Nat → Prop} {a b : World} {d : Nat} {o : Obj} (h : Keeps X a b) (hd : a.heap[d]? = some o) (hx : ¬ X d) : b.heap[d]? = some o :=
  (h.block d (heap_lt hd) hx).trans hd
theorem Keeps.cell {X : Nat → Prop} {a b : World} {p : Addr} {v : Value} (h : Keeps X a b) (hd : a.cell? p = some v) (hx : ¬ X p.block) : b.cell? p = some v := by
  have hl : p.block < a.heap.size := by
    cases hh : a.heap[p.block]? with
    | none => simp [World.cell?, hh] at hd
    | some o => exact heap_lt hh
  have := h.block p.block hl hx
  rw [← hd]; simp [World.cell?, this]

/-- The cells of marks, and what stands behind them. -/
def mkCells (n : Nat) (S : Nat → Bool) (rest : List Value) : List Value := .int .i64 n :: ((List.range 16).map fun k => .int .u64 (word S k)) ++ rest

/-- A block that begins with marks. -/
def mkObj (n : Nat) (S : Nat → Bool) (rest : List Value) (t : TypeId) : Obj := .cells (mkCells n S rest).toArray t (0, 0)

theorem mk_len {w : World} {d n : Nat} {S : Nat → Bool} {rest : List Value} {t : TypeId} (h : w.heap[d]? = some (mkObj n S rest t)) : w.cell? ⟨d, 0, none⟩ = some (.int .i64 n) := by
  simp [World.cell?, h, mkObj, mkCells]
theorem mk_frozen {w : World} {d n : Nat} {S : Nat → Bool} {rest : List Value} {t : TypeId} (h : w.heap[d]? = some (mkObj n S rest t)) (i : Nat) : w.frozen? ⟨d, i, none⟩ = false := by
  simp [World.frozen?, h, mkObj]
theorem mk_word {w : World} {d n : Nat} {S : Nat → Bool} {rest : List Value} {t : TypeId} (h : w.heap[d]? = some (mkObj n S rest t)) (k : Nat) (hk : k < 16) : w.cell? ⟨d, 1 + k, none⟩ = some (.int .u64 (word S k)) := by
  have : 1 + k = k + 1 := by omega
  rw [this]
  simp [World.cell?, h, mkObj, mkCells, List.getElem?_append, hk]
theorem mk_rest {w : World} {d n : Nat} {S : Nat → Bool} {rest : List Value} {t : TypeId} (h : w.heap[d]? = some (mkObj n S rest t)) (k : Nat) (v : Value) (hk : rest[k]? = some v) : w.cell? ⟨d, 17 + k, none⟩ = some v := by
  have : 17 + k = (16 + k) + 1 := by omega
  rw [this]
  simp [World.cell?, h, mkObj, mkCells, List.getElem?_append, hk]
theorem mk_set (n : Nat) (S : Nat → Bool) (rest : List Value) (i : Nat) (b : Bool) (hi : i < 1024) :
    (mkCells n S rest).toArray.setIfInBounds (1 + i / 64) (.int .u64 (word (upd S i b) (i / 64))) = (mkCells n (upd S i b) rest).toArray := by
  rw [List.setIfInBounds_toArray]
  congr 1
  rw [show 1 + i / 64 = i / 64 + 1 by omega]
  simp only [mkCells, List.cons_append, List.set_cons_succ]
  congr 1
  rw [List.set_append_left _ _ (by simp; omega)]
  congr 1
  apply List.ext_getElem?
  intro k
  rw [List.getElem?_set]
  by_cases hk : i / 64 = k
  · subst hk
    have : i / 64 < 16 := by omega
    simp [this]
  · rw [if_neg hk]
    by_cases h16 : k < 16
    · simp [h16, word_other (Ne.symm hk)]
    · have : 16 ≤ k := by omega
      simp [this]

/-- A mark turned in its word: the block behind it. -/
theorem mk_turn {w : World} {d n : Nat} {S : Nat → Bool} {rest : List Value} {t : TypeId} (h : w.heap[d]? = some (mkObj n S rest t)) (i : Nat) (b : Bool) (hi : i < 1024) :
    (w.setCell ⟨d, 1 + i / 64, none⟩ (.int .u64 (word (upd S i b) (i / 64)))).heap[d]? = some (mkObj n (upd S i b) rest t) := by
  have := setCell_block (a := ⟨d, 1 + i / 64, none⟩) (v := .int .u64 (word (upd S i b) (i / 64))) h rfl
  rw [mk_set _ _ _ _ _ hi] at this
  exact this

set_option maxHeartbeats 400000 in
theorem bit_any (i : Nat) (w : World) (hi : i < 1024) :
    Calls Try.prog 65 #[.int .i64 i] w fun e w' => e = .returned (.int .u64 ((2 ^ (i % 64) : Nat) : Int)) ∧ w' = w := by
  have hr : (i : Int).tmod 64 = ((i % 64 : Nat) : Int) := by rw [Int.tmod_eq_emod_of_nonneg (by omega)]; rfl
  have hp : (2 : Nat) ^ (i % 64) < 2 ^ 64 := Nat.pow_lt_pow_right (by omega) (by omega)
  go_enter Try.func65, Try.ntmps65
  go_wp2
  go_ret
  refine ⟨ret_int ?_, rfl⟩
  have e : ((2 : Int) ^ (i % 64)) = ((2 ^ (i % 64) : Nat) : Int) := by push_cast; rfl
  rw [e]
  generalize 2 ^ (i % 64) = P at *
  exact u64_id (by omega) (by omega)

theorem and_zero (S : Nat → Bool) (i : Nat) : (bits .and .u64 (word S (i / 64) : Int) ((2 ^ (i % 64) : Nat) : Int) != 0) = S i := by
  have hp : (2 : Nat) ^ (i % 64) < 2 ^ 64 := Nat.pow_lt_pow_right (by omega) (by omega)
  have hq : (2 : Nat) ^ (i % 64) ≠ 0 := by have := Nat.two_pow_pos (i % 64); omega
  rw [Go.u64_and_nat _ _ (word_lt S _) hp, word_has]
  cases S i
  · simp
  · simp only [Bool.toNat_true, Nat.one_mul]
    rw [bne_iff_ne]
    exact fun h => hq (Int.ofNat.inj h)

set_option maxHeartbeats 1000000 in
theorem has_in (w : World) (d n i : Nat) (S : Nat → Bool) (rest : List Value) (t : TypeId) (h : w.heap[d]? = some (mkObj n S rest t)) (hn : n ≤ 1024) (hi : i < n) :
    Calls Try.prog 51 #[.pointer (some ⟨d, 0, none⟩), .int .i64 i] w fun e w' => e = .returned (.bool (S i)) ∧ ∃ m, w' = w.drewN m := by
  have hbit := fun w => bit_any i w (by omega)
  have h0 := mk_len h
  have hw := mk_word h (i / 64) (by omega)
  have hz := and_zero S i
  have H1 : (0 : Int) ≤ (i : Int) := by omega
  have H2 : (i : Int) < (n : Int) := by omega
  have hd : (i : Int).tdiv 64 = ((i / 64 : Nat) : Int) := by rw [Int.tdiv_eq_ediv_of_nonneg (by omega)]; rfl
  have hd2 : IntKind.i64.wrap ((i / 64 : Nat) : Int) = ((i / 64 : Nat) : Int) := i64_id (by omega) (by omega)
  have H3 : (0 : Int) ≤ ((i / 64 : Nat) : Int) := by omega
  have H4 : ((i / 64 : Nat) : Int) < 16 := by omega
  generalize i / 64 = q at *
  generalize 2 ^ (i % 64) = P at *
  clear h
  go_enter Try.func51, Try.ntmps51
  go_wp2
  go_quiet (first | (go_at_call 65; exact Calls.quiet_of_same (hbit _)))
  go_wp2
  go_ret
  exact ⟨ret_bool rfl, nq, rfl⟩

set_option maxHeartbeats 1000000 in
theorem has_out (w : World) (d n : Nat) (i : Int) (S : Nat → Bool) (rest : List Value) (t : TypeId) (h : w.heap[d]? = some (mkObj n S rest t)) (hi : ¬ (0 ≤ i ∧ i < n)) :
    Calls Try.prog 51 #[.pointer (some ⟨d, 0, none⟩), .int .i64 i] w fun e w' => e = .returned (.bool false) ∧ ∃ m, w' = w.drewN m := by
  have h0 := mk_len h
  by_cases hz : 0 ≤ i
  · have h1 : decide (i < (n : Int)) = false := by simp; omega
    have h2 : ¬ i < (n : Int) := by omega
    have h3 : decide (0 ≤ i) = true := by simp; omega
    clear hi
    go_enter Try.func51, Try.ntmps51
    go_wp2
    go_quiet (fail)
    go_wp2
    go_ret
    exact ⟨ret_bool (by simp [*]), nq, rfl⟩
  · have h3 : decide (0 ≤ i) = false := by simp; omega
    clear hi
    go_enter Try.func51, Try.ntmps51
    go_wp2
    go_quiet (fail)
    go_wp2
    go_ret
    exact ⟨ret_bool (by simp [*]), nq, rfl⟩

/-- Whether a number is a mark that is set. -/
def hasI (n : Nat) (S : Nat → Bool) (i : Int) : Bool := decide (0 ≤ i ∧ i < n) && S i.toNat

theorem hasI_in {n i : Nat} {S : Nat → Bool} (h : i < n) : hasI n S i = S i := by
  have : (0 : Int) ≤ (i : Int) ∧ (i : Int) < (n : Int) := by omega
  simp [hasI, this]
theorem hasI_out {n : Nat} {i : Int} {S : Nat → Bool} (h : ¬ (0 ≤ i ∧ i < n)) : hasI n S i = false := by simp [hasI, h]

theorem has_any (w : World) (d n : Nat) (i : Int) (S : Nat → Bool) (rest : List Value) (t : TypeId) (h : w.heap[d]? = some (mkObj n S rest t)) (hn : n ≤ 1024) :
    Calls Try.prog 51 #[.pointer (some ⟨d, 0, none⟩), .int .i64 i] w fun e w' => e = .returned (.bool (hasI n S i)) ∧ ∃ m, w' = w.drewN m := by
  by_cases hi : 0 ≤ i ∧ i < n
  · obtain ⟨k, rfl⟩ := Int.eq_ofNat_of_zero_le hi.1
    rw [hasI_in (by omega)]
    exact has_in w d n k S rest t h hn (by omega)
  · rw [hasI_out hi]
    exact has_out w d n i S rest t h hi

theorem or_word (S : Nat → Bool) (i : Nat) : bits .or .u64 (word S (i / 64) : Int) ((2 ^ (i % 64) : Nat) : Int) = (word (upd S i true) (i / 64) : Int) := by
  have hp : (2 : Nat) ^ (i % 64) < 2 ^ 64 := Nat.pow_lt_pow_right (by omega) (by omega)
  rw [Go.u64_or_nat _ _ (word_lt S _) hp, word_set]
theorem andNot_word (S : Nat → Bool) (i : Nat) : bits .andNot .u64 (word S (i / 64) : Int) ((2 ^ (i % 64) : Nat) : Int) = (word (upd S i false) (i / 64) : Int) := by
  have hp : (2 : Nat) ^ (i % 64) < 2 ^ 64 := Nat.pow_lt_pow_right (by omega) (by omega)
  rw [Go.u64_andNot_nat _ _ (word_lt S _) hp, word_unset]

set_option maxHeartbeats 1000000 in
theorem set_no (w : World) (d n : Nat) (i : Int) (S : Nat → Bool) (rest : List Value) (t : TypeId) (h : w.heap[d]? = some (mkObj n S rest t)) (hn : n ≤ 1024) (hi : ¬ (0 ≤ i ∧ i < n ∧ S i.toNat = false)) :
    Calls Try.prog 41 #[.pointer (some ⟨d, 0, none⟩), .int .i64 i] w fun e w' => e = .returned (.bool false) ∧ ∃ m, w' = w.drewN m := by
  have h0 := mk_len h
  have hh := has_any w d n i S rest t h hn
  by_cases hz : i < 0
  · clear hi
    go_enter Try.func41, Try.ntmps41
    go_wp2
    go_ret
    exact ⟨rfl, 0, rfl⟩
  · by_cases hy : i < n
    · have hs : hasI n S i = true := by
        have : 0 ≤ i ∧ i < n := by omega
        simp only [hasI, this]
        cases hc : S i.toNat
        · exact absurd ⟨this.1, this.2, hc⟩ hi
        · simp
      rw [hs] at hh
      clear hi hs
      go_enter Try.func41, Try.ntmps41
      go_wp2_with (first | (go_at_call 51; refine hh.mono ?_; rintro e w1 ⟨rfl, m, hw⟩; subst w1))
      go_ret
      exact ⟨rfl, m, rfl⟩
    · have hy' : (n : Int) ≤ i := by omega
      clear hi
      go_enter Try.func41, Try.ntmps41
      go_wp2
      go_ret
      exact ⟨rfl, 0, rfl⟩

set_option maxHeartbeats 1000000 in
theorem set_yes (w : World) (d n i : Nat) (S : Nat → Bool) (rest : List Value) (t : TypeId) (h : w.heap[d]? = some (mkObj n S rest t)) (hn : n ≤ 1024) (hi : i < n) (hs : S i = false) :
    Calls Try.prog 41 #[.pointer (some ⟨d, 0, none⟩), .int .i64 i] w fun e w' => e = .returned (.bool true) ∧ w'.heap[d]? = some (mkObj n (upd S i true) rest t) ∧ Keeps (fun k => k = d) w w' ∧ w'.heap.size = w.heap.size := by
  have hbit := fun w => bit_any i w (by omega)
  have h0 := mk_len h
  have hw := mk_word h (i / 64) (by omega)
  have hf := mk_frozen h (1 + i / 64)
  have hz := or_word S i
  have H1 : ¬ (i : Int) < 0 := by omega
  have H2 : ¬ (n : Int) ≤ (i : Int) := by omega
  have hh := has_in w d n i S rest t h hn hi
  rw [hs] at hh
  have hd : (i : Int).tdiv 64 = ((i / 64 : Nat) : Int) := by rw [Int.tdiv_eq_ediv_of_nonneg (by omega)]; rfl
  have hd2 : IntKind.i64.wrap ((i / 64 : Nat) : Int) = ((i / 64 : Nat) : Int) := i64_id (by omega) (by omega)
  have H3 : (0 : Int) ≤ ((i / 64 : Nat) : Int) := by omega
  have H4 : ((i / 64 : Nat) : Int) < 16 := by omega
  have HT := Hid.mk' (mk_turn h i true (by omega))
  have HK := Hid.mk' (grownBy_setCell w ⟨d, 1 + i / 64, none⟩ (.int .u64 (word (upd S i true) (i / 64))))
  clear h
  generalize i / 64 = q at *
  generalize 2 ^ (i % 64) = P at *
  go_enter Try.func41, Try.ntmps41
  go_wp2_with (first | (go_at_call 51; refine hh.mono ?_; rintro e w1 ⟨rfl, m, hw⟩; subst w1))
  go_region_with ((go_at_call 65; refine (hbit _).mono ?_; rintro e w' ⟨rfl, hw⟩; subst w'))
  all_goals
    go_wp2
    go_ret
    exact ⟨rfl, HT.out, ⟨rfl, rfl, rfl, HK.out.size, fun k hk hx => HK.out.block k hk (by simpa using hx)⟩, by simp [World.setCell]⟩

set_option maxHeartbeats 1000000 in
theorem unset_no (w : World) (d n : Nat) (i : Int) (S : Nat → Bool) (rest : List Value) (t : TypeId) (h : w.heap[d]? = some (mkObj n S rest t)) (hn : n ≤ 1024) (hi : hasI n S i = false) :
    Calls Try.prog 69 #[.pointer (some ⟨d, 0, none⟩), .int .i64 i] w fun e w' => e = .returned (.bool false) ∧ ∃ m, w' = w.drewN m := by
  have hh := has_any w d n i S rest t h hn
  rw [hi] at hh
  clear hi h
  go_enter Try.func69, Try.ntmps69
  go_wp2_with (first | (go_at_call 51; refine hh.mono ?_; rintro e w1 ⟨rfl, m, hw⟩; subst w1))
  go_ret
  exact ⟨rfl, m, rfl⟩

set_option maxHeartbeats 1000000 in
theorem unset_yes (w : World) (d n i : Nat) (S : Nat → Bool) (rest : List Value) (t : TypeId) (h : w.heap[d]? = some (mkObj n S rest t)) (hn : n ≤ 1024) (hi : i < n) (hs : S i = true) :
    Calls Try.prog 69 #[.pointer (some ⟨d, 0, none⟩), .int .i64 i] w fun e w' => e = .returned (.bool true) ∧ w'.heap[d]? = some (mkObj n (upd S i false) rest t) ∧ Keeps (fun k => k = d) w w' ∧ w'.heap.size = w.heap.size := by
  have hbit := fun w => bit_any i w (by omega)
  have hw := mk_word h (i / 64) (by omega)
  have hf := mk_frozen h (1 + i / 64)
  have hz := andNot_word S i
  have hh := has_in w d n i S rest t h hn hi
  rw [hs] at hh
  have hd : (i : Int).tdiv 64 = ((i / 64 : Nat) : Int) := by rw [Int.tdiv_eq_ediv_of_nonneg (by omega)]; rfl
  have hd2 : IntKind.i64.wrap ((i / 64 : Nat) : Int) = ((i / 64 : Nat) : Int) := i64_id (by omega) (by omega)
  have H3 : (0 : Int) ≤ ((i / 64 : Nat) : Int) := by omega
  have H4 : ((i / 64 : Nat) : Int) < 16 := by omega
  have HT := Hid.mk' (mk_turn h i false (by omega))
  have HK := Hid.mk' (grownBy_setCell w ⟨d, 1 + i / 64, none⟩ (.int .u64 (word (upd S i false) (i / 64))))
  clear h
  generalize i / 64 = q at *
  generalize 2 ^ (i % 64) = P at *
  go_enter Try.func69, Try.ntmps69
  go_wp2_with (first | (go_at_call 51; refine hh.mono ?_; rintro e w1 ⟨rfl, m, hw⟩; subst w1))
  go_region_with ((go_at_call 65; refine (hbit _).mono ?_; rintro e w' ⟨rfl, hw⟩; subst w'))
  all_goals
    go_wp2
    go_ret
    exact ⟨rfl, HT.out, ⟨rfl, rfl, rfl, HK.out.size, fun k hk hx => HK.out.block k hk (by simpa using hx)⟩, by simp [World.setCell]⟩

end Go.Proofs.Ytnafocbgapianab
