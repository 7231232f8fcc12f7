import Derived.Test.YtidnpidacjnooaaRows
import Derived.WalkKit
import Derived.WalkSpells
import Derived.WalkLawsBesides
import Derived.Lib.Bytealg
import Derived.Lib.IndexLaws
import Derived.Laws.StandIn
namespace Go.Proofs.Ytidnpidacjnooaa
open Go.RowKit

theorem ret_bool {a b : Bool} (h : a = b) : Ending.returned (.bool a) = .returned (.bool b) := by rw [h]

theorem lite (s : ByteArray) (c : Int) (w : World) :
    Calls Try.prog 7 #[.string s, .int .u8 c] w fun e w' => e = .returned (.int .i64 (Lib.indexByte s.data.toList c.toNat.toUInt8)) ∧ w' = w := by
  go_enter Try.func7, Try.ntmps7
  go_wp2
  rw [run_callFunc_extern Try.func8 (by kernel_rfl) (by kernel_rfl) (by kernel_rfl) (e := Extern.BytealgIndexByte.indexByte) (by kernel_rfl), Lib.run_indexByteString]
  simp only [Result.andThen]
  rw [Oper.upon_value]
  go_wp2
  go_ret
  exact ⟨rfl, rfl⟩

theorem index (s : ByteArray) (c : Int) (w : World) :
    Calls Try.prog 6 #[.string s, .int .u8 c] w fun e w' => e = .returned (.int .i64 (Lib.indexByte s.data.toList c.toNat.toUInt8)) ∧ w' = w := by
  have h7 := lite s c
  go_enter Try.func6, Try.ntmps6
  go_wp2_with (first | (go_at_call 7; refine (h7 _).mono ?_; rintro e w1 ⟨rfl, rfl⟩))
  go_ret
  exact ⟨rfl, rfl⟩

/-- Neither 0 nor '/' among the bytes. -/
def clean (l : List UInt8) : Bool := l.all fun b => b != 0 && b != 47

theorem index_lt (l : List UInt8) (c : UInt8) : (decide (Lib.indexByte l c < 0)) = l.all (· != c) := by
  have hge := Lib.indexByte_ge l c
  by_cases h : Lib.indexByte l c = -1
  · rw [h]
    have := Lib.indexByte_none h
    symm
    simp only [Int.reduceNeg, Int.reduceLT, decide_true]
    rw [List.all_eq_true]
    intro x hx
    obtain ⟨k, hk, rfl⟩ := List.getElem_of_mem hx
    have := this k
    simp [hk] at this ⊢
    exact this
  · obtain ⟨o, ho⟩ : ∃ o : Nat, Lib.indexByte l c = o := ⟨(Lib.indexByte l c).toNat, by omega⟩
    have h1 := (Lib.indexByte_some ho).1
    rw [ho]
    have hm : c ∈ l := List.mem_of_getElem? h1
    have : ¬ ((o : Int) < 0) := by omega
    simp only [this, decide_false]
    symm
    rw [List.all_eq_false]
    exact ⟨c, hm, by simp⟩

/-- A good name, as the document says it. -/
def valid (s : ByteArray) : Bool := !s.toList.isEmpty && decide (s.size ≤ 28) && !(s.toList == [46]) && !(s.toList == [46, 46]) && clean s.data.toList

theorem clean_eq (l : List UInt8) : clean l = (decide (Lib.indexByte l 0 < 0) && decide (Lib.indexByte l 47 < 0)) := by
  rw [index_lt, index_lt]
  induction l with
  | nil => rfl
  | cons b l ih =>
    unfold clean at ih ⊢
    rw [List.all_cons, ih, List.all_cons, List.all_cons]
    cases (b != 0) <;> cases (b != 47) <;> simp

set_option maxHeartbeats 1000000 in
theorem prog_valid (s : ByteArray) (w : World) :
    Calls Try.prog 4 #[.string s] w fun e w' => e = .returned (.bool (valid s)) ∧ w' = w := by
  have h6 := index s
  have hv : valid s = (!s.toList.isEmpty && decide (s.size ≤ 28) && !(s.toList == [46]) && !(s.toList == [46, 46]) && (decide (Lib.indexByte s.data.toList 0 < 0) && decide (Lib.indexByte s.data.toList 47 < 0))) := by
    rw [← clean_eq]; rfl
  rw [hv]
  clear hv
  go_enter Try.func4, Try.ntmps4
  go_wp2_with (first | (go_at_call 6; refine (h6 _ _).mono ?_; rintro e w1 ⟨rfl, rfl⟩))
  all_goals (clear h6; go_ret; refine ⟨ret_bool ?_, rfl⟩)
  · have h : s.toList = [] := by assumption
    simp [h]
  · have h : s.toList.isEmpty = true ∨ (28 : Int) < s.size := by assumption
    rcases h with h | h
    · simp [h]
    · have : ¬ s.size ≤ 28 := by omega
      simp [this]
  · have h : s.toList = [46] := by assumption
    simp [h]
  · have h : (s.toList == [46]) = true ∨ (s.toList == [46, 46]) = true := by assumption
    rcases h with h | h <;> simp [h]
  · have h1 : s.toList.isEmpty = false ∧ (s.size : Int) ≤ 28 := by assumption
    have h2 : (s.toList == [46]) = false ∧ (s.toList == [46, 46]) = false := by assumption
    have h3 : Lib.indexByte s.data.toList 0 < 0 := by assumption
    have h4 : s.size ≤ 28 := by omega
    simp [h1.1, h2.1, h2.2, h3, h4]
  · have h3 : 0 ≤ Lib.indexByte s.data.toList 0 := by assumption
    have h4 : ¬ Lib.indexByte s.data.toList 0 < 0 := by omega
    simp [h4]

theorem byte_at (s : ByteArray) (k : Nat) (hk : k < s.size) (h' : k < s.data.toList.length) : s.data.toList[k] = s[k] := by
  obtain ⟨⟨l⟩⟩ := s
  rfl

theorem clean_take (s : ByteArray) (k : Nat) (hk : k < s.size) : clean (s.data.toList.take (k + 1)) = (clean (s.data.toList.take k) && (s[k] != 0 && s[k] != 47)) := by
  have h' : k < s.data.toList.length := by simpa using hk
  rw [List.take_succ_eq_append_getElem h', byte_at s k hk h']
  unfold clean
  rw [List.all_append]
  simp

theorem clean_hit (s : ByteArray) (k : Nat) (hk : k < s.size) (h : s[k] = 0 ∨ s[k] = 47) : clean s.data.toList = false := by
  have h' : k < s.data.toList.length := by simpa using hk
  unfold clean
  rw [List.all_eq_false]
  refine ⟨s.data.toList[k], List.getElem_mem h', ?_⟩
  rw [byte_at s k hk h']
  rcases h with h | h <;> simp [h]

theorem byte_or {b : UInt8} (h : ((b.toNat : Int) == 0) = true ∨ ((b.toNat : Int) == 47) = true) : b = 0 ∨ b = 47 := by
  rcases h with h | h
  · left
    have : b.toNat = 0 := by simpa using h
    exact UInt8.toNat_inj.1 this
  · right
    have h1 : (b.toNat : Int) = 47 := by simpa using h
    have : b.toNat = 47 := by omega
    exact UInt8.toNat_inj.1 this

theorem byte_and {b : UInt8} (h : ((b.toNat : Int) == 0) = false ∧ ((b.toNat : Int) == 47) = false) : (b != 0 && b != 47) = true := by
  have h0 : b ≠ 0 := by rintro rfl; exact absurd h.1 (by decide)
  have h1 : b ≠ 47 := by rintro rfl; exact absurd h.2 (by decide)
  simp [h0, h1]

set_option maxHeartbeats 1000000 in
theorem ref_valid (s : ByteArray) (w : World) :
    Calls Try.prog 5 #[.string s] w fun e w' => e = .returned (.bool (valid s)) ∧ w' = w := by
  go_enter Try.func5, Try.ntmps5
  go_wp2
  · have h : s.toList = [] := by assumption
    go_ret
    exact ⟨ret_bool (by simp [valid, h]), rfl⟩
  · have h : s.toList = [46] := by assumption
    go_ret
    exact ⟨ret_bool (by simp [valid, h]), rfl⟩
  · have h : s.toList = [46, 46] := by assumption
    go_ret
    exact ⟨ret_bool (by simp [valid, h]), rfl⟩
  · have h : ((s.toList.isEmpty = true ∨ (s.toList == [46]) = true) ∨ (s.toList == [46, 46]) = true) ∨ (28 : Int) < s.size := by assumption
    go_ret
    refine ⟨ret_bool ?_, rfl⟩
    unfold valid
    rcases h with ((h | h) | h) | h
    · simp [h]
    · simp [h]
    · simp [h]
    · have : ¬ s.size ≤ 28 := by omega
      simp [this]
  · have h : ((s.toList.isEmpty = false ∧ (s.toList == [46]) = false) ∧ (s.toList == [46, 46]) = false) ∧ (s.size : Int) ≤ 28 := by assumption
    have h4 : s.size ≤ 28 := by omega
    have hv : Hid (valid s = clean s.data.toList) := by
      show valid s = clean s.data.toList
      simp [valid, h.1.1.1, h.1.1.2, h.1.2, h4]
    go_loop [3] (fun i => ∃ k : Nat, k ≤ s.size ∧ i = .int .i64 k ∧ Hid (clean (s.data.toList.take k) = true)) (fun i => s.size - (intOf i).toNat)
    case atStart => exact ⟨0, Nat.zero_le _, rfl, rfl⟩
    case round =>
      obtain ⟨k, hk, rfl, hc⟩ := hrel
      go_wp2
      · have hlt : k < s.size := by assumption
        have h0 : s[k].toNat = 0 := by assumption
        go_ret
        refine ⟨ret_bool ?_, rfl⟩
        rw [hv.out, clean_hit s k hlt (Or.inl (UInt8.toNat_inj.1 h0))]
      · have hlt : k < s.size := by assumption
        have h0 : ((s[k].toNat : Int) == 0) = true ∨ ((s[k].toNat : Int) == 47) = true := by assumption
        go_ret
        refine ⟨ret_bool ?_, rfl⟩
        rw [hv.out, clean_hit s k hlt (byte_or h0)]
      · have hlt : k < s.size := by assumption
        have h0 : ((s[k].toNat : Int) == 0) = false ∧ ((s[k].toNat : Int) == 47) = false := by assumption
        refine ⟨⟨k + 1, by omega, by omega, ?_⟩, by simp [intOf]; omega⟩
        show clean (s.data.toList.take (k + 1)) = true
        rw [clean_take s k hlt, hc.out, byte_and h0]
        rfl
      · have hge : ¬ k < s.size := by assumption
        go_ret
        refine ⟨ret_bool ?_, rfl⟩
        rw [hv.out]
        have h1 := hc.out
        have hk' : k = s.data.toList.length := by
          have : s.size = s.data.toList.length := by simp
          omega
        rw [hk', List.take_length] at h1
        exact h1.symm

set_option maxHeartbeats 1000000 in
theorem walk (s : ByteArray) (w : World) :
    Calls Try.prog 3 #[.string s] w fun e w' => e = .returned (.bool true) ∧ w' = w := by
  have h4 := prog_valid s
  have h5 := ref_valid s
  go_enter Try.func3, Try.ntmps3
  go_wp2_with (first | (go_at_call 4; refine (h4 _).mono ?_; rintro e w1 ⟨rfl, rfl⟩) | (go_at_call 5; refine (h5 _).mono ?_; rintro e w1 ⟨rfl, rfl⟩))
  go_ret
  exact ⟨ret_bool (by simp), rfl⟩

end Go.Proofs.Ytidnpidacjnooaa
