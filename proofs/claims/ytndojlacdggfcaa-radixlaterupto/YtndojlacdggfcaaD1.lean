import Derived.Test.YtndojlacdggfcaaC5
namespace Go.Proofs.Ytndojlacdggfcaa
open Go.RowKit

theorem rem_pos {c m : Int} (h0 : 0 < m) (h : 0 ≤ c.tmod m) : c.tmod m = c % m := by
  have h1 := Int.emod_eq_tmod (a := c) (b := m)
  have h2 := Int.emod_lt_of_pos c h0
  have h3 := Int.emod_nonneg c (by omega : m ≠ 0)
  split at h1 <;> omega
theorem rem_neg' {c m : Int} (h0 : 0 < m) (h : c.tmod m < 0) : c.tmod m + m = c % m := by
  have h1 := Int.emod_eq_tmod (a := c) (b := m)
  have h2 := Int.emod_lt_of_pos c h0
  have h3 := Int.emod_nonneg c (by omega : m ≠ 0)
  split at h1 <;> omega
theorem rem_neg {c m : Int} (h0 : 0 < m) (hm : m ≤ 1000000000) (h : c.tmod m < 0) : wrap64 (c.tmod m + m) = c % m := by
  have h1 := rem_neg' h0 h
  have h2 := Int.emod_lt_of_pos c h0
  have h3 := Int.emod_nonneg c (by omega : m ≠ 0)
  rw [wrap64_id (by omega) (by omega)]; exact h1

/-- A place by any number. -/
def plc (at_ : Int) (n : Nat) : Nat := (at_ % (n : Int)).toNat
theorem plc_lt (at_ : Int) {n : Nat} (h : 1 ≤ n) : plc at_ n < n := by
  have h2 := Int.emod_lt_of_pos at_ (show (0 : Int) < n by omega)
  have h3 := Int.emod_nonneg at_ (show (n : Int) ≠ 0 by omega)
  unfold plc; omega
theorem plc_cast (at_ : Int) {n : Nat} (h : 1 ≤ n) : (plc at_ n : Int) = at_ % (n : Int) := by
  have h3 := Int.emod_nonneg at_ (show (n : Int) ≠ 0 by omega)
  unfold plc; omega

set_option maxHeartbeats 400000 in
theorem place_int (c m : Int) (w : World) (h0 : 0 < m) (hm : m ≤ 1000000000) :
    Calls Try.prog 16 #[.int .i64 c, .int .i64 m] w fun e w' => e = .returned (.int .i64 (c % m)) ∧ w' = w := by
  go_enter Try.func16, Try.ntmps16
  go_wp2
  · go_ret
    exact ⟨ret_int (rem_neg h0 hm ‹_›), rfl⟩
  · go_ret
    exact ⟨ret_int (rem_pos h0 ‹_›), rfl⟩

theorem place_any (c : Int) (n : Nat) (w : World) (h : 1 ≤ n) (hm : n ≤ 1000000) :
    Calls Try.prog 16 #[.int .i64 c, .int .i64 n] w fun e w' => e = .returned (.int .i64 (plc c n)) ∧ w' = w := by
  rw [plc_cast c h]
  exact place_int c n w (by omega) (by omega)


abbrev Put := Bool × Int × Int
def d0 : Put := (false, 0, 0)

/-- A list of steps that lies in memory. -/
def PutsIn (w : World) (p : Option Addr) (l : List Put) : Prop :=
  0 < l.length → ∃ b o, p = some ⟨b, o, none⟩ ∧ b < w.heap.size ∧ ∀ i, i < l.length →
    w.cell? ⟨b, o + i * 3, none⟩ = some (.bool (l.getD i d0).1) ∧ w.cell? ⟨b, o + i * 3 + 1, none⟩ = some (.int .i64 (l.getD i d0).2.1) ∧ w.cell? ⟨b, o + i * 3 + 2, none⟩ = some (.int .i64 (l.getD i d0).2.2)

theorem PutsIn.grown {w w' : World} {p : Option Addr} {l : List Put} (h : PutsIn w p l) (k : Keeps (fun _ => False) w w') : PutsIn w' p l := by
  intro h0
  obtain ⟨b, o, e, hb, hc⟩ := h h0
  exact ⟨b, o, e, Nat.lt_of_lt_of_le hb k.size, fun i hi => ⟨k.cell (hc i hi).1 id, k.cell (hc i hi).2.1 id, k.cell (hc i hi).2.2 id⟩⟩

def stepF (f : Nat → Int) (p : Put) : Nat → Int := if p.1 then cutF f 0 p.2.1 else setF f p.2.1 p.2.2
def play (l : List Put) : Nat → Int := l.foldl stepF (fun _ => 0)
def lastS (off : Int) (v : Int) (p : Put) : Int := if p.1 then (if p.2.1 ≤ off then 0 else v) else (if p.2.1 = off then p.2.2 else v)
def lastW (l : List Put) (off : Int) : Int := l.foldl (lastS off) 0
def lastV (l : List Put) (off : Int) : Int := lastW (l.take 400) off

theorem play_snoc (l : List Put) (p : Put) : play (l ++ [p]) = stepF (play l) p := by simp [play]
theorem lastW_snoc (l : List Put) (p : Put) (off : Int) : lastW (l ++ [p]) off = lastS off (lastW l off) p := by simp [lastW]

theorem take_getD {α : Type} (d : α) {l : List α} {k : Nat} (h : k < l.length) : l.take (k + 1) = l.take k ++ [l.getD k d] := by
  rw [List.take_add_one, List.getElem?_eq_getElem h]; simp [List.getD_eq_getElem?_getD, h]

theorem play_last (l : List Put) (o : Nat) (ho : o < 512) : play l o = lastW l (o : Int) := by
  have h : ∀ (f : Nat → Int) (v : Int), f o = v → (l.foldl stepF f) o = l.foldl (lastS (o : Int)) v := by
    induction l with
    | nil => intro f v h; simpa using h
    | cons p l ih =>
      intro f v h
      simp only [List.foldl_cons]
      apply ih
      obtain ⟨c, x, y⟩ := p
      cases c with
      | true =>
        simp only [stepF, lastS, cutF, if_true, Nat.zero_add]
        by_cases hx : (o : Int) < x
        · rw [if_pos hx, if_neg (by omega), h]
        · rw [if_neg hx, if_pos (by omega)]
      | false =>
        simp only [stepF, lastS, setF, Bool.false_eq_true, if_false]
        by_cases hi : isOff x = true
        · rw [if_pos hi]
          obtain ⟨j, rfl, hj⟩ := isOff_nat hi
          simp only [upd, Int.toNat_natCast]
          by_cases e : o = j
          · rw [if_pos e, if_pos (by omega)]
          · rw [if_neg e, if_neg (by omega), h]
        · rw [if_neg hi, h, if_neg]
          rintro rfl
          exact hi (isOff_of ho)
  exact h _ _ rfl

set_option maxRecDepth 100000 in
set_option maxHeartbeats 1000000 in
theorem last_any (w : World) (p : Option Addr) (l : List Put) (cap : Nat) (off : Int) (hp : PutsIn w p l) (hl : l.length ≤ maxLen) :
    Calls Try.prog 14 #[.slice p l.length cap, .int .i64 off] w fun e w' => e = .returned (.int .i64 (lastV l off)) ∧ w' = w := by
  have hml : l.length ≤ 9223372036854775807 := Nat.le_trans hl (by decide)
  have HP := Hid.mk' hp
  clear hp hl
  go_enter Try.func14, Try.ntmps14
  go_wp2
  go_loopw [5, 6] (fun c i wr => ∃ k : Nat, k ≤ l.length ∧ k ≤ 400 ∧ i = .int .i64 k ∧ c = .int .i64 (lastW (l.take k) off) ∧ wr = w) (fun _ i _ => 400 - (intOf i).toNat)
  case atStart => exact ⟨0, by omega, by omega, rfl, rfl, rfl⟩
  case round =>
    obtain ⟨k, hk, hk4, rfl, rfl, rfl⟩ := hrel
    by_cases h1 : k < l.length
    · by_cases h2 : k < 400
      · obtain ⟨b, o, rfl, hb, hc⟩ := HP.out (by omega)
        obtain ⟨c0, c1, c2⟩ := hc k h1
        have ht := lastW_snoc (l.take k) (l.getD k d0) off
        rw [← take_getD d0 h1] at ht
        generalize l.getD k d0 = q at *
        obtain ⟨qc, x, y⟩ := q
        simp only at c0 c1 c2
        have HT := Hid.mk' ht
        have h1' : (k : Int) < (l.length : Int) := by omega
        have h2' : (k : Int) < 400 := by omega
        have hd1 : decide ((k : Int) < (l.length : Int)) = true := by simpa using h1
        clear hc ht
        cases qc with
        | true =>
          by_cases hx : x ≤ off
          · go_wp2
            go_roundw
            case rel => exact ⟨k + 1, by omega, by omega, by go_num, by rw [HT.out]; simp [lastS, hx], trivial⟩
            case measure => simp [intOf]; omega
          · go_wp2
            go_roundw
            case rel => exact ⟨k + 1, by omega, by omega, by go_num, by rw [HT.out]; simp [lastS, show ¬ x ≤ off by omega], trivial⟩
            case measure => simp [intOf]; omega
        | false =>
          by_cases hx : x = off
          · go_wp2
            go_roundw
            case rel => exact ⟨k + 1, by omega, by omega, by go_num, by rw [HT.out]; simp [lastS, hx], trivial⟩
            case measure => simp [intOf]; omega
          · have hxb : (x == off) = false := by simpa using hx
            go_wp2
            go_roundw
            case rel => exact ⟨k + 1, by omega, by omega, by go_num, by rw [HT.out]; simp [lastS, hx], trivial⟩
            case measure => simp [intOf]; omega
      · have h2' : ¬ (k : Int) < 400 := by omega
        have h1' : (k : Int) < (l.length : Int) := by omega
        obtain rfl : k = 400 := by omega
        go_wp2
        go_ret
        exact ⟨rfl, rfl⟩
    · have h1' : ¬ (k : Int) < (l.length : Int) := by omega
      have hd1 : decide ((k : Int) < (l.length : Int)) = false := by simpa using h1
      have HE := Hid.mk' (show lastW (l.take k) off = lastV l off by rw [lastV, List.take_of_length_le (by omega), List.take_of_length_le (by omega)])
      go_wp2
      go_ret
      exact ⟨ret_int HE.out, rfl⟩

end Go.Proofs.Ytndojlacdggfcaa
