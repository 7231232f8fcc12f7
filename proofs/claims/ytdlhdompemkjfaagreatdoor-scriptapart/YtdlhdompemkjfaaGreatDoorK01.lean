import Derived.Test.YtdlhdompemkjfaaGreatDoorK00
namespace Go.Proofs.YtdlhdompemkjfaaGreatDoor
open Go.RowKit Go.Maps
set_option maxRecDepth 100000

theorem printable_any (w : World) (b : UInt8) : Calls Tryz.prog 95 #[.int .u8 (b.toNat : Int)] w fun e w' => e = .returned (.bool (prt b)) ∧ w' = w := by
  unfold prt
  by_cases h1 : 32 ≤ b.toNat
  · have h1' : (32 : Int) ≤ (b.toNat : Int) := by omega
    by_cases h2 : b.toNat ≤ 126
    · have h2' : (b.toNat : Int) ≤ 126 := by omega
      rw [decide_eq_true h1, decide_eq_true h2]
      clear h1 h2
      go_enter Tryz.func95, Tryz.ntmps95
      go_wp2
      go_ret
      exact ⟨ret_bool rfl, rfl⟩
    · have h2' : ¬ (b.toNat : Int) ≤ 126 := by omega
      rw [decide_eq_true h1, decide_eq_false h2]
      clear h1 h2
      go_enter Tryz.func95, Tryz.ntmps95
      go_wp2
      go_ret
      exact ⟨ret_bool rfl, rfl⟩
  · have h1' : ¬ (32 : Int) ≤ (b.toNat : Int) := by omega
    rw [decide_eq_false h1]
    clear h1
    go_enter Tryz.func95, Tryz.ntmps95
    go_wp2
    go_ret
    exact ⟨ret_bool rfl, rfl⟩

def pln (b : UInt8) : Bool := prt b && (b != 34) && (b != 92)
theorem beq_byte (b c : UInt8) : ((b.toNat : Int) == (c.toNat : Int)) = (b == c) := by
  by_cases h : b = c
  · subst h; simp
  · have h3 : ¬ b.toNat = c.toNat := fun e => h (UInt8.toNat_inj.1 e)
    rw [beq_eq_false_iff_ne.2 h]
    exact beq_eq_false_iff_ne.2 (by omega)
theorem plain_any (w : World) (b : UInt8) : Calls Tryz.prog 84 #[.int .u8 (b.toNat : Int)] w fun e w' => e = .returned (.bool (pln b)) ∧ w' = w := by
  unfold pln prt
  have e34 := beq_byte b 34
  have e92 := beq_byte b 92
  have f34 : ((34 : UInt8).toNat : Int) = 34 := rfl
  have f92 : ((92 : UInt8).toNat : Int) = 92 := rfl
  rw [f34] at e34
  rw [f92] at e92
  by_cases h1 : 32 ≤ b.toNat
  · have h1' : (32 : Int) ≤ (b.toNat : Int) := by omega
    by_cases h2 : b.toNat ≤ 126
    · have h2' : (b.toNat : Int) ≤ 126 := by omega
      rw [decide_eq_true h1, decide_eq_true h2]
      show Calls Tryz.prog 84 #[.int .u8 (b.toNat : Int)] w fun e w' => e = .returned (.bool (true && true && !(b == 34) && !(b == 92))) ∧ w' = w
      rw [← e34, ← e92]
      clear e34 e92 h1 h2
      rcases Bool.eq_false_or_eq_true ((b.toNat : Int) == 34) with h3 | h3
      all_goals rcases Bool.eq_false_or_eq_true ((b.toNat : Int) == 92) with h4 | h4
      all_goals
        rw [h3, h4]
        have h3' : ((b.toNat : Int) != 34) = !((b.toNat : Int) == 34) := rfl
        have h4' : ((b.toNat : Int) != 92) = !((b.toNat : Int) == 92) := rfl
        rw [h3] at h3'
        rw [h4] at h4'
        simp only [Bool.not_true, Bool.not_false] at h3' h4'
        go_enter Tryz.func84, Tryz.ntmps84
        go_wp2
        go_ret
        exact ⟨ret_bool rfl, rfl⟩
    · have h2' : ¬ (b.toNat : Int) ≤ 126 := by omega
      rw [decide_eq_true h1, decide_eq_false h2]
      clear e34 e92 h1 h2
      go_enter Tryz.func84, Tryz.ntmps84
      go_wp2
      go_ret
      exact ⟨ret_bool rfl, rfl⟩
  · have h1' : ¬ (32 : Int) ≤ (b.toNat : Int) := by omega
    rw [decide_eq_false h1]
    clear e34 e92 h1
    go_enter Tryz.func84, Tryz.ntmps84
    go_wp2
    go_ret
    exact ⟨ret_bool rfl, rfl⟩

theorem ret_u8 {a b : Int} (h : a = b) : Ending.returned (.int .u8 a) = .returned (.int .u8 b) := by rw [h]
theorem digit_any (w : World) (n : Nat) (hn : n < 16) : Calls Tryz.prog 85 #[.int .i64 (n : Int)] w fun e w' => e = .returned (.int .u8 ((dg n).toNat : Int)) ∧ w' = w := by
  by_cases h : n < 10
  · have h' : (n : Int) < 10 := by omega
    have e := dg_low n h
    have e2 : ((dg n).toNat : Int) = 48 + (n : Int) := by omega
    rw [e2]
    clear e e2
    go_enter Tryz.func85, Tryz.ntmps85
    go_wp2
    go_ret
    exact ⟨ret_u8 rfl, rfl⟩
  · have h' : ¬ (n : Int) < 10 := by omega
    have e := dg_high n hn (by omega)
    have e2 : ((dg n).toNat : Int) = 97 + (n : Int) - 10 := by omega
    rw [e2]
    clear e e2
    go_enter Tryz.func85, Tryz.ntmps85
    go_wp2
    go_ret
    exact ⟨ret_u8 rfl, rfl⟩

theorem hx_hit {b : UInt8} {n : Nat} (h : n < 16) (e : dg n = b) : hxI b = (n : Int) := by
  have := hx_of_dg n h
  rw [e] at this
  unfold hxI; rw [this, if_pos h]
theorem hx_miss {b : UInt8} (h : ∀ m, m < 16 → dg m ≠ b) : hxI b = -1 := by
  unfold hxI
  split
  · rename_i hh; exact absurd (dg_hx b hh) (h _ hh)
  · rfl

set_option maxHeartbeats 1000000 in
set_option maxRecDepth 100000 in
theorem hex_any (w : World) (b : UInt8) : Calls Tryz.prog 100 #[.int .u8 (b.toNat : Int)] w fun e w' => e = .returned (.int .i64 (hxI b)) ∧ w' = w := by
  go_enter Tryz.func100, Tryz.ntmps100
  go_wp2
  go_loopw [3] (fun i wr => ∃ n : Nat, n ≤ 16 ∧ i = .int .i64 n ∧ wr = w ∧ Hid (∀ m, m < n → dg m ≠ b)) (fun i _ => 16 - (intOf i).toNat)
  case atStart => exact ⟨0, by omega, rfl, rfl, fun m hm => absurd hm (by omega)⟩
  case round =>
    obtain ⟨n, hn, rfl, rfl, HM⟩ := hrel
    by_cases h : n < 16
    · have h' : (n : Int) < 16 := by omega
      have h15 := digit_any wr n h
      have e := beq_byte (dg n) b
      by_cases hb : dg n = b
      · have e' : (((dg n).toNat : Int) == (b.toNat : Int)) = true := by rw [e]; exact beq_iff_eq.2 hb
        have HE := Hid.mk' (hx_hit h hb)
        clear e hb
        go_wp2_with (first | (go_at_call 85; refine h15.mono ?_; clear h15; rintro e w1 ⟨rfl, hw1⟩; subst w1))
        go_ret
        exact ⟨by rw [HE.out]; rfl, rfl⟩
      · have e' : (((dg n).toNat : Int) == (b.toNat : Int)) = false := by rw [e]; exact beq_eq_false_iff_ne.2 hb
        have HN : Hid (∀ m, m < n + 1 → dg m ≠ b) := by
          intro m hm
          by_cases hh : m = n
          · rw [hh]; exact hb
          · exact HM.out m (by omega)
        clear e hb
        go_wp2_with (first | (go_at_call 85; refine h15.mono ?_; clear h15; rintro e w1 ⟨rfl, hw1⟩; subst w1))
        go_roundw
        case rel => exact ⟨n + 1, by omega, by go_num, trivial, HN⟩
        case measure => simp [intOf]; omega
    · have h' : ¬ (n : Int) < 16 := by omega
      have HE := Hid.mk' (hx_miss (b := b) (fun m hm => HM.out m (by omega)))
      go_wp2
      go_ret
      exact ⟨by rw [HE.out]; rfl, rfl⟩

theorem index_dgs : ∀ b : UInt8, Lib.indexByte dgs b = hxI b := by
  apply byte_cases; decide +kernel
end Go.Proofs.YtdlhdompemkjfaaGreatDoor

namespace Go.Proofs.YtdlhdompemkjfaaGreatDoor
open Go.RowKit Go.Maps
set_option maxRecDepth 100000

def dgB : ByteArray := ⟨#[48, 49, 50, 51, 52, 53, 54, 55, 56, 57, 97, 98, 99, 100, 101, 102]⟩
theorem index_hx (b : UInt8) (w : World) : Calls Tryz.prog 93 #[.string dgB, .int .u8 (b.toNat : Int)] w fun e w' => e = .returned (.int .i64 (hxI b)) ∧ w' = w := by
  have h := index dgB (b.toNat : Int) w
  have e1 : ((b.toNat : Int)).toNat.toUInt8 = b := by simp
  rw [e1] at h
  have e2 : Lib.indexByte dgB.data.toList b = hxI b := index_dgs b
  rw [e2] at h
  exact h

theorem bits_or : ∀ a : Nat, a < 16 → ∀ b : Nat, b < 16 → bits .or .i64 ((a : Int) * 16) (b : Int) % 256 = ((16 * a + b : Nat) : Int) := by decide +kernel
theorem ofNat_small {n : Nat} (h : n < 256) : (UInt8.ofNat n).toNat = n := by simp; omega
theorem hxI_cases (b : UInt8) : (hx b < 16 ∧ hxI b = (hx b : Int)) ∨ (¬ hx b < 16 ∧ hxI b = -1) := by
  unfold hxI; split
  · rename_i h; exact Or.inl ⟨h, rfl⟩
  · rename_i h; exact Or.inr ⟨h, rfl⟩

set_option maxHeartbeats 1000000 in
set_option maxRecDepth 100000 in
theorem byDigits_any (w : World) (s : ByteArray) (hs : s.size ≤ 281474976710656) :
    Calls Tryz.prog 107 #[.string s] w fun e w' => e = .returned (.tuple #[.int .u8 ((xd (s.data.toList.drop 1)).1.toNat : Int), .int .i64 ((xd (s.data.toList.drop 1)).2 : Int)]) ∧ Keeps (fun _ => False) w w' := by
  by_cases h3 : s.size < 3
  · have h3' : (s.size : Int) < 3 := by omega
    have e : xd (s.data.toList.drop 1) = (0, 0) := by
      rw [size_len] at h3
      generalize s.data.toList = l at h3 ⊢
      match l with
      | [] => rfl
      | [_] => rfl
      | [_, _] => rfl
      | _ :: _ :: _ :: _ => simp only [List.length_cons] at h3; omega
    rw [e]
    clear h3 e
    go_enter Tryz.func107, Tryz.ntmps107
    go_wp2
    refine bodyPost_ret (v := .tuple #[.int .u8 0, .int .i64 0]) (by simp [results, Tryz.results107, go_sem]) rfl ?_
    exact ⟨rfl, Keeps.refl _ _⟩
  · have h3' : ¬ (s.size : Int) < 3 := by omega
    have h1 : 1 < s.size := by omega
    have h2 : 2 < s.size := by omega
    have j1 : (1 : Int) < (s.size : Int) := by omega
    have j2 : (2 : Int) < (s.size : Int) := by omega
    have e : xd (s.data.toList.drop 1) = if hx s[1] < 16 ∧ hx s[2] < 16 then (UInt8.ofNat (16 * hx s[1] + hx s[2]), 3) else (0, 0) := by
      have hl : 2 < s.data.toList.length := by rw [← size_len]; exact h2
      rw [drop_cons (by omega : 1 < s.data.toList.length), drop_cons (by omega : 1 + 1 < s.data.toList.length), byte_getD s 1 h1, byte_getD s 2 h2]
      rfl
    have i18 := index_hx
    unfold dgB at i18
    rcases hxI_cases s[1] with ⟨g1, e1⟩ | ⟨g1, e1⟩
    · rcases hxI_cases s[2] with ⟨g2, e2⟩ | ⟨g2, e2⟩
      · have hor := bits_or (hx s[1]) g1 (hx s[2]) g2
        rw [if_pos ⟨g1, g2⟩] at e
        rw [e, ofNat_small (by omega)]
        have HO := Hid.mk' hor
        clear e hor
        go_enter Tryz.func107, Tryz.ntmps107
        go_wp2
        go_quiet (first | (go_at_call 93; exact Calls.quiet_of_same (i18 _ _)))
        all_goals go_wp2
        all_goals (refine bodyPost_ret (v := .tuple #[.int .u8 (bits .or .i64 ((hx s[1] : Int) * 16) (hx s[2] : Int) % 256), .int .i64 3]) (by simp [results, Tryz.results107, go_sem]) rfl ?_)
        all_goals exact ⟨by rw [HO.out]; rfl, Keeps.drewN _ w _⟩
      · rw [if_neg (fun h => g2 h.2)] at e
        rw [e]
        clear e
        go_enter Tryz.func107, Tryz.ntmps107
        go_wp2
        go_quiet (first | (go_at_call 93; exact Calls.quiet_of_same (i18 _ _)))
        all_goals go_wp2
        all_goals (refine bodyPost_ret (v := .tuple #[.int .u8 0, .int .i64 0]) (by simp [results, Tryz.results107, go_sem]) rfl ?_)
        all_goals exact ⟨rfl, Keeps.drewN _ w _⟩
    · rw [if_neg (fun h => g1 h.1)] at e
      rw [e]
      clear e
      rcases hxI_cases s[2] with ⟨g2, e2⟩ | ⟨g2, e2⟩
      all_goals
        go_enter Tryz.func107, Tryz.ntmps107
        go_wp2
        go_quiet (first | (go_at_call 93; exact Calls.quiet_of_same (i18 _ _)))
      all_goals go_wp2
      all_goals (refine bodyPost_ret (v := .tuple #[.int .u8 0, .int .i64 0]) (by simp [results, Tryz.results107, go_sem]) rfl ?_)
      all_goals exact ⟨rfl, Keeps.drewN _ w _⟩

theorem mnt_cons (b : UInt8) (r : Bs) : mnt (b :: r) = if b = 34 then (34, 1) else if b = 92 then (92, 1) else if b = 110 then (10, 1) else if b = 120 then xd r else (0, 0) := rfl
theorem by_yes {b : UInt8} {k : Int} (c : UInt8) (hk : (c.toNat : Int) = k) (h : b = c) : ((b.toNat : Int) == k) = true := by
  rw [← hk, h]; exact beq_iff_eq.2 rfl
theorem by_no {b : UInt8} {k : Int} (c : UInt8) (hk : (c.toNat : Int) = k) (h : ¬ b = c) : ((b.toNat : Int) == k) = false := by
  rw [← hk, beq_byte]; exact beq_eq_false_iff_ne.2 h
theorem toNat_of {b : UInt8} {k : Int} (c : UInt8) (hk : (c.toNat : Int) = k) (h : b = c) : (b.toNat : Int) = k := by rw [h, hk]
theorem ret_two {a b c d : Int} (h : a = b) (h2 : c = d) : Ending.returned (.tuple #[.int .u8 a, .int .i64 c]) = .returned (.tuple #[.int .u8 b, .int .i64 d]) := by rw [h, h2]

set_option maxHeartbeats 1000000 in
set_option maxRecDepth 100000 in
theorem escaped_any (w : World) (s : ByteArray) (hs : s.size ≤ 281474976710656) :
    Calls Tryz.prog 94 #[.string s] w fun e w' => e = .returned (.tuple #[.int .u8 ((mnt s.data.toList).1.toNat : Int), .int .i64 ((mnt s.data.toList).2 : Int)]) ∧ Keeps (fun _ => False) w w' := by
  by_cases h0 : s.size = 0
  · have e0 := size0 h0
    subst e0
    go_enter Tryz.func94, Tryz.ntmps94
    go_wp2
    refine bodyPost_ret (v := .tuple #[.int .u8 0, .int .i64 0]) (by simp [results, Tryz.results94, go_sem]) rfl ?_
    exact ⟨rfl, Keeps.refl _ _⟩
  · have h1 : 0 < s.size := by omega
    have j1 : (0 : Int) < (s.size : Int) := by omega
    have hne : s.toList.isEmpty = false := by
      cases hl : s.toList with
      | nil => exact absurd (empty_iff.1 hl) h0
      | cons _ _ => rfl
    have hd : s.data.toList = s[0] :: s.data.toList.drop 1 := by
      have hl : 0 < s.data.toList.length := by rw [← size_len]; exact h1
      have := drop_cons hl
      rw [List.drop_zero] at this
      rw [this, byte_getD s 0 h1]
      simp
    have h16 := byDigits_any w s hs
    by_cases c34 : s[0] = 34
    · have e : mnt s.data.toList = (34, 1) := by rw [hd, mnt_cons, if_pos c34]
      have k34 := by_yes (k := 34) 34 rfl c34
      have ev := toNat_of (k := 34) 34 rfl c34
      rw [e]
      clear h16 e hd c34
      go_enter Tryz.func94, Tryz.ntmps94
      go_wp2
      refine bodyPost_ret (v := .tuple #[.int .u8 34, .int .i64 1]) (by simp [results, Tryz.results94, go_sem]) rfl ?_
      exact ⟨rfl, Keeps.refl _ _⟩
    · have k34 := by_no (k := 34) 34 rfl c34
      by_cases c92 : s[0] = 92
      · have e : mnt s.data.toList = (92, 1) := by rw [hd, mnt_cons, if_neg c34, if_pos c92]
        have k92 := by_yes (k := 92) 92 rfl c92
        have ev := toNat_of (k := 92) 92 rfl c92
        rw [e]
        clear h16 e hd c34 c92 k34
        go_enter Tryz.func94, Tryz.ntmps94
        go_wp2
        refine bodyPost_ret (v := .tuple #[.int .u8 92, .int .i64 1]) (by simp [results, Tryz.results94, go_sem]) rfl ?_
        exact ⟨rfl, Keeps.refl _ _⟩
      · have k92 := by_no (k := 92) 92 rfl c92
        by_cases c110 : s[0] = 110
        · have e : mnt s.data.toList = (10, 1) := by rw [hd, mnt_cons, if_neg c34, if_neg c92, if_pos c110]
          have k110 := by_yes (k := 110) 110 rfl c110
          rw [e]
          clear h16 e hd c34 c92 c110
          go_enter Tryz.func94, Tryz.ntmps94
          go_wp2
          refine bodyPost_ret (v := .tuple #[.int .u8 10, .int .i64 1]) (by simp [results, Tryz.results94, go_sem]) rfl ?_
          exact ⟨rfl, Keeps.refl _ _⟩
        · have k110 := by_no (k := 110) 110 rfl c110
          by_cases c120 : s[0] = 120
          · have e : mnt s.data.toList = xd (s.data.toList.drop 1) := by
              rw [hd, mnt_cons, if_neg c34, if_neg c92, if_neg c110, if_pos c120]; simp
            have k120 := by_yes (k := 120) 120 rfl c120
            rw [e]
            clear e hd c34 c92 c110 c120
            go_enter Tryz.func94, Tryz.ntmps94
            go_wp2_with (first | (go_at_call 107; refine h16.mono ?_; clear h16; rintro e w1 ⟨rfl, hk⟩))
            refine bodyPost_ret (v := .tuple #[.int .u8 ((xd (s.data.toList.drop 1)).1.toNat : Int), .int .i64 ((xd (s.data.toList.drop 1)).2 : Int)]) (by simp [results, Tryz.results94, go_sem]) rfl ?_
            exact ⟨rfl, hk⟩
          · have k120 := by_no (k := 120) 120 rfl c120
            have e : mnt s.data.toList = (0, 0) := by
              rw [hd, mnt_cons, if_neg c34, if_neg c92, if_neg c110, if_neg c120]
            rw [e]
            clear e hd c34 c92 c110 c120 h16
            go_enter Tryz.func94, Tryz.ntmps94
            go_wp2
            refine bodyPost_ret (v := .tuple #[.int .u8 0, .int .i64 0]) (by simp [results, Tryz.results94, go_sem]) rfl ?_
            exact ⟨rfl, Keeps.refl _ _⟩
end Go.Proofs.YtdlhdompemkjfaaGreatDoor
