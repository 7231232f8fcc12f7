import Derived.Test.YtngoifbflpeapacGreatDoorA2
namespace Go.Proofs.YtngoifbflpeapacGreatDoor
open Go.RowKit Go.Maps
set_option maxRecDepth 100000

def dgB : ByteArray := ⟨#[48, 49, 50, 51, 52, 53, 54, 55, 56, 57, 97, 98, 99, 100, 101, 102]⟩
theorem index_hx (b : UInt8) (w : World) : Calls Tryz.prog 84 #[.string dgB, .int .u8 (b.toNat : Int)] w fun e w' => e = .returned (.int .i64 (hxI b)) ∧ w' = w := by
  have h := index dgB (b.toNat : Int) w
  have e1 : ((b.toNat : Int)).toNat.toUInt8 = b := by simp
  rw [e1] at h
  have e2 : Lib.indexByte dgB.data.toList b = hxI b := index_dgs b
  rw [e2] at h
  exact h

theorem bits_or : ∀ a : Nat, a < 16 → ∀ b : Nat, b < 16 → bits .or .i64 ((a : Int) * 16) (b : Int) % 256 = ((16 * a + b : Nat) : Int) := by decide +kernel
theorem ofNat_small {n : Nat} (h : n < 256) : (UInt8.ofNat n).toNat = n := by simp; omega
theorem hxI_cases (b : UInt8) : (hx b < 16 ∧ hxI b = (hx b : Int)) ∨ (¬ hx b < 16 ∧ hxI b = -1) := by
  unfold hxI; split
  · rename_i h; exact Or.inl ⟨h, rfl⟩
  · rename_i h; exact Or.inr ⟨h, rfl⟩

set_option maxHeartbeats 1000000 in
set_option maxRecDepth 100000 in
theorem byDigits_any (w : World) (s : ByteArray) (hs : s.size ≤ 281474976710656) :
    Calls Tryz.prog 98 #[.string s] w fun e w' => e = .returned (.tuple #[.int .u8 ((xd (s.data.toList.drop 1)).1.toNat : Int), .int .i64 ((xd (s.data.toList.drop 1)).2 : Int)]) ∧ Keeps (fun _ => False) w w' := by
  by_cases h3 : s.size < 3
  · have h3' : (s.size : Int) < 3 := by omega
    have e : xd (s.data.toList.drop 1) = (0, 0) := by
      rw [size_len] at h3
      generalize s.data.toList = l at h3 ⊢
      match l with
      | [] => rfl
      | [_] => rfl
      | [_, _] => rfl
      | _ :: _ :: _ :: _ => simp only [List.length_cons] at h3; omega
    rw [e]
    clear h3 e
    go_enter Tryz.func98, Tryz.ntmps98
    go_wp2
    refine bodyPost_ret (v := .tuple #[.int .u8 0, .int .i64 0]) (by simp [results, Tryz.results98, go_sem]) rfl ?_
    exact ⟨rfl, Keeps.refl _ _⟩
  · have h3' : ¬ (s.size : Int) < 3 := by omega
    have h1 : 1 < s.size := by omega
    have h2 : 2 < s.size := by omega
    have j1 : (1 : Int) < (s.size : Int) := by omega
    have j2 : (2 : Int) < (s.size : Int) := by omega
    have e : xd (s.data.toList.drop 1) = if hx s[1] < 16 ∧ hx s[2] < 16 then (UInt8.ofNat (16 * hx s[1] + hx s[2]), 3) else (0, 0) := by
      have hl : 2 < s.data.toList.length := by rw [← size_len]; exact h2
      rw [drop_cons (by omega : 1 < s.data.toList.length), drop_cons (by omega : 1 + 1 < s.data.toList.length), byte_getD s 1 h1, byte_getD s 2 h2]
      rfl
    have i18 := index_hx
    unfold dgB at i18
    rcases hxI_cases s[1] with ⟨g1, e1⟩ | ⟨g1, e1⟩
    · rcases hxI_cases s[2] with ⟨g2, e2⟩ | ⟨g2, e2⟩
      · have hor := bits_or (hx s[1]) g1 (hx s[2]) g2
        rw [if_pos ⟨g1, g2⟩] at e
        rw [e, ofNat_small (by omega)]
        have HO := Hid.mk' hor
        clear e hor
        go_enter Tryz.func98, Tryz.ntmps98
        go_wp2
        go_quiet (first | (go_at_call 84; exact Calls.quiet_of_same (i18 _ _)))
        all_goals go_wp2
        all_goals (refine bodyPost_ret (v := .tuple #[.int .u8 (bits .or .i64 ((hx s[1] : Int) * 16) (hx s[2] : Int) % 256), .int .i64 3]) (by simp [results, Tryz.results98, go_sem]) rfl ?_)
        all_goals exact ⟨by rw [HO.out]; rfl, Keeps.drewN _ w _⟩
      · rw [if_neg (fun h => g2 h.2)] at e
        rw [e]
        clear e
        go_enter Tryz.func98, Tryz.ntmps98
        go_wp2
        go_quiet (first | (go_at_call 84; exact Calls.quiet_of_same (i18 _ _)))
        all_goals go_wp2
        all_goals (refine bodyPost_ret (v := .tuple #[.int .u8 0, .int .i64 0]) (by simp [results, Tryz.results98, go_sem]) rfl ?_)
        all_goals exact ⟨rfl, Keeps.drewN _ w _⟩
    · rw [if_neg (fun h => g1 h.1)] at e
      rw [e]
      clear e
      rcases hxI_cases s[2] with ⟨g2, e2⟩ | ⟨g2, e2⟩
      all_goals
        go_enter Tryz.func98, Tryz.ntmps98
        go_wp2
        go_quiet (first | (go_at_call 84; exact Calls.quiet_of_same (i18 _ _)))
      all_goals go_wp2
      all_goals (refine bodyPost_ret (v := .tuple #[.int .u8 0, .int .i64 0]) (by simp [results, Tryz.results98, go_sem]) rfl ?_)
      all_goals exact ⟨rfl, Keeps.drewN _ w _⟩

theorem mnt_cons (b : UInt8) (r : Bs) : mnt (b :: r) = if b = 34 then (34, 1) else if b = 92 then (92, 1) else if b = 110 then (10, 1) else if b = 120 then xd r else (0, 0) := rfl
theorem by_yes {b : UInt8} {k : Int} (c : UInt8) (hk : (c.toNat : Int) = k) (h : b = c) : ((b.toNat : Int) == k) = true := by
  rw [← hk, h]; exact beq_iff_eq.2 rfl
theorem by_no {b : UInt8} {k : Int} (c : UInt8) (hk : (c.toNat : Int) = k) (h : ¬ b = c) : ((b.toNat : Int) == k) = false := by
  rw [← hk, beq_byte]; exact beq_eq_false_iff_ne.2 h
theorem toNat_of {b : UInt8} {k : Int} (c : UInt8) (hk : (c.toNat : Int) = k) (h : b = c) : (b.toNat : Int) = k := by rw [h, hk]
theorem ret_two {a b c d : Int} (h : a = b) (h2 : c = d) : Ending.returned (.tuple #[.int .u8 a, .int .i64 c]) = .returned (.tuple #[.int .u8 b, .int .i64 d]) := by rw [h, h2]

set_option maxHeartbeats 1000000 in
set_option maxRecDepth 100000 in
theorem escaped_any (w : World) (s : ByteArray) (hs : s.size ≤ 281474976710656) :
    Calls Tryz.prog 85 #[.string s] w fun e w' => e = .returned (.tuple #[.int .u8 ((mnt s.data.toList).1.toNat : Int), .int .i64 ((mnt s.data.toList).2 : Int)]) ∧ Keeps (fun _ => False) w w' := by
  by_cases h0 : s.size = 0
  · have e0 := size0 h0
    subst e0
    go_enter Tryz.func85, Tryz.ntmps85
    go_wp2
    refine bodyPost_ret (v := .tuple #[.int .u8 0, .int .i64 0]) (by simp [results, Tryz.results85, go_sem]) rfl ?_
    exact ⟨rfl, Keeps.refl _ _⟩
  · have h1 : 0 < s.size := by omega
    have j1 : (0 : Int) < (s.size : Int) := by omega
    have hne : s.toList.isEmpty = false := by
      cases hl : s.toList with
      | nil => exact absurd (empty_iff.1 hl) h0
      | cons _ _ => rfl
    have hd : s.data.toList = s[0] :: s.data.toList.drop 1 := by
      have hl : 0 < s.data.toList.length := by rw [← size_len]; exact h1
      have := drop_cons hl
      rw [List.drop_zero] at this
      rw [this, byte_getD s 0 h1]
      simp
    have h16 := byDigits_any w s hs
    by_cases c34 : s[0] = 34
    · have e : mnt s.data.toList = (34, 1) := by rw [hd, mnt_cons, if_pos c34]
      have k34 := by_yes (k := 34) 34 rfl c34
      have ev := toNat_of (k := 34) 34 rfl c34
      rw [e]
      clear h16 e hd c34
      go_enter Tryz.func85, Tryz.ntmps85
      go_wp2
      refine bodyPost_ret (v := .tuple #[.int .u8 34, .int .i64 1]) (by simp [results, Tryz.results85, go_sem]) rfl ?_
      exact ⟨rfl, Keeps.refl _ _⟩
    · have k34 := by_no (k := 34) 34 rfl c34
      by_cases c92 : s[0] = 92
      · have e : mnt s.data.toList = (92, 1) := by rw [hd, mnt_cons, if_neg c34, if_pos c92]
        have k92 := by_yes (k := 92) 92 rfl c92
        have ev := toNat_of (k := 92) 92 rfl c92
        rw [e]
        clear h16 e hd c34 c92 k34
        go_enter Tryz.func85, Tryz.ntmps85
        go_wp2
        refine bodyPost_ret (v := .tuple #[.int .u8 92, .int .i64 1]) (by simp [results, Tryz.results85, go_sem]) rfl ?_
        exact ⟨rfl, Keeps.refl _ _⟩
      · have k92 := by_no (k := 92) 92 rfl c92
        by_cases c110 : s[0] = 110
        · have e : mnt s.data.toList = (10, 1) := by rw [hd, mnt_cons, if_neg c34, if_neg c92, if_pos c110]
          have k110 := by_yes (k := 110) 110 rfl c110
          rw [e]
          clear h16 e hd c34 c92 c110
          go_enter Tryz.func85, Tryz.ntmps85
          go_wp2
          refine bodyPost_ret (v := .tuple #[.int .u8 10, .int .i64 1]) (by simp [results, Tryz.results85, go_sem]) rfl ?_
          exact ⟨rfl, Keeps.refl _ _⟩
        · have k110 := by_no (k := 110) 110 rfl c110
          by_cases c120 : s[0] = 120
          · have e : mnt s.data.toList = xd (s.data.toList.drop 1) := by
              rw [hd, mnt_cons, if_neg c34, if_neg c92, if_neg c110, if_pos c120]; simp
            have k120 := by_yes (k := 120) 120 rfl c120
            rw [e]
            clear e hd c34 c92 c110 c120
            go_enter Tryz.func85, Tryz.ntmps85
            go_wp2_with (first | (go_at_call 98; refine h16.mono ?_; clear h16; rintro e w1 ⟨rfl, hk⟩))
            refine bodyPost_ret (v := .tuple #[.int .u8 ((xd (s.data.toList.drop 1)).1.toNat : Int), .int .i64 ((xd (s.data.toList.drop 1)).2 : Int)]) (by simp [results, Tryz.results85, go_sem]) rfl ?_
            exact ⟨rfl, hk⟩
          · have k120 := by_no (k := 120) 120 rfl c120
            have e : mnt s.data.toList = (0, 0) := by
              rw [hd, mnt_cons, if_neg c34, if_neg c92, if_neg c110, if_neg c120]
            rw [e]
            clear e hd c34 c92 c110 c120 h16
            go_enter Tryz.func85, Tryz.ntmps85
            go_wp2
            refine bodyPost_ret (v := .tuple #[.int .u8 0, .int .i64 0]) (by simp [results, Tryz.results85, go_sem]) rfl ?_
            exact ⟨rfl, Keeps.refl _ _⟩
end Go.Proofs.YtngoifbflpeapacGreatDoor

