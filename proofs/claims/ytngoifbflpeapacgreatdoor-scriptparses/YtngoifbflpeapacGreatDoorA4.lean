import Derived.Test.YtngoifbflpeapacGreatDoorA3
namespace Go.Proofs.YtngoifbflpeapacGreatDoor
open Go.RowKit Go.Maps
set_option maxRecDepth 100000

theorem unt_cons {b c : UInt8} {r : Bs} (hb : b = 92) : unt b (c :: r) = if c = 34 then (34, 2) else if c = 92 then (92, 2) else if c = 110 then (10, 2) else if c = 120 then (if (xd r).2 = 0 then (0, 0) else ((xd r).1, (xd r).2 + 1)) else (0, 0) := by
  subst hb
  unfold unt
  rw [if_neg (by decide), if_pos rfl, mnt_cons]
  split
  · rfl
  split
  · rfl
  split
  · rfl
  split
  · rfl
  · rfl
theorem unt_none {b : UInt8} {r : Bs} (h1 : pln b = false) (h2 : ¬ b = 92) : unt b r = (0, 0) := by
  unfold unt
  rw [if_neg, if_neg h2]
  have : (prt b && (b != 34) && (b != 92)) = pln b := rfl
  rw [this, h1]; decide
theorem unt_self {b : UInt8} {r : Bs} (h1 : pln b = true) : unt b r = (b, 1) := by
  unfold unt
  have : (prt b && (b != 34) && (b != 92)) = pln b := rfl
  rw [this, if_pos h1]
theorem pln_92 {b : UInt8} (h : b = 92) : pln b = false := by subst h; decide
theorem xd_short {r : Bs} (h : r.length < 2) : xd r = (0, 0) := by
  match r with
  | [] => rfl
  | [_] => rfl
  | _ :: _ :: _ => simp only [List.length_cons] at h; omega
theorem by_ne {b : UInt8} {k : Int} (c : UInt8) (hk : (c.toNat : Int) = k) (h : ¬ b = c) : ((b.toNat : Int) != k) = true := by
  have := by_no c hk h
  rw [bne, this]; rfl
theorem by_nn {b : UInt8} {k : Int} (c : UInt8) (hk : (c.toNat : Int) = k) (h : b = c) : ((b.toNat : Int) != k) = false := by
  have := by_yes c hk h
  rw [bne, this]; rfl

set_option maxHeartbeats 8000000 in
set_option maxRecDepth 100000 in
theorem unit_any (w : World) (s : ByteArray) (k : Nat) (hk : k < s.size) (hs : s.size ≤ 281474976710656) :
    Calls Tryz.prog 87 #[.string s, .int .i64 (k : Int)] w fun e w' => e = .returned (.tuple #[.int .u8 ((unt s[k] (s.data.toList.drop (k + 1))).1.toNat : Int), .int .i64 ((unt s[k] (s.data.toList.drop (k + 1))).2 : Int)]) ∧ Keeps (fun _ => False) w w' := by
  have jk : (k : Int) < (s.size : Int) := by omega
  have h14 := plain_any w s[k]
  cases hp : pln s[k] with
  | true =>
    rw [hp] at h14
    rw [unt_self hp]
    clear hp
    go_enter Tryz.func87, Tryz.ntmps87
    go_wp2_with (first | (go_at_call 99; refine h14.mono ?_; clear h14; rintro e w1 ⟨rfl, hw1⟩; subst w1))
    refine bodyPost_ret (v := .tuple #[.int .u8 (s[k].toNat : Int), .int .i64 1]) (by simp [results, Tryz.results87, go_sem]) rfl ?_
    exact ⟨rfl, Keeps.refl _ _⟩
  | false =>
    rw [hp] at h14
    by_cases c92 : s[k] = 92
    · have k92 := by_nn (k := 92) 92 rfl c92
      clear hp
      by_cases h1 : k + 1 < s.size
      · have j1 : (k : Int) + 1 < (s.size : Int) := by omega
        have hd : s.data.toList.drop (k + 1) = s[k + 1] :: s.data.toList.drop (k + 2) := by
          rw [drop_cons (by rw [← size_len]; exact h1), byte_getD s (k + 1) h1]
        rw [hd, unt_cons c92]
        clear hd c92
        by_cases c34 : s[k + 1] = 34
        · have k34 := by_yes (k := 34) 34 rfl c34
          rw [if_pos c34]
          clear c34
          go_enter Tryz.func87, Tryz.ntmps87
          go_wp2_with (first | (go_at_call 99; refine h14.mono ?_; clear h14; rintro e w1 ⟨rfl, hw1⟩; subst w1))
          refine bodyPost_ret (v := .tuple #[.int .u8 34, .int .i64 2]) (by simp [results, Tryz.results87, go_sem]) rfl ?_
          exact ⟨rfl, Keeps.refl _ _⟩
        · have k34 := by_no (k := 34) 34 rfl c34
          rw [if_neg c34]
          clear c34
          by_cases c92 : s[k + 1] = 92
          · have l92 := by_yes (k := 92) 92 rfl c92
            rw [if_pos c92]
            clear c92
            go_enter Tryz.func87, Tryz.ntmps87
            go_wp2_with (first | (go_at_call 99; refine h14.mono ?_; clear h14; rintro e w1 ⟨rfl, hw1⟩; subst w1))
            refine bodyPost_ret (v := .tuple #[.int .u8 92, .int .i64 2]) (by simp [results, Tryz.results87, go_sem]) rfl ?_
            exact ⟨rfl, Keeps.refl _ _⟩
          · have l92 := by_no (k := 92) 92 rfl c92
            rw [if_neg c92]
            clear c92
            by_cases c110 : s[k + 1] = 110
            · have l110 := by_yes (k := 110) 110 rfl c110
              rw [if_pos c110]
              clear c110
              go_enter Tryz.func87, Tryz.ntmps87
              go_wp2_with (first | (go_at_call 99; refine h14.mono ?_; clear h14; rintro e w1 ⟨rfl, hw1⟩; subst w1))
              refine bodyPost_ret (v := .tuple #[.int .u8 10, .int .i64 2]) (by simp [results, Tryz.results87, go_sem]) rfl ?_
              exact ⟨rfl, Keeps.refl _ _⟩
            · have l110 := by_no (k := 110) 110 rfl c110
              rw [if_neg c110]
              clear c110
              by_cases c120 : s[k + 1] = 120
              · have l120 := by_nn (k := 120) 120 rfl c120
                rw [if_pos c120]
                clear c120
                by_cases h3 : k + 3 < s.size
                · have j3 : (k : Int) + 3 < (s.size : Int) := by omega
                  have j2 : (k : Int) + 2 < (s.size : Int) := by omega
                  have h2 : k + 2 < s.size := by omega
                  have hx2 : xd (s.data.toList.drop (k + 2)) = if hx s[k + 2] < 16 ∧ hx s[k + 3] < 16 then (UInt8.ofNat (16 * hx s[k + 2] + hx s[k + 3]), 3) else (0, 0) := by
                    rw [drop_cons (by rw [← size_len]; exact h2), drop_cons (t := s.data.toList) (j := k + 2 + 1) (by rw [← size_len]; exact h3), byte_getD s (k + 2) h2, byte_getD s (k + 3) h3]
                    rfl
                  have h17 := hex_any w s[k + 2]
                  have h17' := hex_any w s[k + 3]
                  rcases hxI_cases s[k + 2] with ⟨g1, e1⟩ | ⟨g1, e1⟩
                  · rcases hxI_cases s[k + 3] with ⟨g2, e2⟩ | ⟨g2, e2⟩
                    · rw [if_pos ⟨g1, g2⟩] at hx2
                      rw [hx2, if_neg (by simp)]
                      rw [e1] at h17
                      rw [e2] at h17'
                      clear hx2 e1 e2
                      go_enter Tryz.func87, Tryz.ntmps87
                      go_wp2_with (first
                        | (go_at_call 99; refine h14.mono ?_; clear h14; rintro e w1 ⟨rfl, hw1⟩; subst w1)
                        | (go_at_call 100; refine h17.mono ?_; clear h17; rintro e w1 ⟨rfl, hw1⟩; subst w1)
                        | (go_at_call 100; refine h17'.mono ?_; clear h17'; rintro e w1 ⟨rfl, hw1⟩; subst w1))
                      refine bodyPost_ret (v := .tuple #[.int .u8 (16 * (hx s[k + 2] : Int) + (hx s[k + 3] : Int)), .int .i64 4]) (by simp [results, Tryz.results87, go_sem]) rfl ?_
                      exact ⟨ret_two (by rw [ofNat_small (by omega)]; omega) rfl, Keeps.refl _ _⟩
                    · rw [if_neg (fun h => g2 h.2)] at hx2
                      rw [hx2, if_pos rfl]
                      rw [e1] at h17
                      rw [e2] at h17'
                      clear hx2 e1 e2
                      go_enter Tryz.func87, Tryz.ntmps87
                      go_wp2_with (first
                        | (go_at_call 99; refine h14.mono ?_; clear h14; rintro e w1 ⟨rfl, hw1⟩; subst w1)
                        | (go_at_call 100; refine h17.mono ?_; clear h17; rintro e w1 ⟨rfl, hw1⟩; subst w1)
                        | (go_at_call 100; refine h17'.mono ?_; clear h17'; rintro e w1 ⟨rfl, hw1⟩; subst w1))
                      refine bodyPost_ret (v := .tuple #[.int .u8 0, .int .i64 0]) (by simp [results, Tryz.results87, go_sem]) rfl ?_
                      exact ⟨rfl, Keeps.refl _ _⟩
                  · rw [if_neg (fun h => g1 h.1)] at hx2
                    rw [hx2, if_pos rfl]
                    rw [e1] at h17
                    clear hx2 e1
                    rcases hxI_cases s[k + 3] with ⟨g2, e2⟩ | ⟨g2, e2⟩
                    all_goals
                      rw [e2] at h17'
                      clear e2
                      go_enter Tryz.func87, Tryz.ntmps87
                      go_wp2_with (first
                        | (go_at_call 99; refine h14.mono ?_; clear h14; rintro e w1 ⟨rfl, hw1⟩; subst w1)
                        | (go_at_call 100; refine h17.mono ?_; clear h17; rintro e w1 ⟨rfl, hw1⟩; subst w1)
                        | (go_at_call 100; refine h17'.mono ?_; clear h17'; rintro e w1 ⟨rfl, hw1⟩; subst w1))
                      refine bodyPost_ret (v := .tuple #[.int .u8 0, .int .i64 0]) (by simp [results, Tryz.results87, go_sem]) rfl ?_
                      exact ⟨rfl, Keeps.refl _ _⟩
                · have j3 : ¬ (k : Int) + 3 < (s.size : Int) := by omega
                  have hx2 : xd (s.data.toList.drop (k + 2)) = (0, 0) := xd_short (by rw [List.length_drop, ← size_len]; omega)
                  rw [hx2, if_pos rfl]
                  clear hx2
                  go_enter Tryz.func87, Tryz.ntmps87
                  go_wp2_with (first | (go_at_call 99; refine h14.mono ?_; clear h14; rintro e w1 ⟨rfl, hw1⟩; subst w1))
                  refine bodyPost_ret (v := .tuple #[.int .u8 0, .int .i64 0]) (by simp [results, Tryz.results87, go_sem]) rfl ?_
                  exact ⟨rfl, Keeps.refl _ _⟩
              · have l120 := by_ne (k := 120) 120 rfl c120
                rw [if_neg c120]
                clear c120
                go_enter Tryz.func87, Tryz.ntmps87
                go_wp2_with (first | (go_at_call 99; refine h14.mono ?_; clear h14; rintro e w1 ⟨rfl, hw1⟩; subst w1))
                refine bodyPost_ret (v := .tuple #[.int .u8 0, .int .i64 0]) (by simp [results, Tryz.results87, go_sem]) rfl ?_
                exact ⟨rfl, Keeps.refl _ _⟩
      · have j1 : ¬ (k : Int) + 1 < (s.size : Int) := by omega
        rw [List.drop_of_length_le (by rw [← size_len]; omega), c92, unt_bad (r := []) rfl]
        clear c92
        go_enter Tryz.func87, Tryz.ntmps87
        go_wp2_with (first | (go_at_call 99; refine h14.mono ?_; clear h14; rintro e w1 ⟨rfl, hw1⟩; subst w1))
        refine bodyPost_ret (v := .tuple #[.int .u8 0, .int .i64 0]) (by simp [results, Tryz.results87, go_sem]) rfl ?_
        exact ⟨rfl, Keeps.refl _ _⟩
    · have k92 := by_ne (k := 92) 92 rfl c92
      rw [unt_none hp c92]
      clear hp c92
      go_enter Tryz.func87, Tryz.ntmps87
      go_wp2_with (first | (go_at_call 99; refine h14.mono ?_; clear h14; rintro e w1 ⟨rfl, hw1⟩; subst w1))
      refine bodyPost_ret (v := .tuple #[.int .u8 0, .int .i64 0]) (by simp [results, Tryz.results87, go_sem]) rfl ?_
      exact ⟨rfl, Keeps.refl _ _⟩
end Go.Proofs.YtngoifbflpeapacGreatDoor

