import Derived.Test.YtdlhdompemkjfaaGreatDoorK01
import Derived.Test.YtdlhdompemkjfaaGreatDoorK02
namespace Go.Proofs.YtdlhdompemkjfaaGreatDoor
open Go.RowKit Go.Maps
set_option maxRecDepth 100000

theorem unt_cons {b c : UInt8} {r : Bs} (hb : b = 92) : unt b (c :: r) = if c = 34 then (34, 2) else if c = 92 then (92, 2) else if c = 110 then (10, 2) else if c = 120 then (if (xd r).2 = 0 then (0, 0) else ((xd r).1, (xd r).2 + 1)) else (0, 0) := by
  subst hb
  unfold unt
  rw [if_neg (by decide), if_pos rfl, mnt_cons]
  split
  · rfl
  split
  · rfl
  split
  · rfl
  split
  · rfl
  · rfl
theorem unt_none {b : UInt8} {r : Bs} (h1 : pln b = false) (h2 : ¬ b = 92) : unt b r = (0, 0) := by
  unfold unt
  rw [if_neg, if_neg h2]
  have : (prt b && (b != 34) && (b != 92)) = pln b := rfl
  rw [this, h1]; decide
theorem unt_self {b : UInt8} {r : Bs} (h1 : pln b = true) : unt b r = (b, 1) := by
  unfold unt
  have : (prt b && (b != 34) && (b != 92)) = pln b := rfl
  rw [this, if_pos h1]
theorem pln_92 {b : UInt8} (h : b = 92) : pln b = false := by subst h; decide
theorem xd_short {r : Bs} (h : r.length < 2) : xd r = (0, 0) := by
  match r with
  | [] => rfl
  | [_] => rfl
  | _ :: _ :: _ => simp only [List.length_cons] at h; omega
theorem by_ne {b : UInt8} {k : Int} (c : UInt8) (hk : (c.toNat : Int) = k) (h : ¬ b = c) : ((b.toNat : Int) != k) = true := by
  have := by_no c hk h
  rw [bne, this]; rfl
theorem by_nn {b : UInt8} {k : Int} (c : UInt8) (hk : (c.toNat : Int) = k) (h : b = c) : ((b.toNat : Int) != k) = false := by
  have := by_yes c hk h
  rw [bne, this]; rfl

set_option maxHeartbeats 8000000 in
set_option maxRecDepth 100000 in
theorem unit_any (w : World) (s : ByteArray) (k : Nat) (hk : k < s.size) (hs : s.size ≤ 281474976710656) :
    Calls Tryz.prog 86 #[.string s, .int .i64 (k : Int)] w fun e w' => e = .returned (.tuple #[.int .u8 ((unt s[k] (s.data.toList.drop (k + 1))).1.toNat : Int), .int .i64 ((unt s[k] (s.data.toList.drop (k + 1))).2 : Int)]) ∧ Keeps (fun _ => False) w w' := by
  have jk : (k : Int) < (s.size : Int) := by omega
  have h14 := plain_any w s[k]
  cases hp : pln s[k] with
  | true =>
    rw [hp] at h14
    rw [unt_self hp]
    clear hp
    go_enter Tryz.func86, Tryz.ntmps86
    go_wp2_with (first | (go_at_call 84; refine h14.mono ?_; clear h14; rintro e w1 ⟨rfl, hw1⟩; subst w1))
    refine bodyPost_ret (v := .tuple #[.int .u8 (s[k].toNat : Int), .int .i64 1]) (by simp [results, Tryz.results86, go_sem]) rfl ?_
    exact ⟨rfl, Keeps.refl _ _⟩
  | false =>
    rw [hp] at h14
    by_cases c92 : s[k] = 92
    · have k92 := by_nn (k := 92) 92 rfl c92
      clear hp
      by_cases h1 : k + 1 < s.size
      · have j1 : (k : Int) + 1 < (s.size : Int) := by omega
        have hd : s.data.toList.drop (k + 1) = s[k + 1] :: s.data.toList.drop (k + 2) := by
          rw [drop_cons (by rw [← size_len]; exact h1), byte_getD s (k + 1) h1]
        rw [hd, unt_cons c92]
        clear hd c92
        by_cases c34 : s[k + 1] = 34
        · have k34 := by_yes (k := 34) 34 rfl c34
          rw [if_pos c34]
          clear c34
          go_enter Tryz.func86, Tryz.ntmps86
          go_wp2_with (first | (go_at_call 84; refine h14.mono ?_; clear h14; rintro e w1 ⟨rfl, hw1⟩; subst w1))
          refine bodyPost_ret (v := .tuple #[.int .u8 34, .int .i64 2]) (by simp [results, Tryz.results86, go_sem]) rfl ?_
          exact ⟨rfl, Keeps.refl _ _⟩
        · have k34 := by_no (k := 34) 34 rfl c34
          rw [if_neg c34]
          clear c34
          by_cases c92 : s[k + 1] = 92
          · have l92 := by_yes (k := 92) 92 rfl c92
            rw [if_pos c92]
            clear c92
            go_enter Tryz.func86, Tryz.ntmps86
            go_wp2_with (first | (go_at_call 84; refine h14.mono ?_; clear h14; rintro e w1 ⟨rfl, hw1⟩; subst w1))
            refine bodyPost_ret (v := .tuple #[.int .u8 92, .int .i64 2]) (by simp [results, Tryz.results86, go_sem]) rfl ?_
            exact ⟨rfl, Keeps.refl _ _⟩
          · have l92 := by_no (k := 92) 92 rfl c92
            rw [if_neg c92]
            clear c92
            by_cases c110 : s[k + 1] = 110
            · have l110 := by_yes (k := 110) 110 rfl c110
              rw [if_pos c110]
              clear c110
              go_enter Tryz.func86, Tryz.ntmps86
              go_wp2_with (first | (go_at_call 84; refine h14.mono ?_; clear h14; rintro e w1 ⟨rfl, hw1⟩; subst w1))
              refine bodyPost_ret (v := .tuple #[.int .u8 10, .int .i64 2]) (by simp [results, Tryz.results86, go_sem]) rfl ?_
              exact ⟨rfl, Keeps.refl _ _⟩
            · have l110 := by_no (k := 110) 110 rfl c110
              rw [if_neg c110]
              clear c110
              by_cases c120 : s[k + 1] = 120
              · have l120 := by_nn (k := 120) 120 rfl c120
                rw [if_pos c120]
                clear c120
                by_cases h3 : k + 3 < s.size
                · have j3 : (k : Int) + 3 < (s.size : Int) := by omega
                  have j2 : (k : Int) + 2 < (s.size : Int) := by omega
                  have h2 : k + 2 < s.size := by omega
                  have hx2 : xd (s.data.toList.drop (k + 2)) = if hx s[k + 2] < 16 ∧ hx s[k + 3] < 16 then (UInt8.ofNat (16 * hx s[k + 2] + hx s[k + 3]), 3) else (0, 0) := by
                    rw [drop_cons (by rw [← size_len]; exact h2), drop_cons (t := s.data.toList) (j := k + 2 + 1) (by rw [← size_len]; exact h3), byte_getD s (k + 2) h2, byte_getD s (k + 3) h3]
                    rfl
                  have h17 := hex_any w s[k + 2]
                  have h17' := hex_any w s[k + 3]
                  rcases hxI_cases s[k + 2] with ⟨g1, e1⟩ | ⟨g1, e1⟩
                  · rcases hxI_cases s[k + 3] with ⟨g2, e2⟩ | ⟨g2, e2⟩
                    · rw [if_pos ⟨g1, g2⟩] at hx2
                      rw [hx2, if_neg (by simp)]
                      rw [e1] at h17
                      rw [e2] at h17'
                      clear hx2 e1 e2
                      go_enter Tryz.func86, Tryz.ntmps86
                      go_wp2_with (first
                        | (go_at_call 84; refine h14.mono ?_; clear h14; rintro e w1 ⟨rfl, hw1⟩; subst w1)
                        | (go_at_call 100; refine h17.mono ?_; clear h17; rintro e w1 ⟨rfl, hw1⟩; subst w1)
                        | (go_at_call 100; refine h17'.mono ?_; clear h17'; rintro e w1 ⟨rfl, hw1⟩; subst w1))
                      refine bodyPost_ret (v := .tuple #[.int .u8 (16 * (hx s[k + 2] : Int) + (hx s[k + 3] : Int)), .int .i64 4]) (by simp [results, Tryz.results86, go_sem]) rfl ?_
                      exact ⟨ret_two (by rw [ofNat_small (by omega)]; omega) rfl, Keeps.refl _ _⟩
                    · rw [if_neg (fun h => g2 h.2)] at hx2
                      rw [hx2, if_pos rfl]
                      rw [e1] at h17
                      rw [e2] at h17'
                      clear hx2 e1 e2
                      go_enter Tryz.func86, Tryz.ntmps86
                      go_wp2_with (first
                        | (go_at_call 84; refine h14.mono ?_; clear h14; rintro e w1 ⟨rfl, hw1⟩; subst w1)
                        | (go_at_call 100; refine h17.mono ?_; clear h17; rintro e w1 ⟨rfl, hw1⟩; subst w1)
                        | (go_at_call 100; refine h17'.mono ?_; clear h17'; rintro e w1 ⟨rfl, hw1⟩; subst w1))
                      refine bodyPost_ret (v := .tuple #[.int .u8 0, .int .i64 0]) (by simp [results, Tryz.results86, go_sem]) rfl ?_
                      exact ⟨rfl, Keeps.refl _ _⟩
                  · rw [if_neg (fun h => g1 h.1)] at hx2
                    rw [hx2, if_pos rfl]
                    rw [e1] at h17
                    clear hx2 e1
                    rcases hxI_cases s[k + 3] with ⟨g2, e2⟩ | ⟨g2, e2⟩
                    all_goals
                      rw [e2] at h17'
                      clear e2
                      go_enter Tryz.func86, Tryz.ntmps86
                      go_wp2_with (first
                        | (go_at_call 84; refine h14.mono ?_; clear h14; rintro e w1 ⟨rfl, hw1⟩; subst w1)
                        | (go_at_call 100; refine h17.mono ?_; clear h17; rintro e w1 ⟨rfl, hw1⟩; subst w1)
                        | (go_at_call 100; refine h17'.mono ?_; clear h17'; rintro e w1 ⟨rfl, hw1⟩; subst w1))
                      refine bodyPost_ret (v := .tuple #[.int .u8 0, .int .i64 0]) (by simp [results, Tryz.results86, go_sem]) rfl ?_
                      exact ⟨rfl, Keeps.refl _ _⟩
                · have j3 : ¬ (k : Int) + 3 < (s.size : Int) := by omega
                  have hx2 : xd (s.data.toList.drop (k + 2)) = (0, 0) := xd_short (by rw [List.length_drop, ← size_len]; omega)
                  rw [hx2, if_pos rfl]
                  clear hx2
                  go_enter Tryz.func86, Tryz.ntmps86
                  go_wp2_with (first | (go_at_call 84; refine h14.mono ?_; clear h14; rintro e w1 ⟨rfl, hw1⟩; subst w1))
                  refine bodyPost_ret (v := .tuple #[.int .u8 0, .int .i64 0]) (by simp [results, Tryz.results86, go_sem]) rfl ?_
                  exact ⟨rfl, Keeps.refl _ _⟩
              · have l120 := by_ne (k := 120) 120 rfl c120
                rw [if_neg c120]
                clear c120
                go_enter Tryz.func86, Tryz.ntmps86
                go_wp2_with (first | (go_at_call 84; refine h14.mono ?_; clear h14; rintro e w1 ⟨rfl, hw1⟩; subst w1))
                refine bodyPost_ret (v := .tuple #[.int .u8 0, .int .i64 0]) (by simp [results, Tryz.results86, go_sem]) rfl ?_
                exact ⟨rfl, Keeps.refl _ _⟩
      · have j1 : ¬ (k : Int) + 1 < (s.size : Int) := by omega
        rw [List.drop_of_length_le (by rw [← size_len]; omega), c92, unt_bad (r := []) rfl]
        clear c92
        go_enter Tryz.func86, Tryz.ntmps86
        go_wp2_with (first | (go_at_call 84; refine h14.mono ?_; clear h14; rintro e w1 ⟨rfl, hw1⟩; subst w1))
        refine bodyPost_ret (v := .tuple #[.int .u8 0, .int .i64 0]) (by simp [results, Tryz.results86, go_sem]) rfl ?_
        exact ⟨rfl, Keeps.refl _ _⟩
    · have k92 := by_ne (k := 92) 92 rfl c92
      rw [unt_none hp c92]
      clear hp c92
      go_enter Tryz.func86, Tryz.ntmps86
      go_wp2_with (first | (go_at_call 84; refine h14.mono ?_; clear h14; rintro e w1 ⟨rfl, hw1⟩; subst w1))
      refine bodyPost_ret (v := .tuple #[.int .u8 0, .int .i64 0]) (by simp [results, Tryz.results86, go_sem]) rfl ?_
      exact ⟨rfl, Keeps.refl _ _⟩
end Go.Proofs.YtdlhdompemkjfaaGreatDoor

namespace Go.Proofs.YtdlhdompemkjfaaGreatDoor
open Go.RowKit Go.Maps
set_option maxRecDepth 100000

theorem xd_le (r : Bs) : (xd r).2 ≤ r.length + 1 := by
  match r with
  | [] => simp [xd]
  | [_] => simp [xd]
  | h :: l :: r =>
    have e : xd (h :: l :: r) = if hx h < 16 ∧ hx l < 16 then (UInt8.ofNat (16 * hx h + hx l), 3) else (0, 0) := rfl
    rw [e]
    split <;> simp
theorem mnt_le (r : Bs) : (mnt r).2 ≤ r.length := by
  match r with
  | [] => simp [mnt]
  | b :: r =>
    rw [mnt_cons]
    have := xd_le r
    split
    · simp
    split
    · simp
    split
    · simp
    split
    · simpa using this
    · simp
/-- What Unquote's loop holds: what is read so far, and the place. -/
def UI (t : Bs) (k : Nat) (acc : Bs) : Prop := 1 ≤ k ∧ k ≤ t.length ∧ acc.length ≤ k ∧ unq acc k (t.drop k) = uq t
theorem uq_start {t : Bs} (h : 0 < t.length) (hb : t.getD 0 0 = 34) : UI t 1 [] := by
  refine ⟨Nat.le_refl _, h, by simp, ?_⟩
  have := drop_cons h
  rw [List.drop_zero, hb] at this
  generalize t.drop (0 + 1) = r at this
  subst this
  show _ = if (34 : UInt8) = 34 then unq [] 1 r else none
  rw [if_pos rfl]
theorem uq_bad {t : Bs} (h : 0 < t.length) (hb : ¬ t.getD 0 0 = 34) : uq t = none := by
  have := drop_cons h
  rw [List.drop_zero] at this
  rw [this]
  show (if t.getD 0 0 = 34 then _ else none) = _
  rw [if_neg hb]
theorem uqT_none {t : Bs} (h : uq t = none) : uqT t = ⟨#[]⟩ ∧ uqN t = 0 ∧ uqE t = 194 := by unfold uqT uqN uqE; rw [h]; exact ⟨rfl, rfl, rfl⟩
theorem uqT_some {t a : Bs} {n : Nat} (h : uq t = some (a, n)) : uqT t = mkB a ∧ uqN t = (n : Int) ∧ uqE t = 0 := by unfold uqT uqN uqE; rw [h]; exact ⟨rfl, rfl, rfl⟩
theorem UI.out {t acc : Bs} {k : Nat} (h : UI t k acc) (hk : ¬ k < t.length) : uq t = none := by
  rw [← h.2.2.2, List.drop_of_length_le (by omega), unq_nil]
theorem UI.fin {t acc : Bs} {k : Nat} (h : UI t k acc) (hk : k < t.length) (hb : t.getD k 0 = 34) : uq t = some (acc, k + 1) := by
  rw [← h.2.2.2, drop_cons hk, hb, unq_end]
theorem UI.esc {t acc : Bs} {k : Nat} (h : UI t k acc) (hk : k < t.length) (hb : t.getD k 0 = 92) (hm : (mnt (t.drop (k + 1))).2 ≠ 0) : UI t (k + 1 + (mnt (t.drop (k + 1))).2) (acc ++ [(mnt (t.drop (k + 1))).1]) := by
  have hle := mnt_le (t.drop (k + 1))
  rw [List.length_drop] at hle
  refine ⟨by omega, by omega, by rw [List.length_append, List.length_singleton]; have := h.2.2.1; omega, ?_⟩
  rw [← h.2.2.2, drop_cons hk, hb, unq_esc _ _ _ hm, List.drop_drop]
theorem UI.bad {t acc : Bs} {k : Nat} (h : UI t k acc) (hk : k < t.length) (hb : t.getD k 0 = 92) (hm : (mnt (t.drop (k + 1))).2 = 0) : uq t = none := by
  rw [← h.2.2.2, drop_cons hk, hb, unq_bad _ _ _ hm]
theorem UI.prt {t acc : Bs} {k : Nat} (h : UI t k acc) (hk : k < t.length) (h1 : ¬ t.getD k 0 = 34) (h2 : ¬ t.getD k 0 = 92) (hp : prt (t.getD k 0) = true) : UI t (k + 1) (acc ++ [t.getD k 0]) := by
  refine ⟨by omega, by omega, by rw [List.length_append, List.length_singleton]; have := h.2.2.1; omega, ?_⟩
  rw [← h.2.2.2, drop_cons hk, unq_prt _ _ _ _ h1 h2 hp]
theorem UI.not {t acc : Bs} {k : Nat} (h : UI t k acc) (hk : k < t.length) (h1 : ¬ t.getD k 0 = 34) (h2 : ¬ t.getD k 0 = 92) (hp : Go.Proofs.YtdlhdompemkjfaaGreatDoor.prt (t.getD k 0) = false) : uq t = none := by
  rw [← h.2.2.2, drop_cons hk, unq_not _ _ _ _ h1 h2 hp]
theorem UI.unt {t acc : Bs} {k : Nat} (h : UI t k acc) (hk : k < t.length) (h1 : ¬ t.getD k 0 = 34) (hn : (Go.Proofs.YtdlhdompemkjfaaGreatDoor.unt (t.getD k 0) (t.drop (k + 1))).2 ≠ 0) : UI t (k + (Go.Proofs.YtdlhdompemkjfaaGreatDoor.unt (t.getD k 0) (t.drop (k + 1))).2) (acc ++ [(Go.Proofs.YtdlhdompemkjfaaGreatDoor.unt (t.getD k 0) (t.drop (k + 1))).1]) := by
  have hle := mnt_le (t.drop (k + 1))
  rw [List.length_drop] at hle
  have hu : (Go.Proofs.YtdlhdompemkjfaaGreatDoor.unt (t.getD k 0) (t.drop (k + 1))).2 ≤ t.length - k := by
    unfold Go.Proofs.YtdlhdompemkjfaaGreatDoor.unt
    split
    · show 1 ≤ _; omega
    split
    · split
      · simp
      · show _ + 1 ≤ _; omega
    · simp
  refine ⟨by omega, by omega, by rw [List.length_append, List.length_singleton]; have := h.2.2.1; omega, ?_⟩
  have e := drop_cons hk
  have e2 := h.2.2.2
  rw [e, unq_unt _ _ _ _ h1, if_neg hn, ← e, List.drop_drop] at e2
  exact e2
theorem UI.unt_bad {t acc : Bs} {k : Nat} (h : UI t k acc) (hk : k < t.length) (h1 : ¬ t.getD k 0 = 34) (hn : (Go.Proofs.YtdlhdompemkjfaaGreatDoor.unt (t.getD k 0) (t.drop (k + 1))).2 = 0) : uq t = none := by
  rw [← h.2.2.2, drop_cons hk, unq_unt _ _ _ _ h1, if_pos hn]
theorem extr_rest (s : ByteArray) (k : Nat) : (s.extract k s.size).data.toList = s.data.toList.drop k := by
  rw [extr, List.take_of_length_le (by rw [List.length_drop, size_len]; exact Nat.le_refl _)]
end Go.Proofs.YtdlhdompemkjfaaGreatDoor

namespace Go.Proofs.YtdlhdompemkjfaaGreatDoor
open Go.RowKit Go.Maps
set_option maxRecDepth 100000

theorem ne_isEmpty {s : ByteArray} (h0 : ¬ s.size = 0) : s.toList.isEmpty = false := by
  cases hl : s.toList with
  | nil => exact absurd (empty_iff.1 hl) h0
  | cons _ _ => rfl

set_option maxHeartbeats 4000000 in
set_option maxRecDepth 100000 in
theorem unquote_any (w : World) (s : ByteArray) (hs : s.size ≤ 1000000) :
    Calls Tryz.prog 67 #[.string s] w fun e w' => e = .returned (.tuple #[.string (uqT s.data.toList), .int .i64 (uqN s.data.toList), .int .i64 (uqE s.data.toList)]) ∧ Keeps (fun _ => False) w w' := by
  by_cases h0 : s.size = 0
  · have e0 := size0 h0
    subst e0
    go_enter Tryz.func67, Tryz.ntmps67
    go_wp2
    go_step3
    go_wp2
    try rw [Exit.noGoto_ret]
    refine bodyPost_ret (v := .tuple #[.string ⟨#[]⟩, .int .i64 0, .int .i64 194]) (by simp [results, Tryz.results67, go_sem]) rfl ?_
    exact ⟨rfl, Keeps.refl _ _⟩
  · have hp0 : 0 < s.size := by omega
    have j0 : (0 : Int) < (s.size : Int) := by omega
    have hne := ne_isEmpty h0
    have HS := Hid.mk' (size_len s)
    have hb0 := byte_getD s 0 hp0
    by_cases c0 : s[0] = 34
    · have HU := Hid.mk' (uq_start (by rw [← HS.out]; exact hp0) (by rw [← hb0]; exact c0))
      have k0 := by_nn (k := 34) 34 rfl c0
      have k0' := by_yes (k := 34) 34 rfl c0
      have HO := Hid.mk' (OB.nil w)
      clear c0 hb0
      go_enter Tryz.func67, Tryz.ntmps67
      go_wp2
      go_step3
      go_wp2
      go_step3
      go_wp2
      go_loopw [5, 6] (fun v i wr => ∃ (k : Nat) (acc : Bs), k ≤ s.size ∧ 1 ≤ k ∧ i = .int .i64 k ∧ Hid (UI s.data.toList k acc ∧ OB w wr v acc)) (fun _ i _ => s.size - (intOf i).toNat)
      case atStart => exact ⟨1, [], hp0, Nat.le_refl _, rfl, HU.out, HO.out⟩
      case round =>
        obtain ⟨k, acc, hk, hk1, rfl, HR⟩ := hrel
        clear HU HO k0 k0'
        by_cases h1 : k < s.size
        · have h1' : (k : Int) < (s.size : Int) := by omega
          have hg := byte_getD s k h1
          have HK : Hid (k < s.data.toList.length) := by show _ < _; rw [← HS.out]; exact h1
          have HA : Hid (acc.length ≤ 1000000) := by have := HR.out.1.2.2.1; show _ ≤ _; omega
          by_cases c34 : s[k] = 34
          · have HE := Hid.mk' (uqT_some (HR.out.1.fin HK.out (by rw [← hg]; exact c34)))
            have k34 := by_yes (k := 34) 34 rfl c34
            have hcv := conv_row wr u5 acc HR.out.2.row
            clear c34 hg
            go_wp2
            try rw [Exit.noGoto_ret]
            refine bodyPost_ret (v := .tuple #[.string (mkB acc), .int .i64 ((k : Int) + 1), .int .i64 0]) (by simp [results, Tryz.results67, go_sem]) rfl ?_
            obtain ⟨e1, e2, e3⟩ := HE.out
            rw [e1, e2, e3]
            exact ⟨rfl, HR.out.2.2⟩
          · have k34 := by_no (k := 34) 34 rfl c34
            by_cases c92 : s[k] = 92
            · have k92 := by_yes (k := 92) 92 rfl c92
              have h12 := escaped_any wr (s.extract (k + 1) s.size) (by rw [mkB_extr, mkB_size]; simp; omega)
              rw [extr_rest] at h12
              by_cases hm : (mnt (s.data.toList.drop (k + 1))).2 = 0
              · have HE := Hid.mk' (uqT_none (HR.out.1.bad HK.out (by rw [← hg]; exact c92) hm))
                rw [hm] at h12
                clear c34 c92 hg
                go_wp2_with (first | (go_at_call 94; refine h12.mono ?_; clear h12; rintro e w1 ⟨rfl, hk1⟩))
                try rw [Exit.noGoto_ret]
                refine bodyPost_ret (v := .tuple #[.string ⟨#[]⟩, .int .i64 0, .int .i64 194]) (by simp [results, Tryz.results67, go_sem]) rfl ?_
                obtain ⟨e1, e2, e3⟩ := HE.out
                rw [e1, e2, e3]
                exact ⟨rfl, HR.out.2.2.trans hk1⟩
              · have HN := Hid.mk' (HR.out.1.esc HK.out (by rw [← hg]; exact c92) hm)
                have hle := mnt_le (s.data.toList.drop (k + 1))
                rw [List.length_drop, ← HS.out] at hle
                generalize hmm : mnt (s.data.toList.drop (k + 1)) = mm at *
                obtain ⟨mb, mn⟩ := mm
                have hm' : ¬ mn = 0 := hm
                have hm1 : ((mn : Int) == 0) = false := beq_eq_false_iff_ne.2 (by omega)
                have hle' : mn ≤ s.size - (k + 1) := hle
                have HN' : Hid (UI s.data.toList (k + 1 + mn) (acc ++ [mb])) := HN.out
                clear c34 c92 hg hmm HN hle hm
                go_wp2_with (first
                  | (go_at_call 94; refine h12.mono ?_; clear h12; rintro e w1 ⟨rfl, hk1⟩; have HW := Hid.mk' (HR.out.2.keep hk1); clear hk1)
                  | (at_builtin; go_must (refine wpList_app rfl _ _ rfl w w1 u5 _ (by rfl) HW.out [mb] 1 rfl _ (by rfl) (by rfl) (by have := HA.out; simp only [List.length_cons, List.length_nil] at *; omega) ?_); intro v' W' hO; have HO := Hid.mk' hO; clear hO))
                go_roundw
                case rel => exact ⟨k + 1 + mn, acc ++ [mb], by omega, by omega, by go_num, HN'.out, HO.out⟩
                case measure => simp [intOf]; omega
            · have k92 := by_no (k := 92) 92 rfl c92
              have h10 := printable_any wr s[k]
              cases hp : prt s[k] with
              | true =>
                have HN := Hid.mk' (HR.out.1.prt HK.out (by rw [← hg]; exact c34) (by rw [← hg]; exact c92) (by rw [← hg]; exact hp))
                rw [← hg] at HN
                rw [hp] at h10
                clear c34 c92 hg hp
                go_wp2_with (first
                  | (go_at_call 95; refine h10.mono ?_; clear h10; rintro e w1 ⟨rfl, hw1⟩; subst w1)
                  | (at_builtin; go_must (refine wpList_app rfl _ _ rfl w wr u5 _ (by rfl) HR.out.2 [s[k]] 1 rfl _ (by rfl) (by rfl) (by have := HA.out; simp only [List.length_cons, List.length_nil] at *; omega) ?_); intro v' W' hO; have HO := Hid.mk' hO; clear hO))
                go_roundw
                case rel => exact ⟨k + 1, acc ++ [s[k]], by omega, by omega, by go_num, HN.out, HO.out⟩
                case measure => simp [intOf]; omega
              | false =>
                have HE := Hid.mk' (uqT_none (HR.out.1.not HK.out (by rw [← hg]; exact c34) (by rw [← hg]; exact c92) (by rw [← hg]; exact hp)))
                rw [hp] at h10
                clear c34 c92 hg hp
                go_wp2_with (first
                  | (go_at_call 95; refine h10.mono ?_; clear h10; rintro e w1 ⟨rfl, hw1⟩; subst w1))
                try rw [Exit.noGoto_ret]
                refine bodyPost_ret (v := .tuple #[.string ⟨#[]⟩, .int .i64 0, .int .i64 194]) (by simp [results, Tryz.results67, go_sem]) rfl ?_
                obtain ⟨e1, e2, e3⟩ := HE.out
                rw [e1, e2, e3]
                exact ⟨rfl, HR.out.2.2⟩
        · have HE := Hid.mk' (uqT_none (HR.out.1.out (by rw [← HS.out]; exact h1)))
          have h1' : ¬ (k : Int) < (s.size : Int) := by omega
          go_wp2
          try rw [Exit.noGoto_ret]
          refine bodyPost_ret (v := .tuple #[.string ⟨#[]⟩, .int .i64 0, .int .i64 194]) (by simp [results, Tryz.results67, go_sem]) rfl ?_
          obtain ⟨e1, e2, e3⟩ := HE.out
          rw [e1, e2, e3]
          exact ⟨rfl, HR.out.2.2⟩
    · obtain ⟨e1, e2, e3⟩ := uqT_none (uq_bad (by rw [← HS.out]; exact hp0) (by rw [← hb0]; exact c0))
      rw [e1, e2, e3]
      have k0 := by_ne (k := 34) 34 rfl c0
      clear c0 hb0 e1 e2 e3
      go_enter Tryz.func67, Tryz.ntmps67
      go_wp2
      go_step3
      go_wp2
      try rw [Exit.noGoto_ret]
      refine bodyPost_ret (v := .tuple #[.string ⟨#[]⟩, .int .i64 0, .int .i64 194]) (by simp [results, Tryz.results67, go_sem]) rfl ?_
      exact ⟨rfl, Keeps.refl _ _⟩
end Go.Proofs.YtdlhdompemkjfaaGreatDoor
