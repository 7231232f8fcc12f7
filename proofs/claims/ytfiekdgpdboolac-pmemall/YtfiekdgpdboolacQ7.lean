import Derived.Test.YtfiekdgpdboolacQ6
namespace Go.Proofs.Ytfiekdgpdboolac
open Go.RowKit Go.Maps

set_option maxHeartbeats 400000 in
theorem rWord_any (w : World) (F : Nat → Prop) (r : Nat) (R : Rf) (M : RLay) (a : Int) (h : RefAt w F r R M) (hn : R.now ≤ 1000000000) :
    Calls Try.prog 26 #[.pointer (some ⟨r, 0, none⟩), .int .i64 a] w fun e w' => e = .returned (.tuple #[.int .u64 (if badWord (64 * R.n) a = 0 then R.nowW (a / 8).toNat else 0), .int .i64 (badWord (64 * R.n) a)]) ∧ w' = w := by
  have hwr := rwrong_any w F r R M a h
  by_cases hb : badWord (64 * R.n) a = 0
  · obtain ⟨b1, b2, b3⟩ := badWord_zero hb
    obtain ⟨an, rfl⟩ := Int.eq_ofNat_of_zero_le b1
    have hno : Calls Try.prog 60 #[.pointer (some ⟨r, 0, none⟩), .int .i64 an] w fun e w' => e = .returned (.int .u64 (R.nowW ((an : Int) / 8).toNat)) ∧ w' = w := by
      unfold Rf.nowW
      exact rnow_any w F r R M an (((an : Int) / 8).toNat / 8) (((an : Int) / 8).toNat % 8) h (by omega) (by omega) (by omega) hn
    rw [if_pos hb]
    rw [hb] at hwr ⊢
    generalize R.nowW ((an : Int) / 8).toNat = nv at *
    clear h hb b1 b2 b3
    go_enter Try.func26, Try.ntmps26
    go_wp2_with (first
      | (go_at_call 59; refine hwr.mono ?_; rintro e w' ⟨rfl, hw⟩; subst w')
      | (go_at_call 60; refine hno.mono ?_; rintro e w' ⟨rfl, hw⟩; subst w'))
    go_ret2
    exact ⟨rfl, rfl⟩
  · rw [if_neg hb]
    have hb2 : (badWord (64 * R.n) a == 0) = false := by simp [hb]
    generalize badWord (64 * R.n) a = bw at *
    clear h hb
    go_enter Try.func26, Try.ntmps26
    go_wp2_with (first
      | (go_at_call 59; refine hwr.mono ?_; rintro e w' ⟨rfl, hw⟩; subst w'))
    go_ret2
    exact ⟨rfl, rfl⟩

/-- Words stored, lines flushed one behind the other, up to the first that is refused. -/
def Rf.stores (R : Rf) (a : Int) : List Int → Int × Rf
  | [] => (0, R)
  | v :: l => if R.left = 0 then (13, R) else (R.put a v).stores (a + 8) l
def Rf.flushes (R : Rf) (a : Int) : Nat → Int × Rf
  | 0 => (0, R)
  | k + 1 => if R.left = 0 then (13, R) else (R.fl a).flushes (a + 64) k

/-- What a FlushAll leaves; the answer. -/
def Rf.flushAll (R : Rf) (a n : Int) : Int × Rf := if insideB (64 * (R.n : Int)) a n = true then (if n = 0 then (0, R) else R.flushes (64 * (a / 64)) ((a + n - 1) / 64 - a / 64 + 1).toNat) else (11, R)

set_option maxHeartbeats 1000000 in
set_option maxRecDepth 20000 in
theorem rflushAll_any (w : World) (F : Nat → Prop) (r : Nat) (R : Rf) (M : RLay) (a n : Int) (h : RefAt w F r R M) (hn : R.now ≤ 100000000) :
    Calls Try.prog 36 #[.pointer (some ⟨r, 0, none⟩), .int .i64 a, .int .i64 n] w fun e w' => e = .returned (.int .i64 (R.flushAll a n).1) ∧ RMoved F r w w' (R.flushAll a n).2 := by
  have HR := Hid.mk' h
  have hin := rinside_any w F r R M a n h
  have hnn := h.nn
  by_cases hb : insideB (64 * (R.n : Int)) a n = true
  · have hb0 := hb
    rw [hb] at hin
    simp [insideB] at hb0
    obtain ⟨⟨⟨b1, b2⟩, b3⟩, b4⟩ := hb0
    by_cases hn0 : n = 0
    · have e : R.flushAll a n = (0, R) := by unfold Rf.flushAll; rw [if_pos hb, if_pos hn0]
      rw [e]
      have hz : (n == 0) = true := by simp [hn0]
      clear h e hb hn0 b1 b2 b3 b4
      go_enter Try.func36, Try.ntmps36
      go_wp2_with (first | (go_at_call 63; refine hin.mono ?_; rintro e w' ⟨rfl, hw⟩; subst w'))
      go_ret
      exact ⟨rfl, rmoved_same HR.out⟩
    · obtain ⟨q, hq⟩ : ∃ q : Nat, a / 64 = (q : Int) := ⟨(a / 64).toNat, by omega⟩
      obtain ⟨z, hz⟩ : ∃ z : Nat, (a + n - 1) / 64 = (z : Int) := ⟨((a + n - 1) / 64).toNat, by omega⟩
      obtain ⟨m, hm⟩ : ∃ m : Nat, m = ((a + n - 1) / 64 - a / 64 + 1).toNat := ⟨_, rfl⟩
      have e : R.flushAll a n = R.flushes (64 * (q : Int)) m := by unfold Rf.flushAll; rw [if_pos hb, if_neg hn0, ← hm, hq]
      rw [e]
      have hq1 : a.tdiv 64 = (q : Int) := by rw [Int.tdiv_eq_ediv_of_nonneg b1]; exact hq
      have hz1 : (a + n - 1).tdiv 64 = (z : Int) := by rw [Int.tdiv_eq_ediv_of_nonneg (by omega)]; exact hz
      have hnz : (n == 0) = false := by simp [hn0]
      have HZ := Hid.mk' (show m = z + 1 - q ∧ q ≤ z ∧ z < R.n from ⟨by omega, by omega, by omega⟩)
      have hqb : q ≤ 8192 := by omega
      have hzb : z ≤ 8192 := by omega
      have hab : a + n ≤ 524288 := by omega
      clear h e hb hn0 hq hz hm b3 b4
      go_enter Try.func36, Try.ntmps36
      go_wp2_with (first | (go_at_call 63; refine hin.mono ?_; rintro e w' ⟨rfl, hw⟩; subst w'))
      go_loopw [7] (fun i wr => ∃ k : Nat, k ≤ m ∧ i = .int .i64 ((q + k : Nat) : Int) ∧ Hid (∃ T, RMoved F r w wr T ∧ R.flushes (64 * (q : Int)) m = T.flushes (64 * ((q + k : Nat) : Int)) (m - k) ∧ T.n = R.n ∧ T.now = R.now + k))
        (fun i _ => z + 1 - (intOf i).toNat)
      case atStart => exact ⟨0, by omega, by first | rfl | (congr 1), R, rmoved_same HR.out, by simp, rfl, by simp⟩
      case round =>
        obtain ⟨k, hk, rfl, hrel⟩ := hrel
        obtain ⟨T, ⟨F1, M1, hdev, hkp, hfr⟩, hrun, hlen, hst⟩ := hrel
        obtain ⟨y, hy⟩ : ∃ y, y = q + k := ⟨_, rfl⟩
        rw [← hy] at hrun ⊢
        obtain ⟨z1, z2, z3⟩ := HZ.out
        by_cases hlt : k < m
        · have hyz : (y : Int) ≤ (z : Int) := by omega
          rw [show m - k = (m - (k + 1)) + 1 by omega] at hrun
          have hyb : y ≤ 8192 := by omega
          have hfl := rflush_any wr F1 r T M1 (64 * (y : Int)) hdev (by omega)
          have hbb : 0 ≤ 64 * (y : Int) ∧ 64 * (y : Int) < 64 * (T.n : Int) := by omega
          by_cases hl0 : T.left = 0
          · have e2 : T.flush (64 * (y : Int)) = (13, T) := by unfold Rf.flush; rw [if_pos hbb, if_pos hl0]
            have e : R.flushes (64 * (q : Int)) m = (13, T) := by rw [hrun]; simp only [Rf.flushes, if_pos hl0]
            rw [e2] at hfl
            have HX := Hid.mk' (show Keeps F w wr ∧ Fresh F F1 w from ⟨hkp, hfr⟩)
            have HE := Hid.mk' e
            clear hdev hkp hfr hrun hlen hst e e2 z1 z2 z3 hy hlt hk hbb hl0
            go_wp2_with (first | (go_at_call 34; refine hfl.mono ?_; rintro e w4 ⟨rfl, hx⟩; have HM := Hid.mk' hx; clear hx))
            go_ret
            exact ⟨by rw [HE.out]; rfl, by rw [HE.out]; exact rmoved_next HX.out.1 HX.out.2 HM.out⟩
          · have e2 : T.flush (64 * (y : Int)) = (0, T.fl (64 * (y : Int))) := by unfold Rf.flush; rw [if_pos hbb, if_neg hl0]
            have e : R.flushes (64 * (q : Int)) m = (T.fl (64 * (y : Int))).flushes (64 * ((q + (k + 1) : Nat) : Int)) (m - (k + 1)) := by
              rw [hrun]; simp only [Rf.flushes, if_neg hl0]
              rw [show 64 * (y : Int) + 64 = 64 * ((q + (k + 1) : Nat) : Int) by omega]
            rw [e2] at hfl
            have HX := Hid.mk' (show Keeps F w wr ∧ Fresh F F1 w from ⟨hkp, hfr⟩)
            have HE := Hid.mk' (show _ ∧ T.n = R.n ∧ T.now = R.now + k ∧ y = q + k ∧ k < m from ⟨e, hlen, hst, hy, hlt⟩)
            clear hdev hkp hfr hrun hlen hst e e2 z1 z2 z3 hy hlt hk hbb hl0
            go_wp2_with (first | (go_at_call 34; refine hfl.mono ?_; rintro e w4 ⟨rfl, hx⟩; have HM := Hid.mk' hx; clear hx))
            go_roundw
            case rel =>
              obtain ⟨g1, g2, g3, g4, g5⟩ := HE.out
              refine ⟨k + 1, by omega, ?_, _, rmoved_next HX.out.1 HX.out.2 HM.out, g1, g2, ?_⟩
              · rw [g4]; first | (congr 1; omega) | go_num
              · simp only [Rf.fl, Rf.tick]; omega
            case measure => simp [intOf]; omega
        · obtain rfl : k = m := by omega
          have hyz : ¬ (y : Int) ≤ (z : Int) := by omega
          have e : R.flushes (64 * (q : Int)) k = (0, T) := by rw [hrun, Nat.sub_self]; rfl
          have HX := Hid.mk' (show RMoved F r w wr T from ⟨F1, M1, hdev, hkp, hfr⟩)
          have HE := Hid.mk' e
          have hyb : y ≤ 8193 := by omega
          clear hdev hkp hfr hrun hlen hst e z1 z2 z3 hy hlt hk
          go_wp2
          go_ret
          exact ⟨by rw [HE.out]; rfl, by rw [HE.out]; exact HX.out⟩
  · have hb2 : insideB (64 * (R.n : Int)) a n = false := by simpa using hb
    have e : R.flushAll a n = (11, R) := by unfold Rf.flushAll; rw [if_neg hb]
    rw [e]
    rw [hb2] at hin
    clear h e hb hb2
    go_enter Try.func36, Try.ntmps36
    go_wp2_with (first | (go_at_call 63; refine hin.mono ?_; rintro e w' ⟨rfl, hw⟩; subst w'))
    go_ret
    exact ⟨rfl, rmoved_same HR.out⟩

/-- What a Write of words leaves, or of bytes that aren't words; the answer. -/
def Rf.writeBad (R : Rf) (a : Int) (n : Nat) : Int := if insideB (64 * (R.n : Int)) a n = true then (if a % 8 = 0 ∧ n % 8 = 0 then 0 else 12) else 11

set_option maxHeartbeats 400000 in
theorem rwrite_bad (w : World) (F : Nat → Prop) (r : Nat) (R : Rf) (M : RLay) (a : Int) (p : Option Addr) (n cap : Nat) (h : RefAt w F r R M) (hb : R.writeBad a n ≠ 0) (hn : n ≤ 9223372036854775807) :
    Calls Try.prog 32 #[.pointer (some ⟨r, 0, none⟩), .int .i64 a, .slice p n cap] w fun e w' => e = .returned (.int .i64 (R.writeBad a n)) ∧ w' = w := by
  have hin := rinside_any w F r R M a n h
  have hnn := h.nn
  clear h
  unfold Rf.writeBad at *
  by_cases hi : insideB (64 * (R.n : Int)) a n = true
  · have hi0 := hi
    simp [insideB] at hi0
    obtain ⟨⟨b1, b3⟩, b4⟩ := hi0
    rw [if_pos hi] at hb ⊢
    rw [hi] at hin
    have t1 : a.tmod 8 = a % 8 := Int.tmod_eq_emod_of_nonneg b1
    obtain ⟨m8, hm8⟩ : ∃ m8 : Int, m8 = (n : Int) % 8 := ⟨_, rfl⟩
    have t2 : (n : Int).tmod 8 = m8 := by rw [Int.tmod_eq_emod_of_nonneg (by omega), hm8]
    have t3 : (n : Int) % 8 = m8 := hm8.symm
    have hnot : ¬ (a % 8 = 0 ∧ n % 8 = 0) := fun h => hb (if_pos h)
    rw [if_neg hnot]
    by_cases ha : a % 8 = 0
    · have z1 : (a % 8 == 0) = true := by simp [ha]
      have z1' : (a % 8 != 0) = false := by simp [ha]
      have z2' : (m8 != 0) = true := by simp; omega
      have z2 : (m8 == 0) = false := by simp; omega
      clear hb hi hnot ha hm8
      go_enter Try.func32, Try.ntmps32
      go_wp2_with (first | (go_at_call 63; refine hin.mono ?_; rintro e w' ⟨rfl, hw⟩; subst w'))
      go_ret
      exact ⟨rfl, rfl⟩
    · have z1 : (a % 8 == 0) = false := by simp [ha]
      have z1' : (a % 8 != 0) = true := by simp [ha]
      clear hb hi hnot ha hm8
      go_enter Try.func32, Try.ntmps32
      go_wp2_with (first | (go_at_call 63; refine hin.mono ?_; rintro e w' ⟨rfl, hw⟩; subst w'))
      go_ret
      exact ⟨rfl, rfl⟩
  · rw [if_neg hi]
    have hi2 : insideB (64 * (R.n : Int)) a n = false := by simpa using hi
    rw [hi2] at hin
    clear hb hi hi2
    go_enter Try.func32, Try.ntmps32
    go_wp2_with (first | (go_at_call 63; refine hin.mono ?_; rintro e w' ⟨rfl, hw⟩; subst w'))
    go_ret
    exact ⟨rfl, rfl⟩

end Go.Proofs.Ytfiekdgpdboolac
