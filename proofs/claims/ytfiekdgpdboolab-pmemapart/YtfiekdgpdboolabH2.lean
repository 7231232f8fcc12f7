import Derived.Test.YtfiekdgpdboolabH1
namespace Go.Proofs.Ytfiekdgpdboolab
open Go.RowKit Go.Maps

set_option maxHeartbeats 400000 in
theorem same_yes (ga gb n ca cb : Nat) (bs : List Int) (w : World) (ha : ∀ i, i < n → w.cell? ⟨ga, i, none⟩ = some (.int .u8 (bs.getD i 0))) (hb : ∀ i, i < n → w.cell? ⟨gb, i, none⟩ = some (.int .u8 (bs.getD i 0))) (_hn : n ≤ 1000000) :
    Calls Try.prog 38 #[.slice (some ⟨ga, 0, none⟩) n ca, .slice (some ⟨gb, 0, none⟩) n cb] w fun e w' => e = .returned (.bool true) ∧ ∃ q, w' = w.drewN q := by
  have HA := Hid.mk' ha
  have HB := Hid.mk' hb
  clear ha hb
  go_enter Try.func38, Try.ntmps38
  go_wp2
  go_loopw [5] (fun i wr => ∃ k : Nat, k ≤ n ∧ i = .int .i64 k ∧ ∃ q, wr = w.drewN q) (fun i _ => n - (intOf i).toNat)
  case atStart => exact ⟨0, by omega, rfl, 0, rfl⟩
  case round =>
    obtain ⟨k, hk, rfl, q, rfl⟩ := hrel
    by_cases hlt : k < n
    · have h1 := HA.out k hlt
      have h2 := HB.out k hlt
      have h3 : (0 : Int) ≤ (k : Int) := by omega
      have h4 : (k : Int) < (n : Int) := by omega
      generalize bs.getD k 0 = x at h1 h2
      go_upto_region 6 with fail
      go_quiet (fail)
      go_wp2
      go_roundw
      case rel => exact ⟨k + 1, by omega, by go_num, _, rfl⟩
      case measure => simp [intOf]; omega
    · obtain rfl : k = n := by omega
      go_wp2
      go_ret
      exact ⟨rfl, q, rfl⟩

set_option maxHeartbeats 400000 in
theorem steps_any (d : Nat) (st : Int) (w : World) (h3 : w.cell? ⟨d, 3, none⟩ = some (.int .i64 st)) :
    Calls Try.prog 18 #[.pointer (some ⟨d, 0, none⟩)] w fun e w' => e = .returned (.int .i64 st) ∧ w' = w := by
  go_enter Try.func18, Try.ntmps18
  go_wp2
  go_ret
  exact ⟨rfl, rfl⟩

theorem rising_nil {S : St} {ks : List Int} (hR : Rising S ks) (h : ∀ a, S.pd a = []) : ks = [] := by
  rcases ks with _ | ⟨a, l⟩
  · rfl
  · exact absurd (h a) ((hR.2 a).1 (by simp))

set_option maxHeartbeats 400000 in
theorem doubts_none (w : World) (F : Nat → Prop) (d : Nat) (S : St) (L : Lay) (h : DevAt w F d S L) (hs' : S.steps ≤ 900000000) (hp : ∀ a, S.pd a = []) :
    Calls Try.prog 27 #[.pointer (some ⟨d, 0, none⟩)] w fun e w' => e = .returned (.slice none 0 0) ∧ Keeps (fun _ => False) w w' := by
  have hr := rising_dev w F d S L h (by omega)
  have HP := Hid.mk' hp
  clear h hp
  go_enter Try.func27, Try.ntmps27
  go_wp2_with (first
    | (go_at_call 46; refine hr.mono ?_; rintro e w2 ⟨p, ks, cap, rfl, hR, hks, hkl, hk2⟩
       obtain rfl := rising_nil hR HP.out
       have HK := Hid.mk' hk2
       clear hR hks hkl hk2))
  go_loop [3, 9] (fun l i => l = .slice none 0 0 ∧ i = .int .i64 0) (fun _ _ => 0)
  case atStart => exact ⟨rfl, rfl⟩
  case round =>
    obtain ⟨rfl, rfl⟩ := hrel
    go_wp2
    go_ret
    exact ⟨rfl, HK.out⟩

set_option maxHeartbeats 400000 in
theorem within_yes (d n cap : Nat) (ob : Option Addr) (at_ k : Int) (w : World) (h : w.cell? ⟨d, 0, none⟩ = some (.slice ob n cap)) (h0 : 0 ≤ at_) (h1 : 0 ≤ k) (h2 : at_ ≤ n) (h3 : k ≤ n - at_) (_hn : n ≤ 1000000) :
    Calls Try.prog 34 #[.pointer (some ⟨d, 0, none⟩), .int .i64 at_, .int .i64 k] w fun e w' => e = .returned (.bool true) ∧ w' = w := by
  go_enter Try.func34, Try.ntmps34
  go_wp2
  go_ret
  exact ⟨ret_bool (by simp [*]), rfl⟩

/-- All lines of the device flushed, one by one. -/
def St.flushN (S : St) : Nat → St
  | 0 => S
  | k + 1 => (S.flushN k).flush (64 * k : Nat)

theorem flushN_old (S : St) (k : Nat) : (S.flushN k).old = S.old := by
  induction k with
  | zero => rfl
  | succ k ih => simpa [St.flushN, St.flush, St.flushTo, St.tick] using ih
theorem flushN_pd (S : St) (k : Nat) : (S.flushN k).pd = S.pd := by
  induction k with
  | zero => rfl
  | succ k ih => simpa [St.flushN, St.flush, St.flushTo, St.tick] using ih
theorem flushN_armed (S : St) (k : Nat) : (S.flushN k).armed = S.armed := by
  induction k with
  | zero => rfl
  | succ k ih => simpa [St.flushN, St.flush, St.flushTo, St.tick] using ih
theorem flushN_steps (S : St) (k : Nat) : (S.flushN k).steps = S.steps + k := by
  induction k with
  | zero => simp [St.flushN]
  | succ k ih => simp [St.flushN, St.flush, St.flushTo, St.tick, ih]; omega
theorem flushN_ms (S : St) (k : Nat) (a : Int) (h0 : 0 ≤ a) (h1 : a < 64 * k) : (S.flushN k).ms a = (S.pd a).length := by
  induction k with
  | zero => omega
  | succ k ih =>
    simp only [St.flushN, St.flush, St.flushTo, St.tick, flushN_pd]
    split
    · rfl
    · exact ih (by omega)

set_option maxHeartbeats 400000 in
theorem flushAll_dev (w : World) (F : Nat → Prop) (d n m : Nat) (S : St) (L : Lay) (h : DevAt w F d S L) (hn : S.old.length = n) (hm : n = 64 * m) (h8 : n % 512 = 0) (hn0 : 512 ≤ n) (hs' : S.steps ≤ 1000000) (harm : S.armed = false) :
    Calls Try.prog 16 #[.pointer (some ⟨d, 0, none⟩), .int .i64 0, .int .i64 n] w fun e w' => e = .returned (.int .i64 0) ∧ DevAt w' F d (S.flushN m) L ∧ Keeps F w w' := by
  have hsz := h.size
  obtain ⟨c0, c1, c2, c3, c4, c5, c6⟩ := dev_cells h.dev
  rw [hn] at c0
  have hwi := within_yes d n n _ 0 n w c0 (by omega) (by omega) (by omega) (by omega) (by omega)
  have HV := Hid.mk' h
  have HH := Hid.mk' (show S.old.length = n ∧ n = 64 * m ∧ S.armed = false from ⟨hn, hm, harm⟩)
  have nz : ((n : Int) == 0) = false := by simp; omega
  have nb : n ≤ 524288 := by omega
  have hmm : m ≤ 10000 := by omega
  clear h c0 c1 c2 c3 c4 c5 c6 hn hm harm hsz
  go_enter Try.func16, Try.ntmps16
  go_wp2_with (first | (go_at_call 34; refine hwi.mono ?_; rintro e w' ⟨rfl, hw⟩; subst w'))
  go_loopw [7] (fun i wr => ∃ k : Nat, k ≤ m ∧ i = .int .i64 ((64 * k : Nat) : Int) ∧ Hid (DevAt wr F d (S.flushN k) L ∧ Keeps F w wr))
    (fun i _ => n - (intOf i).toNat)
  case atStart => exact ⟨0, by omega, rfl, HV.out, Keeps.refl _ _⟩
  case round =>
    obtain ⟨k, hk, rfl, hrel⟩ := hrel
    obtain ⟨a1, a2, a3⟩ := HH.out
    obtain ⟨q, hq⟩ : ∃ q : Nat, q = 64 * k := ⟨_, rfl⟩
    rw [← hq]
    by_cases hlt : k < m
    · have hq1 : (q : Int) < (n : Int) := by omega
      have hfl := flush_dev wr F d (S.flushN k) L (q : Int) hrel.1 (by omega) (by rw [flushN_old]; omega) (by rw [flushN_old, a1]; exact h8) (by rw [flushN_steps]; omega) (by rw [flushN_armed, a3]; simp)
      have HK := Hid.mk' hrel.2
      have HQ : Hid (q = 64 * k ∧ k < m) := ⟨hq, hlt⟩
      clear hrel hq hlt a1 a2 a3 hk
      go_wp2_with (first | (go_at_call 37; refine hfl.mono ?_; rintro e w4 ⟨rfl, hx1, hx2⟩; have HX := Hid.mk' hx1; have HX2 := Hid.mk' hx2; clear hx1 hx2))
      go_roundw
      case rel =>
        obtain ⟨b1, b2⟩ := HQ.out
        refine ⟨k + 1, by omega, ?_, ?_, HK.out.trans HX2.out⟩
        · rw [b1]; congr 1
        · have := HX.out
          rw [b1] at this
          exact this
      case measure => simp [intOf]; omega
    · have hq1 : ¬ (q : Int) < (n : Int) := by omega
      obtain rfl : k = m := by omega
      have HX := Hid.mk' hrel
      clear hrel hq hlt a1 a2 a3 hk
      go_wp2
      go_ret
      exact ⟨rfl, HX.out⟩

end Go.Proofs.Ytfiekdgpdboolab
