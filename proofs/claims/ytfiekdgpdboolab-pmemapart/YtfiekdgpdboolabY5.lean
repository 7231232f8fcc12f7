import Derived.Test.YtfiekdgpdboolabY2
namespace Go.Proofs.Ytfiekdgpdboolab
open Go.RowKit Go.Maps

def markOf (m k j : Nat) : Int := 1000000 * m + 1000 * k + j

set_option maxHeartbeats 400000 in
theorem newsMark_any (m k j : Nat) (w : World) (hm : m ≤ 1000) (hk : k ≤ 1000) (hj : j ≤ 100000) :
    Calls Try.prog 48 #[.int .i64 m, .int .i64 k, .int .i64 j] w fun e w' => e = .returned (.int .u64 (markOf m k j)) ∧ w' = w := by
  have hw : IntKind.u64.wrap (1000000 * (m : Int) + 1000 * (k : Int) + (j : Int)) = markOf m k j := by
    unfold markOf
    simp [IntKind.wrap, IntKind.signed, IntKind.bits]
    omega
  go_enter Try.func48, Try.ntmps48
  go_wp2
  go_ret
  exact ⟨by simp only [markOf] at *; first | rfl | simp [*], rfl⟩

set_option maxHeartbeats 1000000 in
set_option maxRecDepth 20000 in
theorem marked_any (w : World) (p : Option Addr) (m k n cap : Nat) (hm : m ≤ 1000) (hk : k ≤ 1000) (hn : n ≤ 100000) (hc : 0 < n → ∃ g, p = some ⟨g, 0, none⟩ ∧ ∀ j, j < n → w.cell? ⟨g, j, none⟩ = some (.int .u64 (markOf m k j))) :
    Calls Try.prog 50 #[.slice p n cap, .int .i64 m, .int .i64 k] w fun e w' => e = .returned (.bool true) ∧ ∃ q, w' = w.drewN q := by
  have HC := Hid.mk' hc
  clear hc
  go_enter Try.func50, Try.ntmps50
  go_wp2
  go_loopw [7] (fun i wr => ∃ j : Nat, j ≤ n ∧ i = .int .i64 j ∧ ∃ q, wr = w.drewN q) (fun i _ => n - (intOf i).toNat)
  case atStart => exact ⟨0, by omega, rfl, 0, rfl⟩
  case round =>
    obtain ⟨j, hj, rfl, hq⟩ := hrel
    have HQ := Hid.mk' hq
    by_cases hlj : j < n
    · obtain ⟨g, rfl, hc⟩ := HC.out (by omega)
      have h1 : wr.cell? ⟨g, j, none⟩ = some (.int .u64 (markOf m k j)) := by obtain ⟨q, rfl⟩ := hq; simpa using hc j hlj
      have h5 : (0 : Int) ≤ (j : Int) := by omega
      have h6 : (j : Int) < (n : Int) := by omega
      have HM := Hid.mk' (fun w => newsMark_any m k j w hm hk (by omega))
      generalize markOf m k j = mk at *
      clear hc hq
      go_wp2
      go_quiet ((go_at_call 48; exact Calls.quiet_of_same (HM.out _)))
      go_wp2
      go_roundw
      case rel => exact ⟨j + 1, by omega, by go_num, by obtain ⟨q0, e0⟩ := HQ.out; rw [e0]; exact ⟨_, by simp; rfl⟩⟩
      case measure => simp [intOf]; omega
    · obtain rfl : j = n := by omega
      clear hq
      go_wp2
      go_ret
      exact ⟨rfl, HQ.out⟩

end Go.Proofs.Ytfiekdgpdboolab
