import Derived.Test.YtndojlacdggfcabI1
namespace Go.Proofs.Ytndojlacdggfcab
open Go.RowKit

set_option maxRecDepth 100000 in
set_option maxHeartbeats 1000000 in
theorem sameInts_any (w : World) (u v : Value) (l : List Int) (hu : Row w u l.length (l.map fun x => .int .i64 x)) (hv : Row w v l.length (l.map fun x => .int .i64 x)) (hl : l.length ≤ 9223372036854775807) :
    Calls Try.prog 20 #[u, v] w fun e w' => e = .returned (.bool true) ∧ ∃ n, w' = w.drewN n := by
  obtain ⟨a, ca, rfl, ha⟩ := hu
  obtain ⟨b, cb, rfl, hb⟩ := hv
  have HA := Hid.mk' ha
  have HB := Hid.mk' hb
  clear ha hb
  go_enter Try.func20, Try.ntmps20
  go_wp2
  go_loopw [5] (fun i wr => ∃ k : Nat, k ≤ l.length ∧ i = .int .i64 k ∧ Hid (∃ n, wr = w.drewN n)) (fun i _ => l.length - (intOf i).toNat)
  case atStart => exact ⟨0, by omega, rfl, 0, rfl⟩
  case round =>
    obtain ⟨k, hk, rfl, hw⟩ := hrel
    obtain ⟨n, rfl⟩ := hw.out
    by_cases h1 : k < l.length
    · have h1' : (k : Int) < (l.length : Int) := by omega
      obtain ⟨ab, ao, rfl, _, hca⟩ := HA.out (by omega)
      obtain ⟨bb, bo, rfl, _, hcb⟩ := HB.out (by omega)
      have e1 : (l.map fun x => Value.int .i64 x)[k]? = some (.int .i64 (l.getD k 0)) := by simp [List.getD_eq_getElem?_getD, h1]
      have q0 := hca k _ e1
      have q1 := hcb k _ e1
      generalize l.getD k 0 = x at *
      clear hca hcb e1
      go_wp2
      go_quiet (fail)
      go_wp2
      go_roundw
      case rel => exact ⟨k + 1, by omega, by go_num, n + nq, by simp [World.drewN]⟩
      case measure => simp [intOf]; omega
    · have h1' : ¬ (k : Int) < (l.length : Int) := by omega
      go_wp2
      go_ret
      exact ⟨rfl, n, rfl⟩

set_option maxHeartbeats 400000 in
theorem run_eql_d (d : Nat) (a b c : Int) (w : World) : (Op.equalIn (d + 2) 38 (.agg #[.int .i64 a, .int .i64 b, .int .i64 c]) (.agg #[.int .i64 a, .int .i64 b, .int .i64 c])).run Try.prog w = .ok true w := by
  rw [run_equalIn_agg w (d + 1) 38 _ _ (by kernel_rfl) (by kernel_rfl)]
  simp only [Program.fieldsOf, Try.underlying38]
  simp [Op.eqFields, part, isAgg, run_underlying Try.underlying3, Op.equalIn]
theorem run_eql (a b c : Int) (w : World) : (Op.equalIn 10000 38 (.agg #[.int .i64 a, .int .i64 b, .int .i64 c]) (.agg #[.int .i64 a, .int .i64 b, .int .i64 c])).run Try.prog w = .ok true w := run_eql_d 9998 a b c w

set_option maxRecDepth 100000 in
set_option maxHeartbeats 1000000 in
theorem sameRuns_any (w : World) (u v : Value) (l : List Rn) (hu : Row w u l.length (rflat l)) (hv : Row w v l.length (rflat l)) (hl : l.length ≤ 9223372036854775807) :
    Calls Try.prog 14 #[u, v] w fun e w' => e = .returned (.bool true) ∧ ∃ n, w' = w.drewN n := by
  obtain ⟨a, ca, rfl, ha⟩ := hu
  obtain ⟨b, cb, rfl, hb⟩ := hv
  have HA := Hid.mk' ha
  have HB := Hid.mk' hb
  clear ha hb
  go_enter Try.func14, Try.ntmps14
  go_wp2
  go_loopw [5] (fun i wr => ∃ k : Nat, k ≤ l.length ∧ i = .int .i64 k ∧ Hid (∃ n, wr = w.drewN n)) (fun i _ => l.length - (intOf i).toNat)
  case atStart => exact ⟨0, by omega, rfl, 0, rfl⟩
  case round =>
    obtain ⟨k, hk, rfl, hw⟩ := hrel
    obtain ⟨n, rfl⟩ := hw.out
    by_cases h1 : k < l.length
    · have h1' : (k : Int) < (l.length : Int) := by omega
      obtain ⟨ab, ao, rfl, _, hca⟩ := HA.out (by omega)
      obtain ⟨bb, bo, rfl, _, hcb⟩ := HB.out (by omega)
      obtain ⟨g0, g1, g2⟩ := rflat_get l k h1
      have q0 := hca _ _ g0
      have q1 := hca _ _ g1
      have q2 := hca _ _ g2
      have p0 := hcb _ _ g0
      have p1 := hcb _ _ g1
      have p2 := hcb _ _ g2
      rw [← Nat.add_assoc] at q1 q2 p1 p2
      generalize l.getD k rz = x at *
      obtain ⟨x, y, z⟩ := x
      simp only at q0 q1 q2 p0 p1 p2
      have heq := run_eql x y z
      clear hca hcb g0 g1 g2
      go_wp2
      go_quiet (fail)
      go_wp2
      go_roundw
      case rel => exact ⟨k + 1, by omega, by go_num, n + nq, by simp [World.drewN]⟩
      case measure => simp [intOf]; omega
    · have h1' : ¬ (k : Int) < (l.length : Int) := by omega
      go_wp2
      go_ret
      exact ⟨rfl, n, rfl⟩

end Go.Proofs.Ytndojlacdggfcab
