import Derived.Test.YtngoifbflpeapacGreatDoorH2
namespace Go.Proofs.YtngoifbflpeapacGreatDoor
open Go.RowKit Go.Maps
set_option maxRecDepth 100000

/-! Two steps held against each other. -/
theorem row_ints {w : World} {p : Option Addr} {c : Nat} {xs : List Int} (hr : Row w (.slice p xs.length c) xs.length (ints xs)) (h : 0 < xs.length) : ∃ b o, p = some ⟨b, o, none⟩ ∧ ∀ j, j < xs.length → w.cell? ⟨b, o + j, none⟩ = some (.int .i64 (xs.getD j 0)) := by
  obtain ⟨p', c', hpc, _, hcell⟩ := hr
  injection hpc with e1 e2 e3
  subst e1
  obtain ⟨b, o, hp, _, hc⟩ := hcell h
  refine ⟨b, o, hp, fun j hj => hc j _ (ints_get ?_)⟩
  simp [List.getD_eq_getElem?_getD, hj]
theorem equal_any (w : World) (p p2 : Option Addr) (c c2 : Nat) (xs ys : List Int) (hr : Row w (.slice p xs.length c) xs.length (ints xs)) (hz : Row w (.slice p2 ys.length c2) ys.length (ints ys)) (hx : xs.length ≤ 1000000) (hy : ys.length ≤ 1000000) :
    Calls Tryz.prog 33 #[.slice p xs.length c, .slice p2 ys.length c2] w fun e w' => e = .returned (.bool (xs == ys)) ∧ Keeps (fun _ => False) w w' := by
  by_cases hn : xs.length = ys.length
  · by_cases h0 : xs.length = 0
    · have e1 : xs = [] := List.length_eq_zero_iff.1 h0
      have e2 : ys = [] := List.length_eq_zero_iff.1 (by omega)
      subst e1 e2
      refine (Tryz.slices_Equal_int_empty p p2 c 0 c2 w (by omega)).mono ?_
      rintro e w' ⟨rfl, rfl⟩
      exact ⟨rfl, Keeps.refl _ _⟩
    · obtain ⟨b, o, rfl, h1⟩ := row_ints hr (by omega)
      obtain ⟨b2, o2, rfl, h2⟩ := row_ints hz (by omega)
      refine (Tryz.slices_Equal_int b o xs.length c b2 o2 ys.length c2 xs ys w (Nat.le_refl _) (Nat.le_refl _) (by omega) (by omega) h1 h2).mono ?_
      rintro e w' ⟨rfl, q, rfl⟩
      rw [List.take_length, List.take_length]
      exact ⟨rfl, Keeps.drewN _ _ _⟩
  · refine (Tryz.slices_Equal_int_lens p p2 xs.length c ys.length c2 w hn).mono ?_
    rintro e w' ⟨rfl, rfl⟩
    refine ⟨?_, Keeps.refl _ _⟩
    have : (xs == ys) = false := beq_eq_false_iff_ne.2 (fun h => hn (by rw [h]))
    rw [this]
/-- Whether two steps are one. -/
def smF (t u : St) : Bool := t.kind == u.kind && (t.a.toList == u.a.toList && (t.b.toList == u.b.toList && (t.n == u.n && (t.m == u.m && (t.k == u.k && t.l == u.l)))))
set_option maxHeartbeats 4000000 in
theorem same_any (w : World) (t u : St) (v z : Value) (hr : Row w v t.l.length (ints t.l)) (hz : Row w z u.l.length (ints u.l)) (ht : t.l.length ≤ 1000000) (hu : u.l.length ≤ 1000000) :
    Calls Tryz.prog 21 #[.agg (scell t v), .agg (scell u z)] w fun e w' => e = .returned (.bool (smF t u)) ∧ Keeps (fun _ => False) w w' := by
  obtain ⟨p, c, rfl, _, _⟩ := id hr
  obtain ⟨p2, c2, rfl, _, _⟩ := id hz
  have HK0 := Hid.mk' (((Keeps.refl (fun _ => False) w).alloc (.cells (scell t (.slice p t.l.length c)) 25)).alloc (.cells (scell u (.slice p2 u.l.length c2)) 25))
  have hq := equal_any _ p p2 c c2 t.l u.l (hr.keep HK0.out) (hz.keep HK0.out) ht hu
  clear hr hz
  unfold scell at HK0 hq
  unfold scell
  unfold smF
  rcases Bool.eq_false_or_eq_true (t.kind == u.kind) with h0 | h0
  case inr =>
    rw [h0]
    clear hq
    go_enter Tryz.func21, Tryz.ntmps21
    go_wp2
    go_ret
    exact ⟨rfl, HK0.out⟩
  rcases Bool.eq_false_or_eq_true (t.a.toList == u.a.toList) with h1 | h1
  case inr =>
    rw [h0, h1]
    clear hq
    go_enter Tryz.func21, Tryz.ntmps21
    go_wp2
    go_ret
    exact ⟨rfl, HK0.out⟩
  rcases Bool.eq_false_or_eq_true (t.b.toList == u.b.toList) with h2 | h2
  case inr =>
    rw [h0, h1, h2]
    clear hq
    go_enter Tryz.func21, Tryz.ntmps21
    go_wp2
    go_ret
    exact ⟨rfl, HK0.out⟩
  rcases Bool.eq_false_or_eq_true (t.n == u.n) with h3 | h3
  case inr =>
    rw [h0, h1, h2, h3]
    clear hq
    go_enter Tryz.func21, Tryz.ntmps21
    go_wp2
    go_ret
    exact ⟨rfl, HK0.out⟩
  rcases Bool.eq_false_or_eq_true (t.m == u.m) with h4 | h4
  case inr =>
    rw [h0, h1, h2, h3, h4]
    clear hq
    go_enter Tryz.func21, Tryz.ntmps21
    go_wp2
    go_ret
    exact ⟨rfl, HK0.out⟩
  rcases Bool.eq_false_or_eq_true (t.k == u.k) with h5 | h5
  case inr =>
    rw [h0, h1, h2, h3, h4, h5]
    clear hq
    go_enter Tryz.func21, Tryz.ntmps21
    go_wp2
    go_ret
    exact ⟨rfl, HK0.out⟩
  rw [h0, h1, h2, h3, h4, h5]
  simp only [Bool.true_and]
  generalize (t.l == u.l) = Z at *
  go_enter Tryz.func21, Tryz.ntmps21
  go_wp2_with (first | (go_at_call 33; refine hq.mono ?_; clear hq; rintro e w1 ⟨rfl, hk1⟩; have HK1 := Hid.mk' hk1; clear hk1))
  go_ret
  exact ⟨rfl, HK0.out.trans HK1.out⟩
end Go.Proofs.YtngoifbflpeapacGreatDoor

