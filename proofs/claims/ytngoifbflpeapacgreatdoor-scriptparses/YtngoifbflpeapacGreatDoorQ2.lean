import Derived.Test.YtngoifbflpeapacGreatDoorQ1
namespace Go.Proofs.YtngoifbflpeapacGreatDoor
open Go.RowKit Go.Maps
set_option maxRecDepth 100000

/-! The statements' own look at two steps. -/
theorem take_same {xs ys : List Int} {k : Nat} {x : Int} (h : xs.take k = ys.take k) (hx : xs[k]? = some x) (hy : ys[k]? = some x) : xs.take (k + 1) = ys.take (k + 1) := by
  rw [List.take_add_one, List.take_add_one, h, hx, hy]
set_option maxHeartbeats 4000000 in
theorem lsame_any (w : World) (t u : St) (v z : Value) (hr : Row w v t.l.length (ints t.l)) (hz : Row w z u.l.length (ints u.l)) (ht : t.l.length ≤ 4000000000000000000) :
    Calls Tryz.prog 9 #[.agg (scell t v), .agg (scell u z)] w fun e w' => e = .returned (.bool (smF t u)) ∧ Keeps (fun _ => False) w w' := by
  obtain ⟨p, c, rfl, _, _⟩ := id hr
  obtain ⟨p2, c2, rfl, _, _⟩ := id hz
  have HK0 := Hid.mk' (((Keeps.refl (fun _ => False) w).alloc (.cells (scell t (.slice p t.l.length c)) 25)).alloc (.cells (scell u (.slice p2 u.l.length c2)) 25))
  have HR := Hid.mk' (hr.keep HK0.out)
  have HZ := Hid.mk' (hz.keep HK0.out)
  clear hr hz
  unfold scell at HK0 HR HZ
  unfold scell
  unfold smF
  rcases Bool.eq_false_or_eq_true (t.kind == u.kind) with h0 | h0
  case inr =>
    have g0 : (t.kind != u.kind) = true := by rw [bne, h0]; rfl
    rw [h0]
    go_enter Tryz.func9, Tryz.ntmps9
    go_wp2
    go_ret
    exact ⟨rfl, HK0.out⟩
  have g0 : (t.kind != u.kind) = false := by rw [bne, h0]; rfl
  rcases Bool.eq_false_or_eq_true (t.a.toList == u.a.toList) with h1 | h1
  case inr =>
    have g1 : (t.a.toList != u.a.toList) = true := by rw [bne, h1]; rfl
    rw [h0, h1]
    go_enter Tryz.func9, Tryz.ntmps9
    go_wp2
    go_ret
    exact ⟨rfl, HK0.out⟩
  have g1 : (t.a.toList != u.a.toList) = false := by rw [bne, h1]; rfl
  rcases Bool.eq_false_or_eq_true (t.b.toList == u.b.toList) with h2 | h2
  case inr =>
    have g2 : (t.b.toList != u.b.toList) = true := by rw [bne, h2]; rfl
    rw [h0, h1, h2]
    go_enter Tryz.func9, Tryz.ntmps9
    go_wp2
    go_ret
    exact ⟨rfl, HK0.out⟩
  have g2 : (t.b.toList != u.b.toList) = false := by rw [bne, h2]; rfl
  rcases Bool.eq_false_or_eq_true (t.n == u.n) with h3 | h3
  case inr =>
    have g3 : (t.n != u.n) = true := by rw [bne, h3]; rfl
    rw [h0, h1, h2, h3]
    go_enter Tryz.func9, Tryz.ntmps9
    go_wp2
    go_ret
    exact ⟨rfl, HK0.out⟩
  have g3 : (t.n != u.n) = false := by rw [bne, h3]; rfl
  rcases Bool.eq_false_or_eq_true (t.m == u.m) with h4 | h4
  case inr =>
    have g4 : (t.m != u.m) = true := by rw [bne, h4]; rfl
    rw [h0, h1, h2, h3, h4]
    go_enter Tryz.func9, Tryz.ntmps9
    go_wp2
    go_ret
    exact ⟨rfl, HK0.out⟩
  have g4 : (t.m != u.m) = false := by rw [bne, h4]; rfl
  rcases Bool.eq_false_or_eq_true (t.k == u.k) with h5 | h5
  case inr =>
    have g5 : (t.k != u.k) = true := by rw [bne, h5]; rfl
    rw [h0, h1, h2, h3, h4, h5]
    go_enter Tryz.func9, Tryz.ntmps9
    go_wp2
    go_ret
    exact ⟨rfl, HK0.out⟩
  have g5 : (t.k != u.k) = false := by rw [bne, h5]; rfl
  rw [h0, h1, h2, h3, h4, h5]
  simp only [Bool.true_and]
  by_cases hl : t.l.length = u.l.length
  case neg =>
    have hl' : ¬ (t.l.length : Int) = (u.l.length : Int) := by omega
    have g6 : ((t.l.length : Int) != (u.l.length : Int)) = true := bne_iff_ne.2 hl'
    have HE : Hid ((t.l == u.l) = false) := beq_eq_false_iff_ne.2 (fun h => hl (by rw [h]))
    go_enter Tryz.func9, Tryz.ntmps9
    go_wp2
    go_ret
    exact ⟨by rw [HE.out]; rfl, HK0.out⟩
  have hl' : (t.l.length : Int) = (u.l.length : Int) := by omega
  have g6 : ((t.l.length : Int) != (u.l.length : Int)) = false := by rw [hl']; simp
  have HL := Hid.mk' hl
  generalize hxs : t.l = xs at *
  generalize hys : u.l = ys at *
  have HT : Hid (xs.length ≤ 4000000000000000000) := ht
  clear ht hl
  go_enter Tryz.func9, Tryz.ntmps9
  go_wp2
  go_loopw [5] (fun i wr => ∃ k : Nat, k ≤ xs.length ∧ i = .int .i64 k ∧ Hid (Keeps (fun _ => False) ((w.alloc (.cells #[.int .i64 t.kind, .string t.a, .string t.b, .int .i64 t.n, .int .i64 t.m, .int .i64 t.k, .slice p xs.length c] 25)).alloc (.cells #[.int .i64 u.kind, .string u.a, .string u.b, .int .i64 u.n, .int .i64 u.m, .int .i64 u.k, .slice p2 ys.length c2] 25)) wr) ∧ Hid (xs.take k = ys.take k)) (fun i _ => xs.length - (intOf i).toNat)
  case atStart => exact ⟨0, by omega, rfl, Keeps.refl _ _, rfl⟩
  case round =>
    obtain ⟨k, hk, rfl, HW, HS⟩ := hrel
    have h63 : xs.length ≤ 4000000000000000000 := HT.out
    have c0 := ((((Keeps.refl (fun _ => False) (w.alloc (.cells #[.int .i64 t.kind, .string t.a, .string t.b, .int .i64 t.n, .int .i64 t.m, .int .i64 t.k, .slice p xs.length c] 25))).alloc (.cells #[.int .i64 u.kind, .string u.a, .string u.b, .int .i64 u.n, .int .i64 u.m, .int .i64 u.k, .slice p2 ys.length c2] 25))).trans HW.out).cell (new_cell w #[.int .i64 t.kind, .string t.a, .string t.b, .int .i64 t.n, .int .i64 t.m, .int .i64 t.k, .slice p xs.length c] 25 6 _ rfl) id
    have c1 := HW.out.cell (new_cell (w.alloc (.cells #[.int .i64 t.kind, .string t.a, .string t.b, .int .i64 t.n, .int .i64 t.m, .int .i64 t.k, .slice p xs.length c] 25)) #[.int .i64 u.kind, .string u.a, .string u.b, .int .i64 u.n, .int .i64 u.m, .int .i64 u.k, .slice p2 ys.length c2] 25 6 _ rfl) id
    rw [World.size_alloc] at c1
    by_cases h1 : k < xs.length
    · have h1' : (k : Int) < (xs.length : Int) := by omega
      obtain ⟨x, hx⟩ : ∃ x, xs[k]? = some x := ⟨xs[k], by simp [h1]⟩
      obtain ⟨y, hy⟩ : ∃ y, ys[k]? = some y := ⟨ys[k]'(by have := HL.out; omega), by simp [show k < ys.length by have := HL.out; omega]⟩
      obtain ⟨p', c', hpc, _, hcell⟩ := HR.out.keep HW.out
      injection hpc with e1 e2 e3
      subst e1
      subst e3
      obtain ⟨b, o, hp, _, hc2⟩ := hcell (by omega)
      subst hp
      have q0 := hc2 k _ (ints_get hx)
      obtain ⟨p', c', hpc, _, hcell⟩ := HZ.out.keep HW.out
      injection hpc with e1 e2 e3
      subst e1
      subst e3
      obtain ⟨b2, o2, hp, _, hc3⟩ := hcell (by have := HL.out; omega)
      subst hp
      have q1 := hc3 k _ (ints_get hy)
      have h2' : (k : Int) < (ys.length : Int) := by omega
      clear hc2 hc3 hcell e2
      by_cases hxy : x = y
      · subst hxy
        have g7 : (x != x) = false := by simp
        have HS2 := Hid.mk' (take_same HS.out hx hy)
        clear hx hy
        go_wp2
        go_quiet (fail)
        go_wp2
        go_roundw
        case rel => exact ⟨k + 1, by omega, by go_num, HW.out.trans (Keeps.drewN _ _ _), HS2.out⟩
        case measure => simp [intOf]; omega
      · have g7 : (x != y) = true := bne_iff_ne.2 hxy
        have HN : Hid ((xs == ys) = false) := beq_eq_false_iff_ne.2 (fun h => hxy (by rw [h, hy] at hx; exact (Option.some.inj hx).symm))
        clear hx hy
        go_wp2
        go_quiet (fail)
        go_wp2
        go_ret
        exact ⟨by rw [HN.out]; rfl, (HK0.out.trans HW.out).trans (Keeps.drewN _ _ _)⟩
    · have h1' : ¬ (k : Int) < (xs.length : Int) := by omega
      have HE : Hid ((xs == ys) = true) := beq_iff_eq.2 (by have h := HS.out; rw [List.take_of_length_le (by omega), List.take_of_length_le (by have := HL.out; omega)] at h; exact h)
      go_wp2
      go_ret
      exact ⟨by rw [HE.out]; rfl, HK0.out.trans HW.out⟩
end Go.Proofs.YtngoifbflpeapacGreatDoor

