import Derived.Test.YtdlhdompemkjfaaGreatDoorK21
import Derived.Test.YtdlhdompemkjfaaGreatDoorK02
namespace Go.Proofs.YtdlhdompemkjfaaGreatDoor
open Go.RowKit Go.Maps
set_option maxRecDepth 100000

/-! The statements' own look at two steps. -/
theorem take_same {xs ys : List Int} {k : Nat} {x : Int} (h : xs.take k = ys.take k) (hx : xs[k]? = some x) (hy : ys[k]? = some x) : xs.take (k + 1) = ys.take (k + 1) := by
  rw [List.take_add_one, List.take_add_one, h, hx, hy]
set_option maxHeartbeats 4000000 in
theorem lsame_any (w : World) (t u : St) (v z : Value) (hr : Row w v t.l.length (ints t.l)) (hz : Row w z u.l.length (ints u.l)) (ht : t.l.length ≤ 4000000000000000000) :
    Calls Tryz.prog 10 #[.agg (scell t v), .agg (scell u z)] w fun e w' => e = .returned (.bool (smF t u)) ∧ Keeps (fun _ => False) w w' := by
  obtain ⟨p, c, rfl, _, _⟩ := id hr
  obtain ⟨p2, c2, rfl, _, _⟩ := id hz
  have HK0 := Hid.mk' (((Keeps.refl (fun _ => False) w).alloc (.cells (scell t (.slice p t.l.length c)) 24)).alloc (.cells (scell u (.slice p2 u.l.length c2)) 24))
  have HR := Hid.mk' (hr.keep HK0.out)
  have HZ := Hid.mk' (hz.keep HK0.out)
  clear hr hz
  unfold scell at HK0 HR HZ
  unfold scell
  unfold smF
  rcases Bool.eq_false_or_eq_true (t.kind == u.kind) with h0 | h0
  case inr =>
    have g0 : (t.kind != u.kind) = true := by rw [bne, h0]; rfl
    rw [h0]
    go_enter Tryz.func10, Tryz.ntmps10
    go_wp2
    go_ret
    exact ⟨rfl, HK0.out⟩
  have g0 : (t.kind != u.kind) = false := by rw [bne, h0]; rfl
  rcases Bool.eq_false_or_eq_true (t.a.toList == u.a.toList) with h1 | h1
  case inr =>
    have g1 : (t.a.toList != u.a.toList) = true := by rw [bne, h1]; rfl
    rw [h0, h1]
    go_enter Tryz.func10, Tryz.ntmps10
    go_wp2
    go_ret
    exact ⟨rfl, HK0.out⟩
  have g1 : (t.a.toList != u.a.toList) = false := by rw [bne, h1]; rfl
  rcases Bool.eq_false_or_eq_true (t.b.toList == u.b.toList) with h2 | h2
  case inr =>
    have g2 : (t.b.toList != u.b.toList) = true := by rw [bne, h2]; rfl
    rw [h0, h1, h2]
    go_enter Tryz.func10, Tryz.ntmps10
    go_wp2
    go_ret
    exact ⟨rfl, HK0.out⟩
  have g2 : (t.b.toList != u.b.toList) = false := by rw [bne, h2]; rfl
  rcases Bool.eq_false_or_eq_true (t.n == u.n) with h3 | h3
  case inr =>
    have g3 : (t.n != u.n) = true := by rw [bne, h3]; rfl
    rw [h0, h1, h2, h3]
    go_enter Tryz.func10, Tryz.ntmps10
    go_wp2
    go_ret
    exact ⟨rfl, HK0.out⟩
  have g3 : (t.n != u.n) = false := by rw [bne, h3]; rfl
  rcases Bool.eq_false_or_eq_true (t.m == u.m) with h4 | h4
  case inr =>
    have g4 : (t.m != u.m) = true := by rw [bne, h4]; rfl
    rw [h0, h1, h2, h3, h4]
    go_enter Tryz.func10, Tryz.ntmps10
    go_wp2
    go_ret
    exact ⟨rfl, HK0.out⟩
  have g4 : (t.m != u.m) = false := by rw [bne, h4]; rfl
  rcases Bool.eq_false_or_eq_true (t.k == u.k) with h5 | h5
  case inr =>
    have g5 : (t.k != u.k) = true := by rw [bne, h5]; rfl
    rw [h0, h1, h2, h3, h4, h5]
    go_enter Tryz.func10, Tryz.ntmps10
    go_wp2
    go_ret
    exact ⟨rfl, HK0.out⟩
  have g5 : (t.k != u.k) = false := by rw [bne, h5]; rfl
  rw [h0, h1, h2, h3, h4, h5]
  simp only [Bool.true_and]
  by_cases hl : t.l.length = u.l.length
  case neg =>
    have hl' : ¬ (t.l.length : Int) = (u.l.length : Int) := by omega
    have g6 : ((t.l.length : Int) != (u.l.length : Int)) = true := bne_iff_ne.2 hl'
    have HE : Hid ((t.l == u.l) = false) := beq_eq_false_iff_ne.2 (fun h => hl (by rw [h]))
    go_enter Tryz.func10, Tryz.ntmps10
    go_wp2
    go_ret
    exact ⟨by rw [HE.out]; rfl, HK0.out⟩
  have hl' : (t.l.length : Int) = (u.l.length : Int) := by omega
  have g6 : ((t.l.length : Int) != (u.l.length : Int)) = false := by rw [hl']; simp
  have HL := Hid.mk' hl
  generalize hxs : t.l = xs at *
  generalize hys : u.l = ys at *
  have HT : Hid (xs.length ≤ 4000000000000000000) := ht
  clear ht hl
  go_enter Tryz.func10, Tryz.ntmps10
  go_wp2
  go_loopw [5] (fun i wr => ∃ k : Nat, k ≤ xs.length ∧ i = .int .i64 k ∧ Hid (Keeps (fun _ => False) ((w.alloc (.cells #[.int .i64 t.kind, .string t.a, .string t.b, .int .i64 t.n, .int .i64 t.m, .int .i64 t.k, .slice p xs.length c] 24)).alloc (.cells #[.int .i64 u.kind, .string u.a, .string u.b, .int .i64 u.n, .int .i64 u.m, .int .i64 u.k, .slice p2 ys.length c2] 24)) wr) ∧ Hid (xs.take k = ys.take k)) (fun i _ => xs.length - (intOf i).toNat)
  case atStart => exact ⟨0, by omega, rfl, Keeps.refl _ _, rfl⟩
  case round =>
    obtain ⟨k, hk, rfl, HW, HS⟩ := hrel
    have h63 : xs.length ≤ 4000000000000000000 := HT.out
    have c0 := ((((Keeps.refl (fun _ => False) (w.alloc (.cells #[.int .i64 t.kind, .string t.a, .string t.b, .int .i64 t.n, .int .i64 t.m, .int .i64 t.k, .slice p xs.length c] 24))).alloc (.cells #[.int .i64 u.kind, .string u.a, .string u.b, .int .i64 u.n, .int .i64 u.m, .int .i64 u.k, .slice p2 ys.length c2] 24))).trans HW.out).cell (new_cell w #[.int .i64 t.kind, .string t.a, .string t.b, .int .i64 t.n, .int .i64 t.m, .int .i64 t.k, .slice p xs.length c] 24 6 _ rfl) id
    have c1 := HW.out.cell (new_cell (w.alloc (.cells #[.int .i64 t.kind, .string t.a, .string t.b, .int .i64 t.n, .int .i64 t.m, .int .i64 t.k, .slice p xs.length c] 24)) #[.int .i64 u.kind, .string u.a, .string u.b, .int .i64 u.n, .int .i64 u.m, .int .i64 u.k, .slice p2 ys.length c2] 24 6 _ rfl) id
    rw [World.size_alloc] at c1
    by_cases h1 : k < xs.length
    · have h1' : (k : Int) < (xs.length : Int) := by omega
      obtain ⟨x, hx⟩ : ∃ x, xs[k]? = some x := ⟨xs[k], by simp [h1]⟩
      obtain ⟨y, hy⟩ : ∃ y, ys[k]? = some y := ⟨ys[k]'(by have := HL.out; omega), by simp [show k < ys.length by have := HL.out; omega]⟩
      obtain ⟨p', c', hpc, _, hcell⟩ := HR.out.keep HW.out
      injection hpc with e1 e2 e3
      subst e1
      subst e3
      obtain ⟨b, o, hp, _, hc2⟩ := hcell (by omega)
      subst hp
      have q0 := hc2 k _ (ints_get hx)
      obtain ⟨p', c', hpc, _, hcell⟩ := HZ.out.keep HW.out
      injection hpc with e1 e2 e3
      subst e1
      subst e3
      obtain ⟨b2, o2, hp, _, hc3⟩ := hcell (by have := HL.out; omega)
      subst hp
      have q1 := hc3 k _ (ints_get hy)
      have h2' : (k : Int) < (ys.length : Int) := by omega
      clear hc2 hc3 hcell e2
      by_cases hxy : x = y
      · subst hxy
        have g7 : (x != x) = false := by simp
        have HS2 := Hid.mk' (take_same HS.out hx hy)
        clear hx hy
        go_wp2
        go_quiet (fail)
        go_wp2
        go_roundw
        case rel => exact ⟨k + 1, by omega, by go_num, HW.out.trans (Keeps.drewN _ _ _), HS2.out⟩
        case measure => simp [intOf]; omega
      · have g7 : (x != y) = true := bne_iff_ne.2 hxy
        have HN : Hid ((xs == ys) = false) := beq_eq_false_iff_ne.2 (fun h => hxy (by rw [h, hy] at hx; exact (Option.some.inj hx).symm))
        clear hx hy
        go_wp2
        go_quiet (fail)
        go_wp2
        go_ret
        exact ⟨by rw [HN.out]; rfl, (HK0.out.trans HW.out).trans (Keeps.drewN _ _ _)⟩
    · have h1' : ¬ (k : Int) < (xs.length : Int) := by omega
      have HE : Hid ((xs == ys) = true) := beq_iff_eq.2 (by have h := HS.out; rw [List.take_of_length_le (by omega), List.take_of_length_le (by have := HL.out; omega)] at h; exact h)
      go_wp2
      go_ret
      exact ⟨by rw [HE.out]; rfl, HK0.out.trans HW.out⟩
end Go.Proofs.YtdlhdompemkjfaaGreatDoor

namespace Go.Proofs.YtdlhdompemkjfaaGreatDoor
open Go.RowKit Go.Maps
set_option maxRecDepth 100000

set_option maxHeartbeats 1000000 in
set_option maxRecDepth 100000 in
theorem esc_any (w : World) (b : UInt8) : Calls Tryz.prog 56 #[.int .u8 (b.toNat : Int)] w fun e w' => e = .returned (.string (mkB (esc b))) ∧ Keeps (fun _ => False) w w' := by
  have h14 := plain_any w b
  cases hp : pln b with
  | true =>
    rw [hp] at h14
    have e : esc b = [b] := by
      unfold pln at hp
      simp at hp
      unfold esc
      rw [if_neg hp.1.2, if_neg hp.2]
      split
      · rename_i h; subst h; exact absurd hp.1.1 (by decide)
      · rw [if_pos hp.1.1]
    rw [e]
    have hcv : (convert 40 9 (.slice (some ⟨w.heap.size, 0, none⟩) 1 1)).run Tryz.prog (w.alloc (.cells #[.int .u8 (b.toNat : Int)] 5)) = .ok (.string (mkB [b])) (w.alloc (.cells #[.int .u8 (b.toNat : Int)] 5)) := conv_new w [b] 1 rfl
    clear e hp
    go_enter Tryz.func56, Tryz.ntmps56
    go_wp2_with (first | (go_at_call 84; refine h14.mono ?_; clear h14; rintro e w1 ⟨rfl, hw1⟩; subst w1))
    go_ret
    exact ⟨rfl, (Keeps.refl _ w).alloc _⟩
  | false =>
    rw [hp] at h14
    by_cases c34 : b = 34
    · subst c34
      go_enter Tryz.func56, Tryz.ntmps56
      go_wp2_with (first | (go_at_call 84; refine h14.mono ?_; clear h14; rintro e w1 ⟨rfl, hw1⟩; subst w1))
      go_ret
      exact ⟨rfl, Keeps.refl _ w⟩
    · by_cases c92 : b = 92
      · subst c92
        go_enter Tryz.func56, Tryz.ntmps56
        go_wp2_with (first | (go_at_call 84; refine h14.mono ?_; clear h14; rintro e w1 ⟨rfl, hw1⟩; subst w1))
        go_ret
        exact ⟨rfl, Keeps.refl _ w⟩
      · by_cases c10 : b = 10
        · subst c10
          go_enter Tryz.func56, Tryz.ntmps56
          go_wp2_with (first | (go_at_call 84; refine h14.mono ?_; clear h14; rintro e w1 ⟨rfl, hw1⟩; subst w1))
          go_ret
          exact ⟨rfl, Keeps.refl _ w⟩
        · have e : esc b = [92, 120, dg (b.toNat / 16), dg (b.toNat % 16)] := by
            unfold esc
            rw [if_neg c34, if_neg c92, if_neg c10, if_neg]
            intro h
            unfold pln at hp
            simp [h, c34, c92] at hp
          rw [e]
          have k34 := by_no (k := 34) 34 rfl c34
          have k92 := by_no (k := 92) 92 rfl c92
          have k10 := by_no (k := 10) 10 rfl c10
          have hb := b.toNat_lt
          have h15 := digit_int w (b.toNat / 16) (by omega) ((b.toNat : Int) / 16) (by omega)
          have h15' := digit_int w (b.toNat % 16) (by omega) ((b.toNat : Int) % 16) (by omega)
          have hcv : (convert 40 9 (.slice (some ⟨w.heap.size, 0, none⟩) 4 4)).run Tryz.prog (w.alloc (.cells #[.int .u8 92, .int .u8 120, .int .u8 ((dg (b.toNat / 16)).toNat : Int), .int .u8 ((dg (b.toNat % 16)).toNat : Int)] 5)) = .ok (.string (mkB [92, 120, dg (b.toNat / 16), dg (b.toNat % 16)])) (w.alloc (.cells #[.int .u8 92, .int .u8 120, .int .u8 ((dg (b.toNat / 16)).toNat : Int), .int .u8 ((dg (b.toNat % 16)).toNat : Int)] 5)) := conv_new w [92, 120, dg (b.toNat / 16), dg (b.toNat % 16)] 4 rfl
          clear e hp c34 c92 c10
          go_enter Tryz.func56, Tryz.ntmps56
          go_wp2_with (first
            | (go_at_call 84; refine h14.mono ?_; clear h14; rintro e w1 ⟨rfl, hw1⟩; subst w1)
            | (go_at_call 85; refine h15.mono ?_; clear h15; rintro e w1 ⟨rfl, hw1⟩; subst w1)
            | (go_at_call 85; refine h15'.mono ?_; clear h15'; rintro e w1 ⟨rfl, hw1⟩; subst w1))
          go_ret
          exact ⟨rfl, (Keeps.refl _ w).alloc _⟩
set_option maxHeartbeats 2000000 in
set_option maxRecDepth 100000 in
theorem rquote_any (w : World) (s : ByteArray) (hs : s.size ≤ 1000000) :
    Calls Tryz.prog 37 #[.string s] w fun e w' => e = .returned (.string (mkB (quo s.data.toList))) ∧ Keeps (fun _ => False) w w' := by
  have HS := Hid.mk' (size_len s)
  have HO : Hid (OB w (w.alloc (.cells #[.int .u8 34] 5)) (.slice (some ⟨w.heap.size, 0, none⟩) 1 1) [34]) := OB.new w [34] 1 rfl (by decide)
  go_enter Tryz.func37, Tryz.ntmps37
  go_wp2
  go_loopw [3, 4] (fun v i wr => ∃ k : Nat, k ≤ s.size ∧ i = .int .i64 k ∧ Hid (OB w wr v (34 :: (s.data.toList.take k).flatMap esc))) (fun _ i _ => s.size - (intOf i).toNat)
  case atStart => exact ⟨0, Nat.zero_le _, rfl, HO.out⟩
  case round =>
    obtain ⟨k, hk, rfl, HR⟩ := hrel
    clear HO
    have HL : Hid ((34 :: (s.data.toList.take k).flatMap esc).length ≤ 4 * k + 1) := by
      have := flat_len (s.data.toList.take k)
      have h2 : (s.data.toList.take k).length ≤ k := by simp; omega
      show _ ≤ _
      rw [List.length_cons]; omega
    by_cases h1 : k < s.size
    · have h1' : (k : Int) < (s.size : Int) := by omega
      have h11 := esc_any wr s[k]
      have HT : Hid ((s.data.toList.take (k + 1)).flatMap esc = (s.data.toList.take k).flatMap esc ++ esc s[k]) := by
        show _ = _
        rw [flat_take (by rw [← HS.out]; exact h1), byte_getD s k h1]
      have HE := Hid.mk' (esc_len s[k]).2
      go_wp2_with (first | (go_at_call 56; refine h11.mono ?_; clear h11; rintro e w1 ⟨rfl, hk1⟩))
      have HR1 := Hid.mk' (HR.out.keep hk1)
      generalize hx : esc s[k] = x at *
      have hx4 : (mkB x).size ≤ 4 := by rw [mkB_size]; exact HE.out
      clear hk1 HR
      go_loopw [3, 6] (fun v i wq => ∃ j : Nat, j ≤ (mkB x).size ∧ i = .int .i64 j ∧ Hid (OB w wq v ((34 :: (s.data.toList.take k).flatMap esc) ++ x.take j))) (fun _ i _ => (mkB x).size - (intOf i).toNat)
      case atStart => exact ⟨0, Nat.zero_le _, rfl, by rw [List.take_zero, List.append_nil]; exact HR1.out⟩
      case round =>
        obtain ⟨j, hj, rfl, HQ⟩ := hrel
        by_cases h2 : j < (mkB x).size
        · have h2' : (j : Int) < ((mkB x).size : Int) := by omega
          have HN : Hid (x.take (j + 1) = x.take j ++ [(mkB x)[j]]) := by
            show _ = _
            rw [take_getD 0 (by rw [← mkB_size]; exact h2), byte_getD (mkB x) j h2]
            rfl
          go_wp2_with (first
            | (at_builtin; go_must (refine wpList_app rfl _ _ rfl w wr u3 _ (by rfl) HQ.out [(mkB x)[j]] 1 rfl _ (by rfl) (by rfl) (by have := HL.out; have := HE.out; simp only [List.length_append, List.length_take, List.length_singleton] at *; omega) ?_); intro v' W' hO))
          have HO := Hid.mk' hO
          clear hO
          go_roundw
          case rel => exact ⟨j + 1, by omega, by go_num, by rw [HN.out, ← List.append_assoc]; exact HO.out⟩
          case measure => simp [intOf]; omega
        · have h2' : ¬ (j : Int) < ((mkB x).size : Int) := by omega
          have HN : Hid (OB w wr u3 (34 :: (s.data.toList.take (k + 1)).flatMap esc)) := by
            have := HQ.out
            rw [List.take_of_length_le (l := x) (by rw [← mkB_size]; omega), List.cons_append, ← HT.out] at this
            exact this
          go_wp2
          go_roundw
          case rel => exact ⟨k + 1, by omega, by go_num, HN.out⟩
          case measure => simp [intOf]; omega
    · have h1' : ¬ (k : Int) < (s.size : Int) := by omega
      have HF : Hid (OB w wr u3 (34 :: s.data.toList.flatMap esc)) := by
        have := HR.out
        rw [List.take_of_length_le (by rw [← HS.out]; omega)] at this
        exact this
      go_wp2_with (first
        | (at_builtin; go_must (refine wpList_app rfl _ _ rfl w wr u3 _ (by rfl) HF.out [34] 1 rfl _ (by rfl) (by rfl) (by have := flat_len s.data.toList; rw [← HS.out] at this; simp only [List.length_cons, List.length_nil]; omega) ?_); intro v' W' hO; have hcv := conv_row _ _ _ hO.row; have HO := Hid.mk' hO; clear hO))
      go_ret
      exact ⟨rfl, HO.out.2⟩
end Go.Proofs.YtdlhdompemkjfaaGreatDoor
