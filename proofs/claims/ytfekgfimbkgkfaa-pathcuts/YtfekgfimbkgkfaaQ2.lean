import Derived.Test.YtfekgfimbkgkfaaQ1
namespace Go.Proofs.Ytfekgfimbkgkfaa
open Go.RowKit Go.Maps

theorem parts_skip (r : Bs) : parts (47 :: r) = parts r := by
  have := parts_slash (q := []) (r := r) rfl
  rw [List.nil_append] at this
  rw [this]; rfl
/-- The first part of a text that begins with another byte than a slash. -/
theorem parts_head (u : Bs) (b : UInt8) (u' : Bs) (h : u = b :: u') (hb : b ≠ 47) : ∃ qb r, u = qb ++ r ∧ qb ≠ [] ∧ qb.all (· != 47) = true ∧ parts u = mkB qb :: parts r ∧ (r = [] ∨ ∃ r', r = 47 :: r') := by
  have hspan : ∀ v : Bs, ∃ qb r, v = qb ++ r ∧ qb.all (· != 47) = true ∧ (r = [] ∨ ∃ r', r = 47 :: r') := by
    intro v
    induction v with
    | nil => exact ⟨[], [], rfl, rfl, Or.inl rfl⟩
    | cons c v ih =>
      by_cases hc : c = 47
      · subst hc
        exact ⟨[], 47 :: v, rfl, rfl, Or.inr ⟨v, rfl⟩⟩
      · obtain ⟨qb, r, h1, h2, h3⟩ := ih
        exact ⟨c :: qb, r, by rw [h1]; rfl, by rw [List.all_cons, h2]; simp [hc], h3⟩
  obtain ⟨qb, r, h1, h2, h3⟩ := hspan u'
  refine ⟨b :: qb, r, by rw [h, h1]; rfl, by simp, by rw [List.all_cons, h2]; simp [hb], ?_, h3⟩
  have ha : (b :: qb).all (· != 47) = true := by rw [List.all_cons, h2]; simp [hb]
  have hadd : addL [] (mkB (b :: qb)) = [mkB (b :: qb)] := by
    unfold addL
    rw [if_neg (by rw [mkB_size]; simp)]; rfl
  rcases h3 with rfl | ⟨r', rfl⟩
  · rw [List.append_nil] at h1
    subst h1
    rw [h, parts_end ha, hadd]
    rfl
  · rw [h, h1, ← List.cons_append, parts_slash ha, hadd, parts_skip]
    rfl
theorem parts_some {u : Bs} (h : parts u ≠ []) : u ≠ [] := by
  rintro rfl
  exact h rfl
/-- What stands' outer loop holds. -/
def StI (t : Bs) (at_ i : Nat) : Prop := parts (t.drop at_) = (parts t).drop i ∧ at_ ≤ t.length
theorem StI.skip {t : Bs} {a i : Nat} (h : StI t a i) (ha : a < t.length) (hb : t.getD a 0 = 47) : StI t (a + 1) i := by
  refine ⟨?_, ha⟩
  have := h.1
  rw [drop_cons ha, hb, parts_skip] at this
  exact this
/-- A part that is next: where it stands. -/
theorem StI.head {t : Bs} {a i : Nat} (h : StI t a i) (hi : i < (parts t).length) (hb : a < t.length → t.getD a 0 ≠ 47) : ∃ qb : Bs, (parts t).getD i bz = mkB qb ∧ qb ≠ [] ∧ qb.all (· != 47) = true ∧ a + qb.length ≤ t.length ∧ (t.drop a).take qb.length = qb ∧ (a + qb.length < t.length → t.getD (a + qb.length) 0 = 47) ∧ StI t (a + qb.length) (i + 1) := by
  have hd : (parts t).drop i = (parts t).getD i bz :: (parts t).drop (i + 1) := by
    rw [List.drop_eq_getElem_cons hi, getD_eq bz hi]
  have h1 := h.1
  rw [hd] at h1
  have hne := parts_some (u := t.drop a) (by rw [h1]; simp)
  have ha : a < t.length := by
    rcases Nat.lt_or_ge a t.length with h | h
    · exact h
    · exact absurd (List.drop_of_length_le h) hne
  obtain ⟨qb, r, e1, e2, e3, e4, e5⟩ := parts_head (t.drop a) _ _ (drop_cons ha) (hb ha)
  rw [e4] at h1
  injection h1 with h2 h3
  have hlen : a + qb.length + r.length = t.length := by
    have := congrArg List.length e1
    rw [List.length_drop, List.length_append] at this
    omega
  have hr : t.drop (a + qb.length) = r := by
    rw [← List.drop_drop, e1, List.drop_left]
  refine ⟨qb, h2.symm, e2, e3, by omega, by rw [e1, List.take_left], fun hlt => ?_, by rw [hr]; exact h3, by omega⟩
  rcases e5 with rfl | ⟨r', rfl⟩
  · simp only [List.length_nil] at hlen; omega
  · rw [drop_cons hlt] at hr
    injection hr
theorem StI.last {t : Bs} {a i : Nat} (h : StI t a i) (hi : ¬ i < (parts t).length) (ha : a < t.length) : t.getD a 0 = 47 := by
  rcases Classical.em (t.getD a 0 = 47) with hb | hb
  · exact hb
  · have h1 := h.1
    rw [List.drop_of_length_le (l := parts t) (by omega)] at h1
    obtain ⟨qb, r, _, _, _, e4, _⟩ := parts_head (t.drop a) _ _ (drop_cons ha) hb
    rw [e4] at h1; cases h1

set_option maxHeartbeats 4000000 in
set_option maxRecDepth 100000 in
theorem stands_any (w : World) (s : ByteArray) (hs : s.size ≤ 200) (v : Value) (h : Row w v (parts s.data.toList).length (strs (parts s.data.toList))) :
    Calls Try.prog 20 #[.string s, v] w fun e w' => e = .returned (.bool true) ∧ Keeps (fun _ => False) w w' := by
  have HS : Hid (s.size = s.data.toList.length) := size_len s
  have HR : Hid (Row w v (parts s.data.toList).length (strs (parts s.data.toList))) := h
  obtain ⟨va, vc, rfl, _⟩ := h
  have hpl : (parts s.data.toList).length ≤ 201 := by
    have := pts_len s.data.toList []
    rw [← HS.out] at this
    simp only [parts, List.length_map]; omega
  obtain ⟨N, hN⟩ : ∃ N, N = (parts s.data.toList).length := ⟨_, rfl⟩
  have HN : Hid ((parts s.data.toList).length = N) := hN.symm
  rw [← hN] at hpl ⊢
  clear hN
  go_enter Try.func20, Try.ntmps20
  go_wp2
  go_loopw [5, 6] (fun a i wr => ∃ k : Nat, k ≤ N ∧ i = .int .i64 k ∧ ∃ p : Nat, p ≤ s.size ∧ a = .int .i64 p ∧ Hid (StI s.data.toList p k ∧ Keeps (fun _ => False) w wr)) (fun _ i _ => N - (intOf i).toNat)
  case atStart => exact ⟨0, Nat.zero_le _, rfl, 0, Nat.zero_le _, rfl, ⟨rfl, Nat.zero_le _⟩, Keeps.refl _ _⟩
  case round =>
    obtain ⟨k, hk, rfl, p, hp, rfl, HI⟩ := hrel
    by_cases h1 : k < N
    · have h1' : (k : Int) < (N : Int) := by omega
      go_wp2
      go_loopw [5] (fun a wq => wq = wr ∧ ∃ p : Nat, p ≤ s.size ∧ a = .int .i64 p ∧ Hid (StI s.data.toList p k)) (fun a _ => s.size - (intOf a).toNat)
      case atStart => exact ⟨rfl, p, hp, rfl, HI.out.1⟩
      case round =>
        obtain ⟨rfl, p2, hp2, rfl, HI2⟩ := hrel
        by_cases h2 : p2 < s.size
        · have h2' : (p2 : Int) < (s.size : Int) := by omega
          have hg := byte_getD s p2 h2
          by_cases hb : s.data.toList.getD p2 0 = 47
          · have b1 : ((s[p2].toNat : Int) == 47) = true := by rw [hg, hb]; rfl
            have HN2 := Hid.mk' (HI2.out.skip (by rw [← HS.out]; exact h2) hb)
            clear hb hg
            go_wp2
            go_roundw
            case rel => exact ⟨trivial, p2 + 1, by omega, by go_num, HN2⟩
            case measure => simp [intOf]; omega
          · have b1 : ((s[p2].toNat : Int) == 47) = false := by
              rw [hg]
              have : ¬ (s.data.toList.getD p2 0).toNat = 47 := fun e => hb (UInt8.toNat_inj.1 e)
              exact beq_eq_false_iff_ne.2 (by omega)
            have HB : p2 < s.data.toList.length → s.data.toList.getD p2 0 ≠ 47 := fun _ => hb
            clear hb hg
            obtain ⟨qb, hq1, hq2, hq3, hq4, hq5, hq6, hq7⟩ := HI2.out.head (by rw [HN.out]; exact h1) HB
            obtain ⟨vb, vo, vc', ve, _, hcc⟩ := HR.out.pos (by rw [HN.out]; omega)
            rw [HN.out] at ve
            cases ve
            have c0 := HI.out.2.cell (hcc k _ (strs_get (by rw [HN.out]; exact h1))) id
            rw [hq1] at c0
            have hql : (mkB qb).size = qb.length := mkB_size qb
            have hqd : (mkB qb).data.toList = qb := data_mkB qb
            obtain ⟨q, hq⟩ : ∃ q, q = mkB qb := ⟨_, rfl⟩
            rw [← hq] at c0 hql hqd
            have hq0 : qb.length ≠ 0 := fun e => hq2 (List.length_eq_zero_iff.1 e)
            obtain ⟨E, hE⟩ : ∃ E, p2 + q.size = E := ⟨_, rfl⟩
            obtain ⟨D, hD⟩ : ∃ D, s.size - p2 = D := ⟨_, rfl⟩
            rw [← HS.out] at hq4
            have hEi : (p2 : Int) + (q.size : Int) = (E : Int) := by omega
            have hDi : (s.size : Int) - (p2 : Int) = (D : Int) := by omega
            have hEs : E ≤ s.size := by omega
            have hEs' : (E : Int) ≤ (s.size : Int) := by omega
            have hpE : (p2 : Int) ≤ (E : Int) := by omega
            have hp0 : (0 : Int) ≤ (p2 : Int) := by omega
            have hwE : IntKind.i64.wrap (E : Int) = (E : Int) := i64_id (by omega) (by omega)
            have hwD : IntKind.i64.wrap (D : Int) = (D : Int) := i64_id (by omega) (by omega)
            have z1 : ((q.size : Int) == 0) = false := beq_eq_false_iff_ne.2 (by omega)
            have z1' : (q.size == 0) = false := beq_eq_false_iff_ne.2 (by omega)
            have z2 : ¬ (D : Int) < (q.size : Int) := by omega
            have z2' : decide ((D : Int) < (q.size : Int)) = false := decide_eq_false z2
            have z2n : decide (D < q.size) = false := decide_eq_false (by omega)
            have z3 : ((s.extract p2 E).toList == q.toList) = true := by
              rw [bytes_eq, decide_eq_true]
              rw [mkB_extr, show E - p2 = qb.length by omega, hq5, hq]
            have HQ7 : Hid (StI s.data.toList E (k + 1)) := by rw [← hE, hql]; exact hq7
            have HQ3 : Hid (∀ j, j < q.size → q.data.toList.getD j 0 ≠ 47) := fun j hj => by
              rw [hqd]
              rw [List.all_eq_true] at hq3
              have := hq3 _ (getD_mem 0 (show j < qb.length by omega))
              exact bne_iff_ne.1 this
            have HQ6 : Hid (E < s.size → s.data.toList.getD E 0 = 47) := fun h => by
              have := hq6 (by rw [← HS.out]; omega)
              rw [← hE, hql]; exact this
            have h1k : (0 : Int) ≤ (k : Int) := by omega
            clear hq1 hq2 hq3 hq4 hq5 hq6 hq7 hql hqd hcc hq hq0 hE hD
            by_cases hEl : E < s.size
            · have hEl' : (E : Int) < (s.size : Int) := by omega
              have hEd : decide ((E : Int) < (s.size : Int)) = true := decide_eq_true hEl'
              have hEdn : decide (E < s.size) = true := decide_eq_true hEl
              have hgE := byte_getD s E hEl
              have bE : ((s[E].toNat : Int) == 47) = true := by rw [hgE, HQ6.out hEl]; rfl
              have bE2 : ((s[E].toNat : Int) != 47) = false := by rw [bne, bE]; rfl
              clear hgE
              go_wp2
              go_quiet (fail)
              go_wp2
              go_loopw [8] (fun jj wq => ∃ j : Nat, j ≤ q.size ∧ jj = .int .i64 j ∧ Hid (Keeps (fun _ => False) wr wq)) (fun jj _ => q.size - (intOf jj).toNat)
              case atStart => exact ⟨0, Nat.zero_le _, rfl, Keeps.drewN _ _ _⟩
              case round =>
                obtain ⟨j, hj, rfl, HW⟩ := hrel
                have c1 := HW.out.cell c0 id
                by_cases h3 : j < q.size
                · have h3' : (j : Int) < (q.size : Int) := by omega
                  have hgj := byte_getD q j h3
                  have b3 : ((q[j].toNat : Int) == 47) = false := by
                    rw [hgj]
                    have := HQ3.out j h3
                    have : ¬ (q.data.toList.getD j 0).toNat = 47 := fun e => this (UInt8.toNat_inj.1 e)
                    exact beq_eq_false_iff_ne.2 (by omega)
                  clear hgj
                  go_wp2
                  go_roundw
                  case rel => exact ⟨j + 1, by omega, by go_num, HW⟩
                  case measure => simp [intOf]; omega
                · have h3' : ¬ (j : Int) < (q.size : Int) := by omega
                  go_wp2
                  go_roundw
                  case rel => exact ⟨k + 1, by omega, by go_num, E, hEs, by first | rfl | go_num | (congr 1), HQ7.out, HI.out.2.trans HW.out⟩
                  case measure => simp [intOf]; omega
            · have hEl' : ¬ (E : Int) < (s.size : Int) := by omega
              have hEd : decide ((E : Int) < (s.size : Int)) = false := decide_eq_false hEl'
              have hEdn : decide (E < s.size) = false := decide_eq_false hEl
              go_wp2
              go_quiet (fail)
              go_wp2
              go_loopw [8] (fun jj wq => ∃ j : Nat, j ≤ q.size ∧ jj = .int .i64 j ∧ Hid (Keeps (fun _ => False) wr wq)) (fun jj _ => q.size - (intOf jj).toNat)
              case atStart => exact ⟨0, Nat.zero_le _, rfl, Keeps.drewN _ _ _⟩
              case round =>
                obtain ⟨j, hj, rfl, HW⟩ := hrel
                have c1 := HW.out.cell c0 id
                by_cases h3 : j < q.size
                · have h3' : (j : Int) < (q.size : Int) := by omega
                  have hgj := byte_getD q j h3
                  have b3 : ((q[j].toNat : Int) == 47) = false := by
                    rw [hgj]
                    have := HQ3.out j h3
                    have : ¬ (q.data.toList.getD j 0).toNat = 47 := fun e => this (UInt8.toNat_inj.1 e)
                    exact beq_eq_false_iff_ne.2 (by omega)
                  clear hgj
                  go_wp2
                  go_roundw
                  case rel => exact ⟨j + 1, by omega, by go_num, HW⟩
                  case measure => simp [intOf]; omega
                · have h3' : ¬ (j : Int) < (q.size : Int) := by omega
                  go_wp2
                  go_roundw
                  case rel => exact ⟨k + 1, by omega, by go_num, E, hEs, by first | rfl | go_num | (congr 1), HQ7.out, HI.out.2.trans HW.out⟩
                  case measure => simp [intOf]; omega
        · have h2' : ¬ (p2 : Int) < (s.size : Int) := by omega
          exfalso
          obtain ⟨qb, _, hq2, _, hq4, _⟩ := HI2.out.head (by rw [HN.out]; exact h1) (fun h => by rw [← HS.out] at h; exact absurd h h2)
          rw [← HS.out] at hq4
          have : qb.length ≠ 0 := fun e => hq2 (List.length_eq_zero_iff.1 e)
          omega
    · have h1' : ¬ (k : Int) < (N : Int) := by omega
      go_wp2
      go_loopw [5] (fun a wq => wq = wr ∧ ∃ p : Nat, p ≤ s.size ∧ a = .int .i64 p ∧ Hid (StI s.data.toList p k)) (fun a _ => s.size - (intOf a).toNat)
      case atStart => exact ⟨rfl, p, hp, rfl, HI.out.1⟩
      case round =>
        obtain ⟨rfl, p2, hp2, rfl, HI2⟩ := hrel
        by_cases h2 : p2 < s.size
        · have h2' : (p2 : Int) < (s.size : Int) := by omega
          have hb := HI2.out.last (by rw [HN.out]; exact h1) (by rw [← HS.out]; exact h2)
          have hg := byte_getD s p2 h2
          have b1 : ((s[p2].toNat : Int) == 47) = true := by rw [hg, hb]; rfl
          have HN2 := Hid.mk' (HI2.out.skip (by rw [← HS.out]; exact h2) hb)
          clear hb hg
          go_wp2
          go_roundw
          case rel => exact ⟨trivial, p2 + 1, by omega, by go_num, HN2⟩
          case measure => simp [intOf]; omega
        · have h2' : ¬ (p2 : Int) < (s.size : Int) := by omega
          have he : (p2 : Int) = (s.size : Int) := by omega
          have he2 : ((p2 : Int) == (s.size : Int)) = true := beq_iff_eq.2 he
          clear he
          go_wp2
          all_goals
            go_ret
            exact ⟨rfl, HI.out.2⟩

set_option maxHeartbeats 4000000 in
set_option maxRecDepth 100000 in
theorem cuts_walk (w : World) (s : ByteArray) (hs : s.size ≤ 140737488355328) :
    Calls Try.prog 8 #[.string s] w fun e w' => e = .returned (.bool true) ∧ Keeps (fun _ => False) w w' := by
  have h9 := first_any w
  have h10 := fun w1 => parse_any w1 s (by omega)
  have h19 := fun w1 => takes_any w1 s (by omega)
  by_cases hE : prsE s.data.toList = 0
  · have hP : prsP s.data.toList = parts s.data.toList := by unfold prsP; rw [hE]; rfl
    have hS : prsS s.data.toList = (!(parts s.data.toList).isEmpty && (s.data.toList.getLast? == some 47)) := by unfold prsS; rw [hE]; rfl
    have hsz : s.size ≤ 200 := by
      unfold prsE at hE
      split at hE
      · simp at hE
      · rw [size_len]; omega
    have h20 := fun w1 v hr => stands_any w1 s hsz v hr
    have hne : s.size ≠ 0 := by
      intro h0
      have e0 := size0 h0
      rw [e0] at hE
      revert hE
      decide +kernel
    have hsl := size_len s
    obtain ⟨L, hL⟩ : ∃ L, L = s.size - 1 := ⟨_, rfl⟩
    have hlt : L < s.size := by omega
    have hbv : (s.data.toList.getLast? == some 47) = (((s[L]'hlt).toNat : Int) == 47) := by
      have hlast : s.data.toList.getLast? = some (s[L]'hlt) := by
        rw [byte_getD s L hlt, List.getLast?_eq_getElem?, ← hsl, ← hL, List.getD_eq_getElem?_getD, List.getElem?_eq_getElem (by omega)]
        rfl
      rw [hlast]
      generalize s[L]'hlt = b
      by_cases h : b = 47
      · subst h; rfl
      · have h3 : ¬ b.toNat = 47 := fun e => h (UInt8.toNat_inj.1 e)
        rw [beq_eq_false_iff_ne.2 (show (b.toNat : Int) ≠ 47 by omega)]
        simp [h]
    have hLi : (s.size : Int) - 1 = (L : Int) := by omega
    have hLw : IntKind.i64.wrap (L : Int) = (L : Int) := i64_id (by omega) (by omega)
    have hL1 : (L : Int) < (s.size : Int) := by omega
    have hL0 : (0 : Int) ≤ (L : Int) := by omega
    rw [hE, hP, hS, hbv] at h10
    rw [hE] at h19
    have HE := Hid.mk' hE
    obtain ⟨bb, hbb⟩ : ∃ bb, (((s[L]'hlt).toNat : Int) == 47) = bb := ⟨_, rfl⟩
    rw [hbb] at h10
    clear hbv hP hS hE hsl hne hL
    generalize hps : parts s.data.toList = ps at *
    cases ps with
    | nil =>
      simp only [List.isEmpty_nil, Bool.not_true, Bool.false_and, List.length_nil] at h10 h20
      go_enter Try.func8, Try.ntmps8
      go_wp2_with (first
        | (go_at_call 20; refine (h20 _ _ R2.out).mono ?_; clear h20; rintro e w4 ⟨rfl, hk4⟩
           have d0 := hk4.cell c0 id
           have d1 := hk4.cell c1 id)
        | (go_at_call 19; refine (h19 _).mono ?_; rintro e w3 ⟨rfl, hw3⟩; subst w3)
        | (go_at_call 10; refine (h10 _).mono ?_; clear h10; rintro e w2 ⟨r, rfl, H2⟩
           obtain ⟨ra, rc, er, _⟩ := Row.of_own H2.out.1
           subst er
           obtain ⟨c0, c1, _⟩ := cells2 (heap_last w2 (.cells #[.slice ra 0 rc, .bool false] 25))
           have R2 : Hid (Row (w2.alloc (.cells #[.slice ra 0 rc, .bool false] 25)) (.slice ra 0 rc) 0 (strs [])) := (Row.of_own H2.out.1).keep ((Keeps.refl _ w2).alloc _)
           have K2 := Hid.mk' (H2.out.2.alloc (.cells #[.slice ra 0 rc, .bool false] 25)))
        | (go_at_call 9; refine h9.mono ?_; clear h9; rintro e w1 ⟨rfl, hk1⟩))
      go_quiet (fail)
      go_wp2
      go_ret
      exact ⟨rfl, ((hk1.trans K2.out).trans hk4).trans (Keeps.drewN _ _ _)⟩
    | cons q0 qs =>
      obtain ⟨M, hM⟩ : ∃ M, (q0 :: qs).length = M := ⟨_, rfl⟩
      have hM0 : (0 : Int) < (M : Int) := by rw [← hM, List.length_cons]; omega
      have hMn : 0 < M := by omega
      have hMd : decide ((0 : Int) < (M : Int)) = true := decide_eq_true hM0
      have hMdn : decide (0 < M) = true := decide_eq_true hMn
      rw [hM] at h10 h20
      simp only [List.isEmpty_cons, Bool.not_false, Bool.true_and] at h10
      clear hM
      cases bb
      · go_enter Try.func8, Try.ntmps8
        go_wp2_with (first
          | (go_at_call 20; refine (h20 _ _ R2.out).mono ?_; clear h20; rintro e w4 ⟨rfl, hk4⟩
             have d0 := hk4.cell c0 id
             have d1 := hk4.cell c1 id)
          | (go_at_call 19; refine (h19 _).mono ?_; rintro e w3 ⟨rfl, hw3⟩; subst w3)
          | (go_at_call 10; refine (h10 _).mono ?_; clear h10; rintro e w2 ⟨r, rfl, H2⟩
             obtain ⟨ra, rc, er, _⟩ := Row.of_own H2.out.1
             subst er
             obtain ⟨c0, c1, _⟩ := cells2 (heap_last w2 (.cells #[.slice ra M rc, .bool false] 25))
             have R2 : Hid (Row (w2.alloc (.cells #[.slice ra M rc, .bool false] 25)) (.slice ra M rc) M (strs (q0 :: qs))) := (Row.of_own H2.out.1).keep ((Keeps.refl _ w2).alloc _)
             have K2 := Hid.mk' (H2.out.2.alloc (.cells #[.slice ra M rc, .bool false] 25)))
          | (go_at_call 9; refine h9.mono ?_; clear h9; rintro e w1 ⟨rfl, hk1⟩))
        go_quiet (fail)
        go_wp2
        go_ret
        exact ⟨rfl, ((hk1.trans K2.out).trans hk4).trans (Keeps.drewN _ _ _)⟩
      · go_enter Try.func8, Try.ntmps8
        go_wp2_with (first
          | (go_at_call 20; refine (h20 _ _ R2.out).mono ?_; clear h20; rintro e w4 ⟨rfl, hk4⟩
             have d0 := hk4.cell c0 id
             have d1 := hk4.cell c1 id)
          | (go_at_call 19; refine (h19 _).mono ?_; rintro e w3 ⟨rfl, hw3⟩; subst w3)
          | (go_at_call 10; refine (h10 _).mono ?_; clear h10; rintro e w2 ⟨r, rfl, H2⟩
             obtain ⟨ra, rc, er, _⟩ := Row.of_own H2.out.1
             subst er
             obtain ⟨c0, c1, _⟩ := cells2 (heap_last w2 (.cells #[.slice ra M rc, .bool true] 25))
             have R2 : Hid (Row (w2.alloc (.cells #[.slice ra M rc, .bool true] 25)) (.slice ra M rc) M (strs (q0 :: qs))) := (Row.of_own H2.out.1).keep ((Keeps.refl _ w2).alloc _)
             have K2 := Hid.mk' (H2.out.2.alloc (.cells #[.slice ra M rc, .bool true] 25)))
          | (go_at_call 9; refine h9.mono ?_; clear h9; rintro e w1 ⟨rfl, hk1⟩))
        go_quiet (fail)
        go_wp2
        go_ret
        exact ⟨rfl, ((hk1.trans K2.out).trans hk4).trans (Keeps.drewN _ _ _)⟩
  · have hP : prsP s.data.toList = [] := by unfold prsP; rw [if_neg hE]
    have hS : prsS s.data.toList = false := by unfold prsS; rw [decide_eq_false hE]; rfl
    rw [hP, hS] at h10
    have hE1 : ((prsE s.data.toList) == 0) = false := beq_eq_false_iff_ne.2 hE
    generalize prsE s.data.toList = E at *
    have hE' : ¬ E = 0 := hE
    go_enter Try.func8, Try.ntmps8
    go_wp2_with (first
      | (go_at_call 19; refine (h19 _).mono ?_; rintro e w3 ⟨rfl, hw3⟩; subst w3)
      | (go_at_call 10; refine (h10 _).mono ?_; clear h10; rintro e w2 ⟨r, rfl, H2⟩
         obtain ⟨ra, rc, er, _⟩ := Row.of_own H2.out.1
         simp only [List.length_nil] at er
         subst er
         obtain ⟨c0, c1, _⟩ := cells2 (heap_last w2 (.cells #[.slice ra 0 rc, .bool false] 25))
         have K2 := Hid.mk' (H2.out.2.alloc (.cells #[.slice ra 0 rc, .bool false] 25)))
      | (go_at_call 9; refine h9.mono ?_; clear h9; rintro e w1 ⟨rfl, hk1⟩))
    go_ret
    exact ⟨rfl, hk1.trans K2.out⟩
end Go.Proofs.Ytfekgfimbkgkfaa
