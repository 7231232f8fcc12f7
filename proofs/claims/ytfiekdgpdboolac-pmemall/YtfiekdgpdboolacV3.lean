import Derived.Test.YtfiekdgpdboolacV2
namespace Go.Proofs.Ytfiekdgpdboolac
open Go.RowKit Go.Maps

theorem store_big (w : World) (F : Nat → Prop) (d : Nat) (S : St) (L : Lay) (at_ v : Int) (h : DevAt w F d S L) (h0 : 0 ≤ at_) (h1 : at_ + 8 ≤ S.old.length) (h8 : at_ % 8 = 0) (hv : 0 ≤ v ∧ v < 18446744073709551616)
    (hs' : S.steps ≤ 900000000) (live : ¬ (S.armed = true ∧ S.left = 0)) :
    Calls Try.prog 29 #[.pointer (some ⟨d, 0, none⟩), .int .i64 at_, .int .u64 v] w fun e w' => e = .returned (.int .i64 0) ∧ ∃ F' L', DevAt w' F' d (S.store at_ v) L' ∧ Keeps F w w' ∧ Fresh F F' w := by
  have hsz := h.size
  have hbad : badWord S.old.length at_ = 0 := by unfold badWord; rw [if_pos (by omega), if_pos h8]
  have hwf := wf_i64 h0 (by omega : at_ ≤ 1000000000)
  have hnn := h.nns
  have hlen := h.lens at_
  by_cases hp : S.pd at_ = []
  · refine (store_new d _ _ _ L.bm L.nn at_ v L.room S.steps S.left S.armed L.D w h.dev hbad hwf h.nonneg (by omega) h.lefts.1 h.lefts.2 live h.hmap (h.at_none hp) (by omega)).mono ?_
    rintro e w' ⟨rfl, g, gc, hd, hpn, hrow, hg, hm, hk⟩
    have hms : S.ms at_ = 0 := by have := h.marks at_; rw [hp] at this; simpa using this
    refine ⟨rfl, _, _, h.stored at_ v h0 h1 h8 hv live w.heap.size g gc (L.nn + 1) _ hd (hk.block _ (heap_lt h.bytes) (by simp [h.d_ne_ob, Ne.symm h.ob_ne_bm])) hm ?_ ?_ ?_ ?_ ?_ ?_ (by omega) hk.size, hk.mono ?_, ?_⟩
    · intro a z
      by_cases ha : a = at_
      · subst ha
        rw [atKey_put_same h.hmap.isMap (isKey_int _), if_pos rfl]
      · rw [atKey_put_other (by intro e; cases e; exact ha rfl), if_neg ha]
    · intro a _ ha
      exact ⟨(hk.block _ (heap_lt (h.pend a ha).1) (by simp [h.p_ne_d ha, h.p_ne_bm ha])).trans (h.pend a ha).1,
        hk.row (h.pend a ha).2 (fun g' hg' => by simp [Value.ownBlock] at hg'; subst hg'; simp [h.g_ne_d ha, h.g_ne_bm ha])⟩
    · rw [hp, hms]; exact hpn
    · rw [hp]; simpa [u64s] using hrow
    · intro b _ hb e; have := heap_lt (h.pend b hb).1; omega
    · intro b _ hb e; have := row_lt (h.pend b hb).2; omega
    · rintro k _ (rfl | rfl)
      · exact h.fd
      · exact h.fm
    · rintro k (hk' | rfl | rfl)
      · exact Or.inl hk'
      · exact Or.inr (Nat.le_refl _)
      · exact Or.inr hg
  · have hpe := h.pend at_ hp
    refine (store_old d _ _ _ L.bm L.nn (L.pp at_) (S.pd at_).length (L.gg at_) (L.cp at_) at_ v L.room S.steps S.left (S.ms at_) S.armed L.D (u64s (S.pd at_)) w h.dev hbad hwf h.nonneg (by omega) h.lefts.1 h.lefts.2 live h.hmap (h.at_some hp) hpe.1 hpe.2 (by omega)).mono ?_
    rintro e w' ⟨rfl, g, gc, hd, hpn, hrow, hg, hk⟩
    refine ⟨rfl, _, _, h.stored at_ v h0 h1 h8 hv live (L.pp at_) g gc L.nn L.D hd (hk.block _ (heap_lt h.bytes) (by simp [h.d_ne_ob, Ne.symm (h.p_ne_ob hp), Ne.symm (h.g_ne_ob hp)])) (hk.map h.hmap (by simp [h.d_ne_bm, Ne.symm (h.p_ne_bm hp), Ne.symm (h.g_ne_bm hp)])) ?_ ?_ hpn ?_ ?_ ?_ (by omega) hk.size, hk.mono ?_, ?_⟩
    · intro a z
      by_cases ha : a = at_
      · subst ha
        rw [h.at_some hp, if_pos rfl]
      · rw [if_neg ha]
    · intro a hne ha
      have e1 : L.pp a ≠ L.pp at_ := fun e => hne (h.injp a at_ ha hp e)
      have e2 : L.gg a ≠ L.gg at_ := fun e => hne (h.injg a at_ ha hp e)
      exact ⟨(hk.block _ (heap_lt (h.pend a ha).1) (by simp [h.p_ne_d ha, e1, Ne.symm (h.g_ne_p hp ha)])).trans (h.pend a ha).1,
        hk.row (h.pend a ha).2 (fun g' hg' => by simp [Value.ownBlock] at hg'; subst hg'; simp [h.g_ne_d ha, h.g_ne_p ha hp, e2])⟩
    · simpa [u64s] using hrow
    · intro b hne hb e; exact hne (h.injp b at_ hb hp e)
    · intro b hne hb e
      rcases hg with rfl | hg
      · exact hne (h.injg b at_ hb hp e)
      · have := row_lt (h.pend b hb).2; omega
    · rintro k _ (rfl | rfl | rfl)
      · exact h.fd
      · exact (h.fp at_ hp).1
      · exact (h.fp at_ hp).2
    · rintro k (hk' | rfl | rfl)
      · exact Or.inl hk'
      · exact Or.inl (h.fp at_ hp).1
      · rcases hg with rfl | hg
        · exact Or.inl (h.fp at_ hp).2
        · exact Or.inr hg

set_option maxHeartbeats 1000000 in
theorem write_big (w : World) (F : Nat → Prop) (d : Nat) (S : St) (L : Lay) (at_ : Int) (p : Option Addr) (cap : Nat) (l : List Int) (h : DevAt w F d S L) (hcap : 8 * l.length ≤ cap)
    (hB : 0 < l.length → ∃ g, p = some ⟨g, 0, none⟩ ∧ ¬ F g ∧ g < w.heap.size ∧ ∀ i, i < 8 * l.length → w.cell? ⟨g, i, none⟩ = some (.int .u8 ((laidB l).getD i 0)))
    (hv : ∀ i, i < l.length → 0 ≤ l.getD i 0 ∧ l.getD i 0 < 18446744073709551616)
    (h0 : 0 ≤ at_) (h8 : at_ % 8 = 0) (h1 : at_ + 8 * l.length ≤ S.old.length) (hs : S.steps ≤ 100000000) :
    Calls Try.prog 31 #[.pointer (some ⟨d, 0, none⟩), .int .i64 at_, .slice p (8 * l.length : Nat) cap] w fun e w' => e = .returned (.int .i64 (runStores S at_ l).1) ∧ Moved F d w w' (runStores S at_ l).2 := by
  have hsz := h.size
  obtain ⟨N, hN⟩ : ∃ N : Nat, N = 8 * l.length := ⟨_, rfl⟩
  obtain ⟨c0, _⟩ := dev_cells h.dev
  have hwi := within_yes d S.old.length S.old.length _ at_ N w c0 h0 (by omega) (by omega) (by omega) (by omega)
  have ht1 : at_.tmod 8 = 0 := by rw [Int.tmod_eq_emod_of_nonneg h0]; exact h8
  have ht2 : (N : Int).tmod 8 = 0 := by rw [Int.tmod_eq_emod_of_nonneg (by omega)]; omega
  have hat : at_ ≤ 524288 := by omega
  have hNb : N ≤ 524288 := by omega
  have hcN : N ≤ cap := by omega
  have HD := Hid.mk' h
  have HB := Hid.mk' (show N = 8 * l.length ∧ (0 < l.length → ∃ g, p = some ⟨g, 0, none⟩ ∧ ¬ F g ∧ g < w.heap.size ∧ ∀ i, i < 8 * l.length → w.cell? ⟨g, i, none⟩ = some (.int .u8 ((laidB l).getD i 0))) ∧ (∀ i, i < l.length → 0 ≤ l.getD i 0 ∧ l.getD i 0 < 18446744073709551616) from ⟨hN, hB, hv⟩)
  have HH := Hid.mk' (show at_ % 8 = 0 ∧ at_ + 8 * l.length ≤ S.old.length ∧ S.steps ≤ 100000000 from ⟨h8, h1, hs⟩)
  rw [← hN]
  clear h hB hv h8 h1 hs hsz hN c0 hcap
  go_enter Try.func31, Try.ntmps31
  go_wp2_with (first | (go_at_call 61; refine hwi.mono ?_; rintro e w' ⟨rfl, hw⟩; subst w'))
  go_loopw [7] (fun i wr => ∃ k : Nat, k ≤ l.length ∧ i = .int .i64 ((8 * k : Nat) : Int) ∧ Hid (∃ T, Moved F d w wr T ∧ runStores S at_ l = runStores T (at_ + 8 * k) (l.drop k) ∧ T.old.length = S.old.length ∧ T.steps = S.steps + k))
    (fun i _ => N - (intOf i).toNat)
  case atStart => exact ⟨0, by omega, rfl, S, ⟨F, L, HD.out, Keeps.refl _ _, fun k hk => Or.inl hk⟩, by simp, rfl, by simp⟩
  case round =>
    obtain ⟨k, hk, rfl, hrel⟩ := hrel
    obtain ⟨T, ⟨F1, L1, hdev, hkp, hfr⟩, hrun, hlen, hst⟩ := hrel
    obtain ⟨a1, a2, a3⟩ := HH.out
    obtain ⟨z1, z2, z3⟩ := HB.out
    obtain ⟨K, hK⟩ : ∃ K, K = 8 * k := ⟨_, rfl⟩
    rw [← hK]
    by_cases hlt : k < l.length
    · obtain ⟨g, rfl, hnb, hb, hc⟩ := z2 (by omega)
      have hga := gather_any g K (N - K) (cap - K) (fun j => (laidB l).getD (8 * k + j) 0) wr (by omega) (fun j hj => by rw [hK]; exact hkp.cell (hc (8 * k + j) (by omega)) hnb) (fun j hj => by rw [laidB_get l k j hlt hj]; exact byteOf_bd _ _)
      rw [gsum_laid hlt (z3 k hlt)] at hga
      have c2 := z3 k hlt
      rw [drop_cons hlt] at hrun
      have hlt' : (K : Int) < (N : Int) := by omega
      have hk0 : (0 : Int) ≤ (K : Int) := by omega
      have hq1 : ¬ cap = K := by omega
      have hq2 : K ≤ cap := by omega
      have hq3 : K ≤ N := by omega
      have hq4 : (K : Int) ≤ (N : Int) := by omega
      generalize l.getD k 0 = v at *
      clear hc z2 z3
      by_cases hdd : T.isDead = true
      · have hso := store_dead wr F1 d T L1 (at_ + (K : Int)) v hdev (by omega) (by omega) (by omega) (isDead_yes hdd).1 (isDead_yes hdd).2
        have e : runStores S at_ l = (13, T) := by rw [hrun]; simp [runStores, hdd]
        have HX := Hid.mk' (show Moved F d w wr T from ⟨F1, L1, hdev, hkp, hfr⟩)
        have HE := Hid.mk' e
        clear hdev hkp hfr hrun hlen hst hdd a1 a2 a3 e c2 hK z1 hlt hk
        go_wp2_with (first
          | (go_at_call 58; refine hga.mono ?_; rintro e w4 ⟨rfl, hw⟩; subst w4)
          | (go_at_call 29; refine hso.mono ?_; rintro e w4 ⟨rfl, hw⟩; subst w4))
        go_ret
        exact ⟨by rw [HE.out]; rfl, by rw [HE.out]; exact HX.out⟩
      · have hso := store_big wr F1 d T L1 (at_ + (K : Int)) v hdev (by omega) (by omega) (by omega) c2 (by omega) (isDead_no hdd)
        have e : runStores S at_ l = runStores (T.store (at_ + (K : Int)) v) (at_ + 8 * ((k + 1 : Nat) : Int)) (l.drop (k + 1)) := by
          rw [hrun]; simp only [runStores, hdd]
          rw [show at_ + 8 * (k : Int) + 8 = at_ + 8 * ((k + 1 : Nat) : Int) by omega, show at_ + 8 * (k : Int) = at_ + (K : Int) by omega]; rfl
        have HX := Hid.mk' (show Keeps F w wr ∧ Fresh F F1 w from ⟨hkp, hfr⟩)
        have HE := Hid.mk' (show _ ∧ T.old.length = S.old.length ∧ T.steps = S.steps + k ∧ K = 8 * k ∧ k < l.length ∧ N = 8 * l.length from ⟨e, hlen, hst, hK, hlt, z1⟩)
        clear hdev hkp hfr hrun hlen hst hdd a1 a2 a3 e c2 hK z1 hlt hk
        go_wp2_with (first
          | (go_at_call 58; refine hga.mono ?_; rintro e w4 ⟨rfl, hw⟩; subst w4)
          | (go_at_call 29; refine hso.mono ?_; rintro e w4 ⟨rfl, hx⟩; have HM := Hid.mk' hx; clear hx))
        go_roundw
        case rel =>
          obtain ⟨g1, g2, g3, g4, g5, g6⟩ := HE.out
          refine ⟨k + 1, by omega, ?_, _, moved_next HX.out.1 HX.out.2 HM.out, g1, g2, ?_⟩
          · rw [g4]; first | (congr 1; omega) | go_num
          · simp only [St.store, St.tick]; omega
        case measure => simp [intOf]; omega
    · obtain rfl : k = l.length := by omega
      have e : runStores S at_ l = (0, T) := by rw [hrun, List.drop_length]; rfl
      have HX := Hid.mk' (show Moved F d w wr T from ⟨F1, L1, hdev, hkp, hfr⟩)
      have HE := Hid.mk' e
      have hlt' : ¬ (K : Int) < (N : Int) := by omega
      have hkb : K ≤ 524288 := by omega
      clear hdev hkp hfr hrun hlen hst e hK z1 z2 z3 hlt hk a1 a2 a3
      go_wp2
      go_ret
      exact ⟨by rw [HE.out]; rfl, by rw [HE.out]; exact HX.out⟩

set_option maxHeartbeats 1000000 in
theorem flushAll_big (w : World) (F : Nat → Prop) (d : Nat) (S : St) (L : Lay) (a n q m : Nat) (h : DevAt w F d S L) (h8 : S.old.length % 512 = 0) (h1 : a + n ≤ S.old.length) (hs : S.steps ≤ 100000000)
    (hq : q = a / 64) (hm : m = if n = 0 then 0 else (a + n - 1) / 64 - q + 1) :
    Calls Try.prog 35 #[.pointer (some ⟨d, 0, none⟩), .int .i64 a, .int .i64 n] w fun e w' => e = .returned (.int .i64 (runFlushes S (64 * (q : Int)) m).1) ∧ Moved F d w w' (runFlushes S (64 * (q : Int)) m).2 := by
  have hsz := h.size
  obtain ⟨c0, _⟩ := dev_cells h.dev
  have hwi := within_yes d S.old.length S.old.length _ a n w c0 (by omega) (by omega) (by omega) (by omega) (by omega)
  have han : a + n ≤ 524288 := by omega
  obtain ⟨r, hr⟩ : ∃ r : Nat, r = a % 64 := ⟨_, rfl⟩
  have hat : (a : Int).tmod 64 = (r : Int) := by rw [Int.tmod_eq_emod_of_nonneg (by omega)]; omega
  have hsub : (a : Int) - (r : Int) = 64 * (q : Int) := by omega
  have hwr : IntKind.i64.wrap ((a : Int) - (r : Int)) = 64 * (q : Int) := by rw [hsub]; exact wrap_id (by omega) (by omega)
  have HD := Hid.mk' h
  have HH := Hid.mk' (show S.old.length % 512 = 0 ∧ a + n ≤ S.old.length ∧ S.steps ≤ 100000000 from ⟨h8, h1, hs⟩)
  by_cases hn0 : n = 0
  · have hm0 : m = 0 := by rw [hm, if_pos hn0]
    have nz : ((n : Int) == 0) = true := by simp [hn0]
    have HM := Hid.mk' hm0
    clear h h8 h1 hs hsz hq hm hn0 hm0 c0
    go_enter Try.func35, Try.ntmps35
    go_wp2_with (first | (go_at_call 61; refine hwi.mono ?_; rintro e w' ⟨rfl, hw⟩; subst w'))
    go_ret
    exact ⟨by rw [HM.out]; rfl, by rw [HM.out]; exact ⟨F, L, HD.out, Keeps.refl _ _, fun k hk => Or.inl hk⟩⟩
  · rw [if_neg hn0] at hm
    have nz : ((n : Int) == 0) = false := by simp [hn0]
    have hzm : 64 * q + 64 * m < a + n + 64 ∧ a + n ≤ 64 * q + 64 * m ∧ 0 < m := by omega
    have HZ := Hid.mk' hzm
    have hrb : r ≤ 63 ∧ r ≤ a := by omega
    obtain ⟨hrb1, hrb2⟩ := hrb
    clear h h8 h1 hs hsz hq hm hn0 hr hzm c0
    go_enter Try.func35, Try.ntmps35
    go_wp2_with (first | (go_at_call 61; refine hwi.mono ?_; rintro e w' ⟨rfl, hw⟩; subst w'))
    go_loopw [7] (fun i wr => ∃ k : Nat, k ≤ m ∧ i = .int .i64 ((64 * (q + k) : Nat) : Int) ∧ Hid (∃ T, Moved F d w wr T ∧ runFlushes S (64 * (q : Int)) m = runFlushes T ((64 * (q + k) : Nat) : Int) (m - k) ∧ T.old.length = S.old.length ∧ T.steps = S.steps + k))
      (fun i _ => a + n - (intOf i).toNat)
    case atStart => exact ⟨0, by omega, by first | rfl | (congr 1; omega) | go_num, S, ⟨F, L, HD.out, Keeps.refl _ _, fun k hk => Or.inl hk⟩, by simp, rfl, by simp⟩
    case round =>
      obtain ⟨k, hk, rfl, hrel⟩ := hrel
      obtain ⟨T, ⟨F1, L1, hdev, hkp, hfr⟩, hrun, hlen, hst⟩ := hrel
      obtain ⟨y, hy⟩ : ∃ y, y = 64 * (q + k) := ⟨_, rfl⟩
      rw [← hy] at hrun ⊢
      obtain ⟨z1, z2, z3⟩ := HZ.out
      obtain ⟨b1, b2, b3⟩ := HH.out
      by_cases hlt : k < m
      · have hyz : (y : Int) < (a : Int) + (n : Int) := by omega
        rw [show m - k = (m - (k + 1)) + 1 by omega] at hrun
        have hyb : y ≤ 524288 := by omega
        by_cases hdd : T.isDead = true
        · have hso := flush_dead wr F1 d T L1 (y : Int) hdev (by omega) (by omega) (isDead_yes hdd).1 (isDead_yes hdd).2
          have e : runFlushes S (64 * (q : Int)) m = (13, T) := by rw [hrun]; simp [runFlushes, hdd]
          have HX := Hid.mk' (show Moved F d w wr T from ⟨F1, L1, hdev, hkp, hfr⟩)
          have HE := Hid.mk' e
          clear hdev hkp hfr hrun hlen hst hdd e z1 z2 z3 b1 b2 b3 hy hlt hk
          go_wp2_with (first | (go_at_call 33; refine hso.mono ?_; rintro e w4 ⟨rfl, hw⟩; subst w4))
          go_ret
          exact ⟨by rw [HE.out]; rfl, by rw [HE.out]; exact HX.out⟩
        · have hso := flush_dev wr F1 d T L1 (y : Int) hdev (by omega) (by omega) (by omega) (by omega) (isDead_no hdd)
          have e : runFlushes S (64 * (q : Int)) m = runFlushes (T.flush (y : Int)) ((64 * (q + (k + 1)) : Nat) : Int) (m - (k + 1)) := by
            rw [hrun]; simp only [runFlushes, hdd]
            rw [show (y : Int) + 64 = ((64 * (q + (k + 1)) : Nat) : Int) by omega]; rfl
          have HX := Hid.mk' (show Keeps F w wr ∧ Fresh F F1 w from ⟨hkp, hfr⟩)
          have HE := Hid.mk' (show _ ∧ T.old.length = S.old.length ∧ T.steps = S.steps + k ∧ y = 64 * (q + k) ∧ k < m from ⟨e, hlen, hst, hy, hlt⟩)
          clear hdev hkp hfr hrun hlen hst hdd e z1 z2 z3 b1 b2 b3 hy hlt hk
          go_wp2_with (first | (go_at_call 33; refine hso.mono ?_; rintro e w4 ⟨rfl, hx1, hx2⟩; have HM := Hid.mk' (show Moved F1 d wr w4 _ from ⟨F1, L1, hx1, hx2, fun k hk => Or.inl hk⟩); clear hx1 hx2))
          go_roundw
          case rel =>
            obtain ⟨g1, g2, g3, g4, g5⟩ := HE.out
            refine ⟨k + 1, by omega, ?_, _, moved_next HX.out.1 HX.out.2 HM.out, g1, g2, ?_⟩
            · rw [g4]; first | (congr 1; omega) | go_num
            · simp only [St.flush, St.flushTo, St.tick]; omega
          case measure => simp [intOf]; omega
      · obtain rfl : k = m := by omega
        have hyz : ¬ (y : Int) < (a : Int) + (n : Int) := by omega
        have hyb : y ≤ 1000000 := by omega
        have e : runFlushes S (64 * (q : Int)) k = (0, T) := by rw [hrun, Nat.sub_self]; rfl
        have HX := Hid.mk' (show Moved F d w wr T from ⟨F1, L1, hdev, hkp, hfr⟩)
        have HE := Hid.mk' e
        clear hdev hkp hfr hrun hlen hst e z1 z2 z3 b1 b2 b3 hy hlt hk
        go_wp2
        go_ret
        exact ⟨by rw [HE.out]; rfl, by rw [HE.out]; exact HX.out⟩

theorem rel_stores : ∀ (l : List Int) (S : St) (R : Rf) (t : Nat), Rel S R → t + l.length ≤ 8 * R.n → (runStores S (8 * t : Nat) l).1 = (R.stores (8 * t : Nat) l).1 ∧ Rel (runStores S (8 * t : Nat) l).2 (R.stores (8 * t : Nat) l).2
  | [], S, R, t, h, _ => ⟨rfl, h⟩
  | v :: l, S, R, t, h, ht => by
    simp only [List.length_cons] at ht
    unfold runStores Rf.stores
    by_cases hd : S.isDead = true
    · rw [if_pos hd, if_pos (h.dead.1 hd)]
      exact ⟨rfl, h⟩
    · have hl : R.left ≠ 0 := fun e => hd (h.dead.2 e)
      rw [if_neg hd, if_neg hl, show ((8 * t : Nat) : Int) + 8 = ((8 * (t + 1) : Nat) : Int) by omega]
      exact rel_stores l _ _ (t + 1) (rel_store h hl t (by omega) v) (by show t + 1 + l.length ≤ 8 * R.n; omega)

theorem rel_flushes : ∀ (k : Nat) (S : St) (R : Rf) (q : Nat), Rel S R → q + k ≤ R.n → (runFlushes S (64 * (q : Int)) k).1 = (R.flushes (64 * (q : Int)) k).1 ∧ Rel (runFlushes S (64 * (q : Int)) k).2 (R.flushes (64 * (q : Int)) k).2
  | 0, S, R, q, h, _ => ⟨rfl, h⟩
  | k + 1, S, R, q, h, hq => by
    unfold runFlushes Rf.flushes
    by_cases hd : S.isDead = true
    · rw [if_pos hd, if_pos (h.dead.1 hd)]
      exact ⟨rfl, h⟩
    · have hl : R.left ≠ 0 := fun e => hd (h.dead.2 e)
      rw [if_neg hd, if_neg hl, show 64 * (q : Int) + 64 = 64 * ((q + 1 : Nat) : Int) by omega]
      exact rel_flushes k _ _ (q + 1) (rel_flush h hl (64 * (q : Int)) (by omega) (by omega)) (by show q + 1 + k ≤ R.n; omega)

theorem moved_same {F : Nat → Prop} {d : Nat} {w : World} {S : St} {L : Lay} (h : DevAt w F d S L) : Moved F d w w S := ⟨F, L, h, Keeps.refl _ _, fun _ hk => Or.inl hk⟩

set_option maxHeartbeats 400000 in
/-- Store, whatever its address, on any device that is the document's. -/
theorem store_rel (w : World) (F : Nat → Prop) (d : Nat) (S : St) (L : Lay) (R : Rf) (a v : Int) (h : DevAt w F d S L) (hr : Rel S R) (hv : 0 ≤ v ∧ v < 18446744073709551616) (hs : S.steps ≤ 900000000) :
    Calls Try.prog 29 #[.pointer (some ⟨d, 0, none⟩), .int .i64 a, .int .u64 v] w fun e w' => e = .returned (.int .i64 (R.store a v).1) ∧ ∃ T, Moved F d w w' T ∧ Rel T (R.store a v).2 := by
  obtain ⟨c0, _⟩ := dev_cells h.dev
  have hcw := checkWord_any d _ _ _ a w c0
  rw [hr.len] at hcw
  unfold Rf.store
  by_cases hb : badWord (64 * R.n) a = 0
  · obtain ⟨b1, b2, b3⟩ := badWord_zero hb
    rw [if_pos hb]
    by_cases hd : S.isDead = true
    · rw [if_pos (hr.dead.1 hd)]
      refine (store_dead w F d S L a v h b1 (by rw [hr.len]; omega) b3 (isDead_yes hd).1 (isDead_yes hd).2).mono ?_
      rintro e w' ⟨rfl, rfl⟩
      exact ⟨rfl, S, moved_same h, hr⟩
    · have hl : R.left ≠ 0 := fun e => hd (hr.dead.2 e)
      rw [if_neg hl]
      refine (store_big w F d S L a v h b1 (by rw [hr.len]; omega) b3 hv hs (isDead_no hd)).mono ?_
      rintro e w' ⟨rfl, hx⟩
      obtain ⟨t, ht⟩ : ∃ t : Nat, a = ((8 * t : Nat) : Int) := ⟨(a / 8).toNat, by omega⟩
      exact ⟨rfl, _, hx, by rw [ht]; exact rel_store hr hl t (by omega) v⟩
  · rw [if_neg hb]
    have HX := Hid.mk' (show (∃ T, Moved F d w w T ∧ Rel T R) from ⟨S, moved_same h, hr⟩)
    have hb2 : (badWord (64 * R.n) a == 0) = false := by simp [hb]
    generalize badWord (64 * R.n) a = bw at *
    clear h hr hb c0
    go_enter Try.func29, Try.ntmps29
    go_wp2_with (first
      | (go_at_call 56; refine hcw.mono ?_; rintro e w' ⟨rfl, hw⟩; subst w'))
    go_ret
    exact ⟨rfl, HX.out⟩

set_option maxHeartbeats 400000 in
theorem flush_rel (w : World) (F : Nat → Prop) (d : Nat) (S : St) (L : Lay) (R : Rf) (a : Int) (h : DevAt w F d S L) (hr : Rel S R) (hs : S.steps ≤ 900000000) :
    Calls Try.prog 33 #[.pointer (some ⟨d, 0, none⟩), .int .i64 a] w fun e w' => e = .returned (.int .i64 (R.flush a).1) ∧ ∃ T, Moved F d w w' T ∧ Rel T (R.flush a).2 := by
  obtain ⟨c0, _⟩ := dev_cells h.dev
  have hcw := has_any d _ _ _ a w c0
  rw [hr.len] at hcw
  unfold Rf.flush
  by_cases hb : 0 ≤ a ∧ a < 64 * (R.n : Int)
  · rw [if_pos hb]
    by_cases hd : S.isDead = true
    · rw [if_pos (hr.dead.1 hd)]
      refine (flush_dead w F d S L a h hb.1 (by rw [hr.len]; omega) (isDead_yes hd).1 (isDead_yes hd).2).mono ?_
      rintro e w' ⟨rfl, rfl⟩
      exact ⟨rfl, S, moved_same h, hr⟩
    · have hl : R.left ≠ 0 := fun e => hd (hr.dead.2 e)
      rw [if_neg hl]
      refine (flush_dev w F d S L a h hb.1 (by rw [hr.len]; omega) (by rw [hr.len]; have := hr.n8; omega) (by omega) (isDead_no hd)).mono ?_
      rintro e w' ⟨rfl, hx1, hx2⟩
      exact ⟨rfl, _, ⟨F, L, hx1, hx2, fun _ hk => Or.inl hk⟩, rel_flush hr hl a hb.1 hb.2⟩
  · rw [if_neg hb]
    have HX := Hid.mk' (show (∃ T, Moved F d w w T ∧ Rel T R) from ⟨S, moved_same h, hr⟩)
    have hf : (decide (0 ≤ a) && decide (a < ((64 * R.n : Nat) : Int))) = false := by
      by_cases h1 : 0 ≤ a
      · have : ¬ a < ((64 * R.n : Nat) : Int) := by omega
        simp only [this, decide_false, Bool.and_false]
      · simp only [h1, decide_false, Bool.false_and]
    rw [hf] at hcw
    clear h hr hb c0 hf
    go_enter Try.func33, Try.ntmps33
    go_wp2_with (first
      | (go_at_call 66; refine hcw.mono ?_; rintro e w' ⟨rfl, hw⟩; subst w'))
    go_ret
    exact ⟨rfl, HX.out⟩

theorem fence_rel (w : World) (F : Nat → Prop) (d : Nat) (S : St) (L : Lay) (R : Rf) (h : DevAt w F d S L) (hr : Rel S R) (hs : S.steps ≤ 900000000) :
    Calls Try.prog 37 #[.pointer (some ⟨d, 0, none⟩)] w fun e w' => e = .returned (.int .i64 R.fence.1) ∧ ∃ T, Moved F d w w' T ∧ Rel T R.fence.2 := by
  unfold Rf.fence
  by_cases hd : S.isDead = true
  · rw [if_pos (hr.dead.1 hd)]
    refine (fence_dead w F d S L h (isDead_yes hd).1 (isDead_yes hd).2).mono ?_
    rintro e w' ⟨rfl, rfl⟩
    exact ⟨rfl, S, moved_same h, hr⟩
  · have hl : R.left ≠ 0 := fun e => hd (hr.dead.2 e)
    rw [if_neg hl]
    refine (fence_dev w F d S L h (by omega) (isDead_no hd)).mono ?_
    rintro e w' ⟨rfl, hx⟩
    exact ⟨rfl, _, hx, rel_fence hr hl h.marks (fun a v hv => h.vals a v hv)⟩

set_option maxHeartbeats 400000 in
theorem arm_rel (w : World) (F : Nat → Prop) (d : Nat) (S : St) (L : Lay) (R : Rf) (l : Int) (h : DevAt w F d S L) (hr : Rel S R) (h1 : l ≤ 9223372036854775807) :
    Calls Try.prog 39 #[.pointer (some ⟨d, 0, none⟩), .int .i64 l] w fun e w' => e = .returned (.int .i64 (R.arm l).1) ∧ ∃ T, Moved F d w w' T ∧ Rel T (R.arm l).2 := by
  obtain ⟨c0, c1, c2, c3, c4, c5, c6⟩ := dev_cells h.dev
  have hde := dead_any d _ _ w c4 c5
  unfold Rf.arm
  by_cases hneg : l < 0
  · rw [if_pos hneg]
    have HX := Hid.mk' (show (∃ T, Moved F d w w T ∧ Rel T R) from ⟨S, moved_same h, hr⟩)
    clear h hr c0 c1 c2 c3 c4 c5 c6 hde
    go_enter Try.func39, Try.ntmps39
    go_wp2
    go_ret
    exact ⟨rfl, HX.out⟩
  · rw [if_neg hneg]
    by_cases hd : S.isDead = true
    · rw [if_pos (hr.dead.1 hd)]
      have HX := Hid.mk' (show (∃ T, Moved F d w w T ∧ Rel T R) from ⟨S, moved_same h, hr⟩)
      have e1 : (S.armed && (S.left == 0)) = true := hd
      rw [e1] at hde
      clear h hr c0 c1 c2 c3 c4 c5 c6 hd e1
      go_enter Try.func39, Try.ntmps39
      go_wp2_with (first | (go_at_call 43; refine hde.mono ?_; rintro e w' ⟨rfl, hw⟩; subst w'))
      go_ret
      exact ⟨rfl, HX.out⟩
    · have hl : R.left ≠ 0 := fun e => hd (hr.dead.2 e)
      rw [if_neg hl]
      have e1 : (S.armed && (S.left == 0)) = false := by simpa [St.isDead] using hd
      rw [e1] at hde
      have H := Hid.mk' h
      have HRL := Hid.mk' (rel_arm hr l (by omega))
      clear h hr c0 c1 c2 c3 hd e1 hl
      go_enter Try.func39, Try.ntmps39
      go_wp2_with (first | (go_at_call 43; refine hde.mono ?_; rintro e w' ⟨rfl, hw⟩; subst w'))
      go_ret
      have g : w.grownBy ((w.setCell ⟨d, 4, none⟩ (.bool true)).setCell ⟨d, 5, none⟩ (.int .i64 l)) (some d) := grownBy_trans (grownBy_setCell _ ⟨d, 4, none⟩ _) (grownBy_setCell _ ⟨d, 5, none⟩ _)
      refine ⟨rfl, _, ⟨F, L, H.out.rearmed (lf := l) ?_ g ⟨by omega, h1⟩, Keeps.of g (by rintro k hk; cases hk; exact Or.inl H.out.fd), fun _ hk => Or.inl hk⟩, HRL.out⟩
      have := setCell_block (a := ⟨d, 4, none⟩) (v := .bool true) H.out.dev rfl
      have := setCell_block (a := ⟨d, 5, none⟩) (v := .int .i64 l) this rfl
      simpa [devCells] using this

end Go.Proofs.Ytfiekdgpdboolac

namespace Go.Proofs.Ytfiekdgpdboolac
open Go.RowKit Go.Maps

/-- A list of bytes, of ints that lies in memory. -/
def BytesAt (w : World) (p : Option Addr) (l : List Int) : Prop :=
  0 < l.length → ∃ b o, p = some ⟨b, o, none⟩ ∧ b < w.heap.size ∧ ∀ i, i < l.length → w.cell? ⟨b, o + i, none⟩ = some (.int .u8 (l.getD i 0))
def IntsAt (w : World) (p : Option Addr) (l : List Int) : Prop :=
  0 < l.length → ∃ b o, p = some ⟨b, o, none⟩ ∧ b < w.heap.size ∧ ∀ i, i < l.length → w.cell? ⟨b, o + i, none⟩ = some (.int .i64 (l.getD i 0))

theorem BytesAt.kept {w w' : World} {p : Option Addr} {l : List Int} {X : Nat → Prop} (h : BytesAt w p l) (k : Keeps X w w') (hX : ∀ i, X i → w.heap.size ≤ i) : BytesAt w' p l := by
  intro h0
  obtain ⟨b, o, e, hb, hc⟩ := h h0
  have hn : ¬ X b := fun hx => by have := hX b hx; omega
  exact ⟨b, o, e, Nat.lt_of_lt_of_le hb k.size, fun i hi => k.cell (hc i hi) hn⟩
theorem IntsAt.kept {w w' : World} {p : Option Addr} {l : List Int} {X : Nat → Prop} (h : IntsAt w p l) (k : Keeps X w w') (hX : ∀ i, X i → w.heap.size ≤ i) : IntsAt w' p l := by
  intro h0
  obtain ⟨b, o, e, hb, hc⟩ := h h0
  have hn : ¬ X b := fun hx => by have := hX b hx; omega
  exact ⟨b, o, e, Nat.lt_of_lt_of_le hb k.size, fun i hi => k.cell (hc i hi) hn⟩

set_option maxHeartbeats 400000 in
set_option maxRecDepth 20000 in
theorem copyB_any (w : World) (p : Option Addr) (cap : Nat) (bs : List Int) (hB : BytesAt w p bs) (hl : bs.length ≤ 140737488351232) :
    Calls Try.prog 19 #[.slice p bs.length cap] w fun e w' => ∃ v, e = .returned v ∧ w'.ownsRow w.heap.size 5 1 v bs.length (u8s bs) ∧ Keeps (fun _ => False) w w' := by
  obtain ⟨i0, hi, hz0, hz1, hz2⟩ := info_parts info5
  have HB := Hid.mk' hB
  clear hB
  go_enter Try.func19, Try.ntmps19
  go_wp2
  go_loopw [3, 4] (fun v i wr => ∃ k : Nat, k ≤ bs.length ∧ i = .int .i64 k ∧ wr.ownsRow w.heap.size 5 1 v k (u8s (bs.take k)) ∧ Keeps (fun _ => False) w wr)
    (fun _ i _ => bs.length - (intOf i).toNat)
  case atStart => exact ⟨0, by omega, rfl, by simpa [u8s] using World.ownsRow_nil w w.heap.size 5 1, Keeps.refl _ _⟩
  case round =>
    obtain ⟨k, hk, rfl, hown, hkp⟩ := hrel
    by_cases hlt : k < bs.length
    · obtain ⟨b, o, rfl, hb, hc⟩ := HB.out (by omega)
      have hcc := hkp.cell (hc k hlt) (by simp)
      have HS : Hid (u8s (bs.take (k + 1)) = u8s (bs.take k) ++ [.int .u8 (bs.getD k 0)]) := by
        show u8s _ = _
        rw [take_snoc' (0 : Int) hlt]; simp [u8s]
      have hsz := hkp.size
      have HKP := Hid.mk' hkp
      have hlt' : (k : Int) < (bs.length : Int) := by omega
      generalize bs.getD k 0 = x at *
      clear hkp hc
      go_wp2_with (first
        | (at_builtin; go_must (refine wpList_append_lies _ rfl _ _ 29 rfl w.heap.size 5 i0 (.int .u8 0) 1 1 Try.underlying29 hi hz0 hz1 hz2 rfl (by decide) u3 k (u8s (bs.take k)) rfl (hown.alloc _) ⟨wr.heap.size, 0, none⟩ 1 1 [.int .u8 x] rfl rfl (cell_one_new _ _ _) (by simp [Value.oneCell']) (by decide) (by unfold maxLen; omega) (by omega) (by simp; omega) (wr.heap.size + 1) (by simp) ?_); intro g2 c2 w2 hown2 hgrow2 hloc2 hlt2))
      go_roundw
      case rel =>
        refine ⟨k + 1, by omega, by go_num, by rw [HS.out]; exact hown2, ?_⟩
        refine (HKP.out.step (World.grownBy_alloc wr _ none) (by simp)).step hgrow2 ?_
        intro j hj
        exact Or.inr (hown.lt j hj).1
      case measure => simp [intOf]; omega
    · obtain rfl : k = bs.length := by omega
      have HKP := Hid.mk' hkp
      clear hkp
      rw [List.take_length] at hown
      go_wp2
      go_ret
      exact ⟨u3, rfl, hown, HKP.out⟩

set_option maxHeartbeats 400000 in
set_option maxRecDepth 20000 in
theorem copyI_any (w : World) (p : Option Addr) (cap : Nat) (bs : List Int) (hB : IntsAt w p bs) (hl : bs.length * 8 ≤ 140737488351232) :
    Calls Try.prog 48 #[.slice p bs.length cap] w fun e w' => ∃ v, e = .returned v ∧ w'.ownsRow w.heap.size 3 1 v bs.length (i64s bs) ∧ Keeps (fun _ => False) w w' := by
  obtain ⟨i0, hi, hz0, hz1, hz2⟩ := info_parts info3
  have HB := Hid.mk' hB
  clear hB
  go_enter Try.func48, Try.ntmps48
  go_wp2
  go_loopw [3, 4] (fun v i wr => ∃ k : Nat, k ≤ bs.length ∧ i = .int .i64 k ∧ wr.ownsRow w.heap.size 3 1 v k (i64s (bs.take k)) ∧ Keeps (fun _ => False) w wr)
    (fun _ i _ => bs.length - (intOf i).toNat)
  case atStart => exact ⟨0, by omega, rfl, by simpa [i64s] using World.ownsRow_nil w w.heap.size 3 1, Keeps.refl _ _⟩
  case round =>
    obtain ⟨k, hk, rfl, hown, hkp⟩ := hrel
    by_cases hlt : k < bs.length
    · obtain ⟨b, o, rfl, hb, hc⟩ := HB.out (by omega)
      have hcc := hkp.cell (hc k hlt) (by simp)
      have HS : Hid (i64s (bs.take (k + 1)) = i64s (bs.take k) ++ [.int .i64 (bs.getD k 0)]) := by
        show i64s _ = _
        rw [take_snoc' (0 : Int) hlt]; simp [i64s]
      have hsz := hkp.size
      have HKP := Hid.mk' hkp
      have hlt' : (k : Int) < (bs.length : Int) := by omega
      generalize bs.getD k 0 = x at *
      clear hkp hc
      go_wp2_with (first
        | (at_builtin; go_must (refine wpList_append_lies _ rfl _ _ 30 rfl w.heap.size 3 i0 (.int .i64 0) 1 8 Try.underlying30 hi hz0 hz1 hz2 rfl (by decide) u3 k (i64s (bs.take k)) rfl (hown.alloc _) ⟨wr.heap.size, 0, none⟩ 1 1 [.int .i64 x] rfl rfl (cell_one_new _ _ _) (by simp [Value.oneCell']) (by decide) (by unfold maxLen; omega) (by omega) (by simp; omega) (wr.heap.size + 1) (by simp) ?_); intro g2 c2 w2 hown2 hgrow2 hloc2 hlt2))
      go_roundw
      case rel =>
        refine ⟨k + 1, by omega, by go_num, by rw [HS.out]; exact hown2, ?_⟩
        refine (HKP.out.step (World.grownBy_alloc wr _ none) (by simp)).step hgrow2 ?_
        intro j hj
        exact Or.inr (hown.lt j hj).1
      case measure => simp [intOf]; omega
    · obtain rfl : k = bs.length := by omega
      have HKP := Hid.mk' hkp
      clear hkp
      rw [List.take_length] at hown
      go_wp2
      go_ret
      exact ⟨u3, rfl, hown, HKP.out⟩

set_option maxHeartbeats 400000 in
theorem within_any (d n cap : Nat) (ob : Option Addr) (a k : Int) (w : World) (h : w.cell? ⟨d, 0, none⟩ = some (.slice ob n cap)) (_hn : n ≤ 1000000) :
    Calls Try.prog 61 #[.pointer (some ⟨d, 0, none⟩), .int .i64 a, .int .i64 k] w fun e w' => e = .returned (.bool (insideB (n : Int) a k)) ∧ w' = w := by
  unfold insideB
  by_cases h0 : 0 ≤ a
  · by_cases h1 : 0 ≤ k
    · by_cases h2 : a ≤ (n : Int)
      · go_enter Try.func61, Try.ntmps61
        go_wp2
        go_ret
        exact ⟨ret_bool (by simp [*]), rfl⟩
      · go_enter Try.func61, Try.ntmps61
        go_wp2
        go_ret
        exact ⟨ret_bool (by simp; omega), rfl⟩
    · go_enter Try.func61, Try.ntmps61
      go_wp2
      go_ret
      exact ⟨ret_bool (by simp; omega), rfl⟩
  · go_enter Try.func61, Try.ntmps61
    go_wp2
    go_ret
    exact ⟨ret_bool (by simp; omega), rfl⟩

set_option maxHeartbeats 400000 in
theorem flushAll_rel (w : World) (F : Nat → Prop) (d : Nat) (S : St) (L : Lay) (R : Rf) (a n : Int) (h : DevAt w F d S L) (hr : Rel S R) (hs : S.steps ≤ 100000000) :
    Calls Try.prog 35 #[.pointer (some ⟨d, 0, none⟩), .int .i64 a, .int .i64 n] w fun e w' => e = .returned (.int .i64 (R.flushAll a n).1) ∧ ∃ T, Moved F d w w' T ∧ Rel T (R.flushAll a n).2 := by
  obtain ⟨c0, _⟩ := dev_cells h.dev
  rw [hr.len] at c0
  have hnb := hr.nb
  have hwi := within_any d (64 * R.n) (64 * R.n) _ a n w c0 (by omega)
  rw [show ((64 * R.n : Nat) : Int) = 64 * (R.n : Int) by omega] at hwi
  unfold Rf.flushAll
  by_cases hb : insideB (64 * (R.n : Int)) a n = true
  · have hb0 := hb
    simp [insideB] at hb0
    obtain ⟨⟨⟨b1, b2⟩, b3⟩, b4⟩ := hb0
    obtain ⟨an, rfl⟩ := Int.eq_ofNat_of_zero_le b1
    obtain ⟨nn, rfl⟩ := Int.eq_ofNat_of_zero_le b2
    rw [if_pos hb]
    refine (flushAll_big w F d S L an nn (an / 64) _ h (by rw [hr.len]; have := hr.n8; omega) (by rw [hr.len]; omega) hs rfl rfl).mono ?_
    rintro e w' ⟨rfl, hm⟩
    by_cases hn0 : nn = 0
    · subst hn0
      rw [if_pos rfl]
      exact ⟨rfl, _, hm, hr⟩
    · rw [if_neg hn0] at hm ⊢
      rw [if_neg (show ¬ (nn : Int) = 0 by omega)]
      have e1 : (an : Int) / 64 = ((an / 64 : Nat) : Int) := by omega
      have e2 : (((an : Int) + (nn : Int) - 1) / 64 - ((an / 64 : Nat) : Int) + 1).toNat = (an + nn - 1) / 64 - an / 64 + 1 := by omega
      rw [e1, e2]
      obtain ⟨q1, q2⟩ := rel_flushes ((an + nn - 1) / 64 - an / 64 + 1) S R (an / 64) hr (by omega)
      exact ⟨by rw [q1], _, hm, q2⟩
  · rw [if_neg hb]
    have hb2 : insideB (64 * (R.n : Int)) a n = false := by simpa using hb
    rw [hb2] at hwi
    have HX := Hid.mk' (show (∃ T, Moved F d w w T ∧ Rel T R) from ⟨S, moved_same h, hr⟩)
    clear h hr hb hb2 c0
    go_enter Try.func35, Try.ntmps35
    go_wp2_with (first | (go_at_call 61; refine hwi.mono ?_; rintro e w' ⟨rfl, hw⟩; subst w'))
    go_ret
    exact ⟨rfl, HX.out⟩

/-- Bytes are words, laid down. -/
theorem bytes_laid (bs : List Int) (hb : ∀ b ∈ bs, 0 ≤ b ∧ b ≤ 255) (h8 : bs.length % 8 = 0) : ∃ l : List Int, laidB l = bs ∧ bs.length = 8 * l.length ∧ ∀ i, i < l.length → 0 ≤ l.getD i 0 ∧ l.getD i 0 < 18446744073709551616 := by
  obtain ⟨l, hl⟩ : ∃ l : List Int, l = (List.range (bs.length / 8)).map fun t => wordAt bs (8 * t) := ⟨_, rfl⟩
  have hll : l.length = bs.length / 8 := by rw [hl]; simp
  have hg : ∀ i, i < l.length → l.getD i 0 = wordAt bs (8 * i) := fun i hi => by
    rw [hll] at hi
    rw [hl]; simp [List.getD_eq_getElem?_getD, hi]
  refine ⟨l, list_eq_getD 0 (by rw [laidB_len]; omega) fun j hj => ?_, by omega, fun i hi => by rw [hg i hi]; exact wordAt_bd bs _ hb⟩
  rw [laidB_len] at hj
  rw [show j = 8 * (j / 8) + j % 8 by omega, laidB_get l (j / 8) (j % 8) (by omega) (by omega), hg _ (by omega), byteOf_wordAt hb _ _ (by omega)]

set_option maxHeartbeats 400000 in
theorem write_badp (w : World) (F : Nat → Prop) (d : Nat) (S : St) (L : Lay) (R : Rf) (a : Int) (p : Option Addr) (n cap : Nat) (h : DevAt w F d S L) (hr : Rel S R) (hb : R.writeBad a n ≠ 0) :
    Calls Try.prog 31 #[.pointer (some ⟨d, 0, none⟩), .int .i64 a, .slice p n cap] w fun e w' => e = .returned (.int .i64 (R.writeBad a n)) ∧ w' = w := by
  obtain ⟨c0, _⟩ := dev_cells h.dev
  rw [hr.len] at c0
  have hnb := hr.nb
  have hin := within_any d (64 * R.n) (64 * R.n) _ a n w c0 (by omega)
  rw [show ((64 * R.n : Nat) : Int) = 64 * (R.n : Int) by omega] at hin
  clear h hr c0
  unfold Rf.writeBad at *
  by_cases hi : insideB (64 * (R.n : Int)) a n = true
  · have hi0 := hi
    simp [insideB] at hi0
    obtain ⟨⟨b1, b3⟩, b4⟩ := hi0
    rw [if_pos hi] at hb ⊢
    rw [hi] at hin
    have t1 : a.tmod 8 = a % 8 := Int.tmod_eq_emod_of_nonneg b1
    obtain ⟨m8, hm8⟩ : ∃ m8 : Int, m8 = (n : Int) % 8 := ⟨_, rfl⟩
    have t2 : (n : Int).tmod 8 = m8 := by rw [Int.tmod_eq_emod_of_nonneg (by omega), hm8]
    have t3 : (n : Int) % 8 = m8 := hm8.symm
    have hnot : ¬ (a % 8 = 0 ∧ n % 8 = 0) := fun h => hb (if_pos h)
    rw [if_neg hnot]
    by_cases ha : a % 8 = 0
    · have z1 : (a % 8 == 0) = true := by simp [ha]
      have z1' : (a % 8 != 0) = false := by simp [ha]
      have z2' : (m8 != 0) = true := by simp; omega
      have z2 : (m8 == 0) = false := by simp; omega
      clear hb hi hnot ha hm8
      go_enter Try.func31, Try.ntmps31
      go_wp2_with (first | (go_at_call 61; refine hin.mono ?_; rintro e w' ⟨rfl, hw⟩; subst w'))
      go_ret
      exact ⟨rfl, rfl⟩
    · have z1 : (a % 8 == 0) = false := by simp [ha]
      have z1' : (a % 8 != 0) = true := by simp [ha]
      clear hb hi hnot ha hm8
      go_enter Try.func31, Try.ntmps31
      go_wp2_with (first | (go_at_call 61; refine hin.mono ?_; rintro e w' ⟨rfl, hw⟩; subst w'))
      go_ret
      exact ⟨rfl, rfl⟩
  · rw [if_neg hi]
    have hi2 : insideB (64 * (R.n : Int)) a n = false := by simpa using hi
    rw [hi2] at hin
    clear hb hi hi2
    go_enter Try.func31, Try.ntmps31
    go_wp2_with (first | (go_at_call 61; refine hin.mono ?_; rintro e w' ⟨rfl, hw⟩; subst w'))
    go_ret
    exact ⟨rfl, rfl⟩

set_option maxHeartbeats 400000 in
theorem new_no (n : Int) (w : World) (h : ¬ (512 ≤ n ∧ n ≤ 524288 ∧ n % 512 = 0)) :
    Calls Try.prog 9 #[.int .i64 n] w fun e w' => e = .returned (.tuple #[.pointer none, .int .i64 10]) ∧ w' = w := by
  have hg := goodSize_no n w h
  clear h
  go_enter Try.func9, Try.ntmps9
  go_wp2_with (first | (go_at_call 16; refine hg.mono ?_; rintro e w' ⟨rfl, hw⟩; subst w'))
  go_ret2
  exact ⟨rfl, rfl⟩

set_option maxHeartbeats 400000 in
theorem load_no (p : Option Addr) (n cap : Nat) (w : World) (h : ¬ (512 ≤ n ∧ n ≤ 524288 ∧ n % 512 = 0)) :
    Calls Try.prog 20 #[.slice p n cap] w fun e w' => e = .returned (.tuple #[.pointer none, .int .i64 10]) ∧ w' = w := by
  have hg := goodSize_no (n : Int) w (by omega)
  clear h
  go_enter Try.func20, Try.ntmps20
  go_wp2_with (first | (go_at_call 16; refine hg.mono ?_; rintro e w' ⟨rfl, hw⟩; subst w'))
  go_ret2
  exact ⟨rfl, rfl⟩

end Go.Proofs.Ytfiekdgpdboolac
