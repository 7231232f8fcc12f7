import Derived.Test.YtfiekdgpdboolabP1
namespace Go.Proofs.Ytfiekdgpdboolab
open Go.RowKit Go.Maps

/-- The words' bytes, lowest first. -/
def laidB (l : List Int) : List Int := l.flatMap fun v => (List.range 8).map (byteOf v)

theorem laidB_len (l : List Int) : (laidB l).length = 8 * l.length := by
  induction l with
  | nil => rfl
  | cons v l ih =>
    have e : laidB (v :: l) = (List.range 8).map (byteOf v) ++ laidB l := by simp [laidB]
    rw [e, List.length_append, ih]
    simp
    omega

theorem laidB_get (l : List Int) (i k : Nat) (hi : i < l.length) (hk : k < 8) : (laidB l).getD (8 * i + k) 0 = byteOf (l.getD i 0) k := by
  induction l generalizing i with
  | nil => simp at hi
  | cons v l ih =>
    have e : laidB (v :: l) = (List.range 8).map (byteOf v) ++ laidB l := by simp [laidB]
    have el : ((List.range 8).map (byteOf v)).length = 8 := by simp
    rw [e]
    cases i with
    | zero =>
      simp only [List.getD_eq_getElem?_getD]
      rw [List.getElem?_append_left (by rw [el]; omega)]
      simp [hk]
    | succ i =>
      have h := ih i (by simpa using hi)
      simp only [List.getD_eq_getElem?_getD] at h ⊢
      rw [List.getElem?_append_right (by rw [el]; omega), el, show 8 * (i + 1) + k - 8 = 8 * i + k by omega, h]
      simp

theorem laidB_snoc (l : List Int) (v : Int) : laidB (l ++ [v]) = laidB l ++ (List.range 8).map (byteOf v) := by simp [laidB]

theorem take_snoc {l : List Int} {i : Nat} (h : i < l.length) : l.take (i + 1) = l.take i ++ [l.getD i 0] := by
  rw [List.take_add_one]
  simp [List.getD_eq_getElem?_getD, h]

/-- Bytes that lie in memory, in a block of their own. -/
def LaidAt (w0 w : World) (p : Option Addr) (cap : Nat) (l : List Int) : Prop :=
  8 * l.length ≤ cap ∧ (0 < l.length → ∃ g, p = some ⟨g, 0, none⟩ ∧ w0.heap.size ≤ g ∧ g < w.heap.size ∧ ∀ i, i < 8 * l.length → w.cell? ⟨g, i, none⟩ = some (.int .u8 ((laidB l).getD i 0)))

theorem byte_shift (v : Int) (k : Nat) : IntKind.u8.wrap (v / 2 ^ (8 * k)) = byteOf v k := by
  simp [IntKind.wrap, IntKind.signed, IntKind.bits, byteOf]

set_option maxHeartbeats 1000000 in
set_option maxRecDepth 20000 in
theorem laid_any (w : World) (p : Option Addr) (cap : Nat) (l : List Int) (hN : WordsAt w p l) (hl : l.length ≤ 65536) :
    Calls Try.prog 14 #[.slice p l.length cap] w fun e w' => ∃ q c, e = .returned (.slice q (8 * l.length : Nat) c) ∧ LaidAt w w' q c l ∧ Keeps (fun _ => False) w w' := by
  obtain ⟨i0, hi, hz0, hz1, hz2⟩ := info_parts info5
  have HN := Hid.mk' hN
  clear hN
  go_enter Try.func14, Try.ntmps14
  go_wp2
  go_loopw [3, 4] (fun v i wr => ∃ j : Nat, j ≤ l.length ∧ i = .int .i64 j ∧ wr.ownsRow w.heap.size 5 1 v (8 * j) (u8s (laidB (l.take j))) ∧ Keeps (fun _ => False) w wr)
    (fun _ i _ => l.length - (intOf i).toNat)
  case atStart => exact ⟨0, by omega, rfl, by simpa [u8s, laidB] using World.ownsRow_nil w w.heap.size 5 1, Keeps.refl _ _⟩
  case round =>
    obtain ⟨j, hj, rfl, hown, hkp⟩ := hrel
    by_cases hlt : j < l.length
    · obtain ⟨b, o, rfl, hb, hc⟩ := HN.out (by omega)
      obtain ⟨c1, c2⟩ := hc j hlt
      have HC := Hid.mk' c1
      have HV := Hid.mk' c2
      have HT := Hid.mk' (take_snoc hlt)
      have hlt' : (j : Int) < (l.length : Int) := by omega
      have HK0 := Hid.mk' hkp
      have hown0 := hown
      generalize l.getD j 0 = x at *
      clear hc c1 c2 hkp hown
      go_wp2
      go_loopw [3, 5] (fun v i wr => ∃ k : Nat, k ≤ 8 ∧ i = .int .i64 k ∧ wr.ownsRow w.heap.size 5 1 v (8 * j + k) (u8s (laidB (l.take j) ++ (List.range k).map (byteOf x))) ∧ Keeps (fun _ => False) w wr)
        (fun _ i _ => 8 - (intOf i).toNat)
      case atStart => exact ⟨0, by omega, rfl, by simpa using hown0, HK0.out⟩
      case round =>
        obtain ⟨k, hk, rfl, hown, hkp⟩ := hrel
        have hsz := hkp.size
        by_cases hlk : k < 8
        · have c3 := hkp.cell HC.out (by simp)
          have HKP := Hid.mk' hkp
          have hkk : (k : Int) < 8 := by omega
          have HS : Hid (u8s (laidB (l.take j) ++ (List.range (k + 1)).map (byteOf x)) = u8s (laidB (l.take j) ++ (List.range k).map (byteOf x)) ++ [.int .u8 (byteOf x k)]) := by
            show u8s _ = _
            rw [List.range_succ]
            simp [u8s]
          have hbs := byte_shift x k
          clear hkp
          go_wp2_with (first
            | (at_builtin; go_must (refine wpList_append_lies _ rfl _ _ 33 rfl w.heap.size 5 i0 (.int .u8 0) 1 1 Try.underlying33 hi hz0 hz1 hz2 rfl (by decide) u3 (8 * j + k) (u8s (laidB (l.take j) ++ (List.range k).map (byteOf x))) rfl (hown.alloc _) ⟨wr.heap.size, 0, none⟩ 1 1 [.int .u8 (byteOf x k)] rfl rfl (cell_one_new _ _ _) (by simp [Value.oneCell']) (by decide) (by unfold maxLen; omega) (by omega) (by simp; omega) (wr.heap.size + 1) (by simp) ?_); intro g2 c2 w2 hown2 hgrow2 hloc2 hlt2))
          go_roundw
          case rel =>
            refine ⟨k + 1, by omega, by go_num, by rw [HS.out]; exact hown2, ?_⟩
            refine (HKP.out.step (World.grownBy_alloc wr _ none) (by simp)).step hgrow2 ?_
            intro j hj
            exact Or.inr (hown.lt j hj).1
          case measure => simp [intOf]; omega
        · obtain rfl : k = 8 := by omega
          have HKP := Hid.mk' hkp
          clear hkp
          go_wp2
          go_roundw
          case rel =>
            refine ⟨j + 1, by omega, by go_num, ?_, HKP.out⟩
            rw [HT.out, laidB_snoc]
            exact hown
          case measure => simp [intOf]; omega
    · obtain rfl : j = l.length := by omega
      have HKP := Hid.mk' hkp
      clear hkp
      rw [List.take_length] at hown
      go_wp2
      go_ret
      rcases hown.2 with ⟨e1, e2⟩ | ⟨g', c', cur, e1, hg, hh, q1, q2, q3, q4⟩
      · exact ⟨none, 0, by rw [e2, ← e1]; rfl, ⟨by omega, by omega⟩, HKP.out⟩
      · refine ⟨some ⟨g', 0, none⟩, c', by rw [← e1]; rfl, ⟨q1, fun h0 => ⟨g', rfl, hg, heap_lt hh, fun i hi' => ?_⟩⟩, HKP.out⟩
        rw [e1] at hown
        rw [hown.cellAt i (by omega)]
        have hl : i < (laidB l).length := by rw [laidB_len]; omega
        simp only [u8s, List.getElem?_map, List.getElem?_eq_getElem hl, List.getD_eq_getElem?_getD]
        rfl

theorem gsum_laid {l : List Int} {i : Nat} (hi : i < l.length) (hv : 0 ≤ l.getD i 0 ∧ l.getD i 0 < 18446744073709551616) : gsum (fun j => (laidB l).getD (8 * i + j) 0) 8 = l.getD i 0 := by
  rw [← gsum_bytes hv]
  rw [gsum_bytes hv]
  conv => rhs; rw [← gsum_bytes hv]
  exact gsum_congr fun j hj => laidB_get l i j hi hj

set_option maxHeartbeats 1000000 in
theorem write_dev (w : World) (F : Nat → Prop) (d : Nat) (S : St) (L : Lay) (at_ : Int) (p : Option Addr) (cap : Nat) (l : List Int) (h : DevAt w F d S L) (hcap : 8 * l.length ≤ cap)
    (hB : 0 < l.length → ∃ g, p = some ⟨g, 0, none⟩ ∧ ¬ F g ∧ g < w.heap.size ∧ ∀ i, i < 8 * l.length → w.cell? ⟨g, i, none⟩ = some (.int .u8 ((laidB l).getD i 0)))
    (hv : ∀ i, i < l.length → 0 ≤ l.getD i 0 ∧ l.getD i 0 < 18446744073709551616)
    (h0 : 0 ≤ at_) (h8 : at_ % 8 = 0) (h1 : at_ + 8 * l.length ≤ S.old.length) (hs : S.steps ≤ 1000) :
    Calls Try.prog 13 #[.pointer (some ⟨d, 0, none⟩), .int .i64 at_, .slice p (8 * l.length : Nat) cap] w fun e w' => e = .returned (.int .i64 (runStores S at_ l).1) ∧ Moved F d w w' (runStores S at_ l).2 := by
  have hsz := h.size
  obtain ⟨N, hN⟩ : ∃ N : Nat, N = 8 * l.length := ⟨_, rfl⟩
  obtain ⟨c0, _⟩ := dev_cells h.dev
  have hwi := within_yes d S.old.length S.old.length _ at_ N w c0 h0 (by omega) (by omega) (by omega) (by omega)
  have ht1 : at_.tmod 8 = 0 := by rw [Int.tmod_eq_emod_of_nonneg h0]; exact h8
  have ht2 : (N : Int).tmod 8 = 0 := by rw [Int.tmod_eq_emod_of_nonneg (by omega)]; omega
  have hat : at_ ≤ 524288 := by omega
  have hNb : N ≤ 524288 := by omega
  have hcN : N ≤ cap := by omega
  have HD := Hid.mk' h
  have HB := Hid.mk' (show N = 8 * l.length ∧ (0 < l.length → ∃ g, p = some ⟨g, 0, none⟩ ∧ ¬ F g ∧ g < w.heap.size ∧ ∀ i, i < 8 * l.length → w.cell? ⟨g, i, none⟩ = some (.int .u8 ((laidB l).getD i 0))) ∧ (∀ i, i < l.length → 0 ≤ l.getD i 0 ∧ l.getD i 0 < 18446744073709551616) from ⟨hN, hB, hv⟩)
  have HH := Hid.mk' (show at_ % 8 = 0 ∧ at_ + 8 * l.length ≤ S.old.length ∧ S.steps ≤ 1000 from ⟨h8, h1, hs⟩)
  rw [← hN]
  clear h hB hv h8 h1 hs hsz hN c0 hcap
  go_enter Try.func13, Try.ntmps13
  go_wp2_with (first | (go_at_call 34; refine hwi.mono ?_; rintro e w' ⟨rfl, hw⟩; subst w'))
  go_loopw [7] (fun i wr => ∃ k : Nat, k ≤ l.length ∧ i = .int .i64 ((8 * k : Nat) : Int) ∧ Hid (∃ T, Moved F d w wr T ∧ runStores S at_ l = runStores T (at_ + 8 * k) (l.drop k) ∧ T.old.length = S.old.length ∧ T.steps = S.steps + k))
    (fun i _ => N - (intOf i).toNat)
  case atStart => exact ⟨0, by omega, rfl, S, ⟨F, L, HD.out, Keeps.refl _ _, fun k hk => Or.inl hk⟩, by simp, rfl, by simp⟩
  case round =>
    obtain ⟨k, hk, rfl, hrel⟩ := hrel
    obtain ⟨T, ⟨F1, L1, hdev, hkp, hfr⟩, hrun, hlen, hst⟩ := hrel
    obtain ⟨a1, a2, a3⟩ := HH.out
    obtain ⟨z1, z2, z3⟩ := HB.out
    obtain ⟨K, hK⟩ : ∃ K, K = 8 * k := ⟨_, rfl⟩
    rw [← hK]
    by_cases hlt : k < l.length
    · obtain ⟨g, rfl, hnb, hb, hc⟩ := z2 (by omega)
      have hga := gather_any g K (N - K) (cap - K) (fun j => (laidB l).getD (8 * k + j) 0) wr (by omega) (fun j hj => by rw [hK]; exact hkp.cell (hc (8 * k + j) (by omega)) hnb) (fun j hj => by rw [laidB_get l k j hlt hj]; exact byteOf_bd _ _)
      rw [gsum_laid hlt (z3 k hlt)] at hga
      have c2 := z3 k hlt
      rw [drop_cons hlt] at hrun
      have hlt' : (K : Int) < (N : Int) := by omega
      have hk0 : (0 : Int) ≤ (K : Int) := by omega
      have hq1 : ¬ cap = K := by omega
      have hq2 : K ≤ cap := by omega
      have hq3 : K ≤ N := by omega
      have hq4 : (K : Int) ≤ (N : Int) := by omega
      generalize l.getD k 0 = v at *
      clear hc z2 z3
      by_cases hdd : T.isDead = true
      · have hso := store_dead wr F1 d T L1 (at_ + (K : Int)) v hdev (by omega) (by omega) (by omega) (isDead_yes hdd).1 (isDead_yes hdd).2
        have e : runStores S at_ l = (13, T) := by rw [hrun]; simp [runStores, hdd]
        have HX := Hid.mk' (show Moved F d w wr T from ⟨F1, L1, hdev, hkp, hfr⟩)
        have HE := Hid.mk' e
        clear hdev hkp hfr hrun hlen hst hdd a1 a2 a3 e c2 hK z1 hlt hk
        go_wp2_with (first
          | (go_at_call 36; refine hga.mono ?_; rintro e w4 ⟨rfl, hw⟩; subst w4)
          | (go_at_call 35; refine hso.mono ?_; rintro e w4 ⟨rfl, hw⟩; subst w4))
        go_ret
        exact ⟨by rw [HE.out]; rfl, by rw [HE.out]; exact HX.out⟩
      · have hso := store_dev wr F1 d T L1 (at_ + (K : Int)) v hdev (by omega) (by omega) (by omega) c2 (by omega) (isDead_no hdd)
        have e : runStores S at_ l = runStores (T.store (at_ + (K : Int)) v) (at_ + 8 * ((k + 1 : Nat) : Int)) (l.drop (k + 1)) := by
          rw [hrun]; simp only [runStores, hdd]
          rw [show at_ + 8 * (k : Int) + 8 = at_ + 8 * ((k + 1 : Nat) : Int) by omega, show at_ + 8 * (k : Int) = at_ + (K : Int) by omega]; rfl
        have HX := Hid.mk' (show Keeps F w wr ∧ Fresh F F1 w from ⟨hkp, hfr⟩)
        have HE := Hid.mk' (show _ ∧ T.old.length = S.old.length ∧ T.steps = S.steps + k ∧ K = 8 * k ∧ k < l.length ∧ N = 8 * l.length from ⟨e, hlen, hst, hK, hlt, z1⟩)
        clear hdev hkp hfr hrun hlen hst hdd a1 a2 a3 e c2 hK z1 hlt hk
        go_wp2_with (first
          | (go_at_call 36; refine hga.mono ?_; rintro e w4 ⟨rfl, hw⟩; subst w4)
          | (go_at_call 35; refine hso.mono ?_; rintro e w4 ⟨rfl, hx⟩; have HM := Hid.mk' hx; clear hx))
        go_roundw
        case rel =>
          obtain ⟨g1, g2, g3, g4, g5, g6⟩ := HE.out
          refine ⟨k + 1, by omega, ?_, _, moved_next HX.out.1 HX.out.2 HM.out, g1, g2, ?_⟩
          · rw [g4]; first | (congr 1; omega) | go_num
          · simp only [St.store, St.tick]; omega
        case measure => simp [intOf]; omega
    · obtain rfl : k = l.length := by omega
      have e : runStores S at_ l = (0, T) := by rw [hrun, List.drop_length]; rfl
      have HX := Hid.mk' (show Moved F d w wr T from ⟨F1, L1, hdev, hkp, hfr⟩)
      have HE := Hid.mk' e
      have hlt' : ¬ (K : Int) < (N : Int) := by omega
      have hkb : K ≤ 524288 := by omega
      clear hdev hkp hfr hrun hlen hst e hK z1 z2 z3 hlt hk a1 a2 a3
      go_wp2
      go_ret
      exact ⟨by rw [HE.out]; rfl, by rw [HE.out]; exact HX.out⟩

set_option maxHeartbeats 1000000 in
theorem flushAll_gen (w : World) (F : Nat → Prop) (d : Nat) (S : St) (L : Lay) (a n q m : Nat) (h : DevAt w F d S L) (h8 : S.old.length % 512 = 0) (h1 : a + n ≤ S.old.length) (hs : S.steps ≤ 100000)
    (hq : q = a / 64) (hm : m = if n = 0 then 0 else (a + n - 1) / 64 - q + 1) :
    Calls Try.prog 16 #[.pointer (some ⟨d, 0, none⟩), .int .i64 a, .int .i64 n] w fun e w' => e = .returned (.int .i64 (runFlushes S (64 * (q : Int)) m).1) ∧ Moved F d w w' (runFlushes S (64 * (q : Int)) m).2 := by
  have hsz := h.size
  obtain ⟨c0, _⟩ := dev_cells h.dev
  have hwi := within_yes d S.old.length S.old.length _ a n w c0 (by omega) (by omega) (by omega) (by omega) (by omega)
  have han : a + n ≤ 524288 := by omega
  obtain ⟨r, hr⟩ : ∃ r : Nat, r = a % 64 := ⟨_, rfl⟩
  have hat : (a : Int).tmod 64 = (r : Int) := by rw [Int.tmod_eq_emod_of_nonneg (by omega)]; omega
  have hsub : (a : Int) - (r : Int) = 64 * (q : Int) := by omega
  have hwr : IntKind.i64.wrap ((a : Int) - (r : Int)) = 64 * (q : Int) := by rw [hsub]; exact wrap_id (by omega) (by omega)
  have HD := Hid.mk' h
  have HH := Hid.mk' (show S.old.length % 512 = 0 ∧ a + n ≤ S.old.length ∧ S.steps ≤ 100000 from ⟨h8, h1, hs⟩)
  by_cases hn0 : n = 0
  · have hm0 : m = 0 := by rw [hm, if_pos hn0]
    have nz : ((n : Int) == 0) = true := by simp [hn0]
    have HM := Hid.mk' hm0
    clear h h8 h1 hs hsz hq hm hn0 hm0 c0
    go_enter Try.func16, Try.ntmps16
    go_wp2_with (first | (go_at_call 34; refine hwi.mono ?_; rintro e w' ⟨rfl, hw⟩; subst w'))
    go_ret
    exact ⟨by rw [HM.out]; rfl, by rw [HM.out]; exact ⟨F, L, HD.out, Keeps.refl _ _, fun k hk => Or.inl hk⟩⟩
  · rw [if_neg hn0] at hm
    have nz : ((n : Int) == 0) = false := by simp [hn0]
    have hzm : 64 * q + 64 * m < a + n + 64 ∧ a + n ≤ 64 * q + 64 * m ∧ 0 < m := by omega
    have HZ := Hid.mk' hzm
    have hrb : r ≤ 63 ∧ r ≤ a := by omega
    obtain ⟨hrb1, hrb2⟩ := hrb
    clear h h8 h1 hs hsz hq hm hn0 hr hzm c0
    go_enter Try.func16, Try.ntmps16
    go_wp2_with (first | (go_at_call 34; refine hwi.mono ?_; rintro e w' ⟨rfl, hw⟩; subst w'))
    go_loopw [7] (fun i wr => ∃ k : Nat, k ≤ m ∧ i = .int .i64 ((64 * (q + k) : Nat) : Int) ∧ Hid (∃ T, Moved F d w wr T ∧ runFlushes S (64 * (q : Int)) m = runFlushes T ((64 * (q + k) : Nat) : Int) (m - k) ∧ T.old.length = S.old.length ∧ T.steps = S.steps + k))
      (fun i _ => a + n - (intOf i).toNat)
    case atStart => exact ⟨0, by omega, by first | rfl | (congr 1; omega) | go_num, S, ⟨F, L, HD.out, Keeps.refl _ _, fun k hk => Or.inl hk⟩, by simp, rfl, by simp⟩
    case round =>
      obtain ⟨k, hk, rfl, hrel⟩ := hrel
      obtain ⟨T, ⟨F1, L1, hdev, hkp, hfr⟩, hrun, hlen, hst⟩ := hrel
      obtain ⟨y, hy⟩ : ∃ y, y = 64 * (q + k) := ⟨_, rfl⟩
      rw [← hy] at hrun ⊢
      obtain ⟨z1, z2, z3⟩ := HZ.out
      obtain ⟨b1, b2, b3⟩ := HH.out
      by_cases hlt : k < m
      · have hyz : (y : Int) < (a : Int) + (n : Int) := by omega
        rw [show m - k = (m - (k + 1)) + 1 by omega] at hrun
        have hyb : y ≤ 524288 := by omega
        by_cases hdd : T.isDead = true
        · have hso := flush_dead wr F1 d T L1 (y : Int) hdev (by omega) (by omega) (isDead_yes hdd).1 (isDead_yes hdd).2
          have e : runFlushes S (64 * (q : Int)) m = (13, T) := by rw [hrun]; simp [runFlushes, hdd]
          have HX := Hid.mk' (show Moved F d w wr T from ⟨F1, L1, hdev, hkp, hfr⟩)
          have HE := Hid.mk' e
          clear hdev hkp hfr hrun hlen hst hdd e z1 z2 z3 b1 b2 b3 hy hlt hk
          go_wp2_with (first | (go_at_call 37; refine hso.mono ?_; rintro e w4 ⟨rfl, hw⟩; subst w4))
          go_ret
          exact ⟨by rw [HE.out]; rfl, by rw [HE.out]; exact HX.out⟩
        · have hso := flush_dev wr F1 d T L1 (y : Int) hdev (by omega) (by omega) (by omega) (by omega) (isDead_no hdd)
          have e : runFlushes S (64 * (q : Int)) m = runFlushes (T.flush (y : Int)) ((64 * (q + (k + 1)) : Nat) : Int) (m - (k + 1)) := by
            rw [hrun]; simp only [runFlushes, hdd]
            rw [show (y : Int) + 64 = ((64 * (q + (k + 1)) : Nat) : Int) by omega]; rfl
          have HX := Hid.mk' (show Keeps F w wr ∧ Fresh F F1 w from ⟨hkp, hfr⟩)
          have HE := Hid.mk' (show _ ∧ T.old.length = S.old.length ∧ T.steps = S.steps + k ∧ y = 64 * (q + k) ∧ k < m from ⟨e, hlen, hst, hy, hlt⟩)
          clear hdev hkp hfr hrun hlen hst hdd e z1 z2 z3 b1 b2 b3 hy hlt hk
          go_wp2_with (first | (go_at_call 37; refine hso.mono ?_; rintro e w4 ⟨rfl, hx1, hx2⟩; have HM := Hid.mk' (show Moved F1 d wr w4 _ from ⟨F1, L1, hx1, hx2, fun k hk => Or.inl hk⟩); clear hx1 hx2))
          go_roundw
          case rel =>
            obtain ⟨g1, g2, g3, g4, g5⟩ := HE.out
            refine ⟨k + 1, by omega, ?_, _, moved_next HX.out.1 HX.out.2 HM.out, g1, g2, ?_⟩
            · rw [g4]; first | (congr 1; omega) | go_num
            · simp only [St.flush, St.flushTo, St.tick]; omega
          case measure => simp [intOf]; omega
      · obtain rfl : k = m := by omega
        have hyz : ¬ (y : Int) < (a : Int) + (n : Int) := by omega
        have hyb : y ≤ 1000000 := by omega
        have e : runFlushes S (64 * (q : Int)) k = (0, T) := by rw [hrun, Nat.sub_self]; rfl
        have HX := Hid.mk' (show Moved F d w wr T from ⟨F1, L1, hdev, hkp, hfr⟩)
        have HE := Hid.mk' e
        clear hdev hkp hfr hrun hlen hst e z1 z2 z3 b1 b2 b3 hy hlt hk
        go_wp2
        go_ret
        exact ⟨by rw [HE.out]; rfl, by rw [HE.out]; exact HX.out⟩

end Go.Proofs.Ytfiekdgpdboolab
