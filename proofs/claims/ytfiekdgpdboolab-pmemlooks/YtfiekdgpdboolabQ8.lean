import Derived.Test.YtfiekdgpdboolabQ7
import Derived.BigRegion
namespace Go.Proofs.Ytfiekdgpdboolab
open Go.RowKit Go.Maps

set_option maxHeartbeats 2000000 in
set_option maxRecDepth 20000 in
theorem rwrite_dev (w : World) (F : Nat → Prop) (r : Nat) (R : Rf) (M : RLay) (a : Int) (p : Option Addr) (cap : Nat) (l : List Int) (h : RefAt w F r R M)
    (hB : 0 < l.length → ∃ g, p = some ⟨g, 0, none⟩ ∧ ¬ F g ∧ g < w.heap.size ∧ ∀ i, i < 8 * l.length → w.cell? ⟨g, i, none⟩ = some (.int .u8 ((laidB l).getD i 0)))
    (hv : ∀ i, i < l.length → 0 ≤ l.getD i 0 ∧ l.getD i 0 < 18446744073709551616)
    (h0 : 0 ≤ a) (h8 : a % 8 = 0) (h1 : a + 8 * l.length ≤ 64 * (R.n : Int)) (hn : R.now ≤ 100000000) :
    Calls Try.prog 81 #[.pointer (some ⟨r, 0, none⟩), .int .i64 a, .slice p (8 * l.length : Nat) cap] w fun e w' => e = .returned (.int .i64 (R.stores a l).1) ∧ RMoved F r w w' (R.stores a l).2 := by
  have hnn := h.nn
  obtain ⟨N, hN⟩ : ∃ N : Nat, N = 8 * l.length := ⟨_, rfl⟩
  have hin := rinside_any w F r R M a N h
  have hib : insideB (64 * (R.n : Int)) a N = true := by simp [insideB]; omega
  rw [hib] at hin
  have ht1 : a.tmod 8 = 0 := by rw [Int.tmod_eq_emod_of_nonneg h0]; exact h8
  have ht2 : (N : Int).tmod 8 = 0 := by rw [Int.tmod_eq_emod_of_nonneg (by omega)]; omega
  have hat : a ≤ 524288 := by omega
  have hNb : N ≤ 524288 := by omega
  have HD := Hid.mk' h
  have HB := Hid.mk' (show N = 8 * l.length ∧ (0 < l.length → ∃ g, p = some ⟨g, 0, none⟩ ∧ ¬ F g ∧ g < w.heap.size ∧ ∀ i, i < 8 * l.length → w.cell? ⟨g, i, none⟩ = some (.int .u8 ((laidB l).getD i 0))) ∧ (∀ i, i < l.length → 0 ≤ l.getD i 0 ∧ l.getD i 0 < 18446744073709551616) from ⟨hN, hB, hv⟩)
  have HH := Hid.mk' (show a % 8 = 0 ∧ a + 8 * l.length ≤ 64 * (R.n : Int) ∧ R.now ≤ 100000000 from ⟨h8, h1, hn⟩)
  rw [← hN]
  clear h hB hv h8 h1 hn hN hib
  go_enter Try.func81, Try.ntmps81
  go_wp2_with (first | (go_at_call 100; refine hin.mono ?_; rintro e w' ⟨rfl, hw⟩; subst w'))
  go_loopw [7] (fun i wr => ∃ k : Nat, k ≤ l.length ∧ i = .int .i64 ((8 * k : Nat) : Int) ∧ Hid (∃ T, RMoved F r w wr T ∧ R.stores a l = T.stores (a + 8 * k) (l.drop k) ∧ T.n = R.n ∧ T.now = R.now + k))
    (fun i _ => N - (intOf i).toNat)
  case atStart => exact ⟨0, by omega, rfl, R, rmoved_same HD.out, by simp, rfl, by simp⟩
  case round =>
    obtain ⟨k, hk, rfl, hrel⟩ := hrel
    obtain ⟨T, ⟨F1, M1, hdev, hkp, hfr⟩, hrun, hlen, hst⟩ := hrel
    obtain ⟨a1, a2, a3⟩ := HH.out
    obtain ⟨z1, z2, z3⟩ := HB.out
    obtain ⟨K, hK⟩ : ∃ K, K = 8 * k := ⟨_, rfl⟩
    rw [← hK]
    by_cases hlt : k < l.length
    · obtain ⟨g, rfl, hnb, hb, hc⟩ := z2 (by omega)
      have HC : Hid (∀ j, j < 8 → wr.cell? ⟨g, K + j, none⟩ = some (.int .u8 ((fun j => (laidB l).getD (8 * k + j) 0) j))) := fun j hj => by rw [hK]; exact hkp.cell (hc (8 * k + j) (by omega)) hnb
      have HFB : Hid (∀ j, 0 ≤ (fun j => (laidB l).getD (8 * k + j) 0) j ∧ (fun j => (laidB l).getD (8 * k + j) 0) j ≤ 255) := fun j => by
        show 0 ≤ (laidB l).getD (8 * k + j) 0 ∧ (laidB l).getD (8 * k + j) 0 ≤ 255
        rcases Nat.lt_or_ge (8 * k + j) (8 * l.length) with hj | hj
        · rw [show 8 * k + j = 8 * ((8 * k + j) / 8) + (8 * k + j) % 8 by omega, laidB_get l ((8 * k + j) / 8) ((8 * k + j) % 8) (by omega) (by omega)]
          exact byteOf_bd _ _
        · rw [List.getD_eq_getElem?_getD, List.getElem?_eq_none (by rw [laidB_len]; exact hj)]
          simp
      have HV : Hid (gsum (fun j => (laidB l).getD (8 * k + j) 0) 8 = l.getD k 0) := gsum_laid hlt (z3 k hlt)
      have hso := rstore_any wr F1 r T M1 (a + (K : Int)) (l.getD k 0) hdev (z3 k hlt) (by omega)
      rw [drop_cons hlt] at hrun
      have hlt' : (K : Int) < (N : Int) := by omega
      have hk0 : (0 : Int) ≤ (K : Int) := by omega
      have hbw : badWord (64 * T.n) (a + (K : Int)) = 0 := by unfold badWord; rw [if_pos (by omega), if_pos (by omega)]
      have hrs : (T.left = 0 ∧ T.store (a + (K : Int)) (l.getD k 0) = (13, T) ∧ R.stores a l = (13, T)) ∨ (T.store (a + (K : Int)) (l.getD k 0) = (0, T.put (a + (K : Int)) (l.getD k 0)) ∧ R.stores a l = (T.put (a + (K : Int)) (l.getD k 0)).stores (a + 8 * ((k + 1 : Nat) : Int)) (l.drop (k + 1))) := by
        unfold Rf.store
        rw [if_pos hbw]
        by_cases hl0 : T.left = 0
        · left
          rw [if_pos hl0]
          exact ⟨hl0, rfl, by rw [hrun]; simp only [Rf.stores, if_pos hl0]⟩
        · right
          rw [if_neg hl0]
          refine ⟨rfl, ?_⟩
          rw [hrun]; simp only [Rf.stores, if_neg hl0]
          rw [show a + 8 * (k : Int) + 8 = a + 8 * ((k + 1 : Nat) : Int) by omega, show a + 8 * (k : Int) = a + (K : Int) by omega]
      have HX := Hid.mk' (show Keeps F w wr ∧ Fresh F F1 w from ⟨hkp, hfr⟩)
      have HE := Hid.mk' (show T.n = R.n ∧ T.now = R.now + k ∧ K = 8 * k ∧ k < l.length ∧ N = 8 * l.length from ⟨hlen, hst, hK, hlt, z1⟩)
      have HRS := Hid.mk' hrs
      have hKN : (K : Int) + 8 ≤ (N : Int) := by omega
      generalize (fun j => (laidB l).getD (8 * k + j) 0) = f at *
      generalize l.getD k 0 = v at *
      clear hc z2 z3 hdev hkp hfr hrun hlen hst a1 a2 a3 hK z1 hlt hk hbw hrs
      go_wp2
      go_loopw [8, 9] (fun v i wx => ∃ m : Nat, m ≤ 8 ∧ i = .int .i64 (7 - (m : Int)) ∧ v = .int .u64 (hsum f m) ∧ wx = wr) (fun _ i _ => (intOf i + 1).toNat)
      case atStart => exact ⟨0, by omega, rfl, rfl, rfl⟩
      case round =>
        obtain ⟨m, hm, rfl, rfl, hwx⟩ := hrel
        by_cases hlt : m < 8
        · obtain ⟨i, hi⟩ : ∃ i : Nat, i + m = 7 := ⟨7 - m, by omega⟩
          have e1 : (7 : Int) - m = (i : Int) := by omega
          rw [e1]
          have hbd := hsum_bd f HFB.out m
          have hp := pow_le7 hlt
          have hcc := HC.out i (by omega)
          have hff := HFB.out i
          have HST : Hid (hsum f (m + 1) = hsum f m * 256 + f i) := by
            simp only [Hid, hsum]; rw [show 7 - m = i by omega]
          generalize hX : hsum f m = X at *
          generalize hY : f i = Y at *
          have b1 : 0 ≤ X := hbd.1
          have b2 : X ≤ 72057594037927935 := by omega
          have b3 := hff.1
          have b4 := hff.2
          have HM : Hid (i + m = 7) := hi
          have b5 : (K : Int) + (i : Int) < (N : Int) := by omega
          have b6 : K + i < N := by omega
          have hi0 : (0 : Int) ≤ (i : Int) := by omega
          subst hwx
          clear hbd hp hff hX hY e1 hi
          go_wp2
          go_roundw
          case rel =>
            refine ⟨m + 1, by omega, ?_, ?_, by first | trivial | rfl⟩
            · have := HM.out
              congr 1; omega
            · rw [HST.out]
          case measure => simp [intOf]
        · obtain rfl : m = 8 := by omega
          subst hwx
          rw [hsum_all, HV.out]
          rcases HRS.out with ⟨c1, c2, c3⟩ | ⟨c2, c3⟩
          · rw [c2] at hso
            have HE2 := Hid.mk' c3
            clear c1 c2 c3
            go_wp2_with (first
              | (go_at_call 80; refine hso.mono ?_; rintro e w4 ⟨rfl, hx⟩; have HM := Hid.mk' hx; clear hx))
            go_ret
            exact ⟨by rw [HE2.out]; rfl, by rw [HE2.out]; exact rmoved_next HX.out.1 HX.out.2 HM.out⟩
          · rw [c2] at hso
            have HE2 := Hid.mk' c3
            clear c2 c3
            go_wp2_with (first
              | (go_at_call 80; refine hso.mono ?_; rintro e w4 ⟨rfl, hx⟩; have HM := Hid.mk' hx; clear hx))
            go_roundw
            case rel =>
              obtain ⟨g2, g3, g4, g5, g6⟩ := HE.out
              refine ⟨k + 1, by omega, ?_, _, rmoved_next HX.out.1 HX.out.2 HM.out, HE2.out, g2, ?_⟩
              · rw [g4]; first | (congr 1; omega) | go_num
              · simp only [Rf.put, Rf.tick]; omega
            case measure => simp [intOf]; omega
    · obtain rfl : k = l.length := by omega
      have e : R.stores a l = (0, T) := by rw [hrun, List.drop_length]; rfl
      have HX := Hid.mk' (show RMoved F r w wr T from ⟨F1, M1, hdev, hkp, hfr⟩)
      have HE := Hid.mk' e
      have hlt' : ¬ (K : Int) < (N : Int) := by omega
      have hkb : K ≤ 524288 := by omega
      clear hdev hkp hfr hrun hlen hst e hK z1 z2 z3 hlt hk a1 a2 a3
      go_wp2
      go_ret
      exact ⟨by rw [HE.out]; rfl, by rw [HE.out]; exact HX.out⟩

end Go.Proofs.Ytfiekdgpdboolab
