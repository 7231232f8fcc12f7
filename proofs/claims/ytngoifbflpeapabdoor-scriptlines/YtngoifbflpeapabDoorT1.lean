import Derived.Test.YtngoifbflpeapabDoorQ1
import Derived.Deep.DeepCutAuto
namespace Go.Proofs.YtngoifbflpeapabDoor
open Go.RowKit Go.Maps
set_option maxRecDepth 100000

/-! The document's Show: a number's word. -/
def dd (q : Nat) : Bs := if q = 0 then [] else Lib.decDigits q
theorem dd_step {q : Nat} (h : 0 < q) : dd q = dd (q / 10) ++ [UInt8.ofNat (48 + q % 10)] := by
  unfold dd
  rw [if_neg (by omega), Lib.decDigits]
  by_cases h10 : q < 10
  · rw [dif_pos h10, if_pos (by omega)]
    have : q % 10 = q := by omega
    rw [this]; rfl
  · rw [dif_neg h10, if_neg (by omega)]
theorem dd_len : ∀ (n q : Nat), q < 10 ^ n → (dd q).length ≤ n
  | 0, q, h => by
    have : q = 0 := by simpa using h
    rw [this]; exact Nat.zero_le _
  | n + 1, q, h => by
    by_cases hq : q = 0
    · rw [hq]; exact Nat.zero_le _
    · rw [dd_step (by omega), List.length_append, List.length_singleton]
      have := dd_len n (q / 10) (by rw [Nat.pow_succ] at h; omega)
      omega
theorem itoa_dd {n : Int} (h : n ≠ 0) : Lib.itoa n = (if n < 0 then [45] else []) ++ dd n.natAbs := by
  unfold Lib.itoa dd
  rw [if_neg (show ¬ n.natAbs = 0 by omega)]
  by_cases hn : n < 0
  · rw [if_pos hn, if_pos hn]; rfl
  · rw [if_neg hn, if_neg hn]
    have : n.toNat = n.natAbs := by omega
    rw [this]; rfl
theorem neg_tmod10 (q : Nat) : (-(q : Int)).tmod 10 = -((q % 10 : Nat) : Int) := by
  rw [Int.neg_tmod]; rfl
theorem neg_tdiv10 (q : Nat) : (-(q : Int)).tdiv 10 = -((q / 10 : Nat) : Int) := by
  rw [Int.neg_tdiv]; rfl
theorem dig_val (q : Nat) : (((UInt8.ofNat (48 + q % 10)).toNat : Nat) : Int) = 48 + ((q % 10 : Nat) : Int) := by
  rw [ofNat_small (by omega)]; omega

set_option maxHeartbeats 8000000 in
theorem show_any (w : World) (n : Int) (hn : -9223372036854775808 ≤ n ∧ n ≤ 9223372036854775807) :
    Calls Tryd.prog 38 #[.int .i64 n] w fun e w' => e = .returned (.string (mkB (Lib.itoa n))) ∧ Keeps (fun _ => False) w w' := by
  by_cases h0 : n = 0
  · subst h0
    go_enter Tryd.func38, Tryd.ntmps38
    go_wp2
    go_ret
    exact ⟨by simp [Lib.itoa, Lib.decDigits]; rfl, Keeps.refl _ _⟩
  have h0b : (n == 0) = false := beq_eq_false_iff_ne.2 h0
  have HIT := Hid.mk' (itoa_dd h0)
  have HDL := Hid.mk' (dd_len 19 n.natAbs (by have : (10 : Nat) ^ 19 = 10000000000000000000 := by decide
                                              omega))
  obtain ⟨M, hM⟩ : ∃ M : Nat, M = n.natAbs := ⟨_, rfl⟩
  have HM := Hid.mk' hM
  go_enter Tryd.func38, Tryd.ntmps38
  go_upto_if 11 with (fail)
  go_cut [4, 11] from 11 to 13 (fun v4 _ wx => v4 = .int .i64 (-(M : Int)) ∧ w = wx)
  case first =>
    by_cases hp : 0 < n
    · have H1 : Hid (-n = -(M : Int)) := by show _ = _; omega
      clear hM
      go_wp2
      go_meet
      case rel => exact ⟨by rw [H1.out], rfl⟩
    · have H1 : Hid (n = -(M : Int)) := by show _ = _; omega
      clear hM
      go_wp2
      go_meet
      case rel => exact ⟨by rw [← H1.out], rfl⟩
  case rest =>
    obtain ⟨rfl, rfl⟩ := hcut
    clear hM
    go_wp2
    go_loopw [3, 4] (fun vb vm wr => ∃ (q : Nat) (l : Bs), q ≤ M ∧ vm = .int .i64 (-(q : Int)) ∧ l.length ≤ 19 ∧ Hid (dd M = dd q ++ l.reverse) ∧ Hid (OB w wr vb l)) (fun _ vm _ => (intOf vm).natAbs)
    case atStart => exact ⟨M, [], Nat.le_refl _, rfl, by simp, by show _ = _; simp, OB.nil w⟩
    case round =>
      obtain ⟨q, l, hq, rfl, hll, HD, HB⟩ := hrel
      by_cases hq0 : 0 < q
      · have hqb : (-(q : Int) != 0) = true := bne_iff_ne.2 (by omega)
        have hmb : -9223372036854775808 ≤ -(q : Int) := by have : M = n.natAbs := HM.out; omega
        have ht := neg_tmod10 q
        have hd := neg_tdiv10 q
        have HC : Hid (#[Value.int .u8 (48 + (q : Int) % 10)] = (vals [UInt8.ofNat (48 + q % 10)]).toArray) := by
          show _ = #[Value.int .u8 (((UInt8.ofNat (48 + q % 10)).toNat : Nat) : Int)]
          rw [dig_val]
          rfl
        have HST : Hid (dd M = dd (q / 10) ++ (l ++ [UInt8.ofNat (48 + q % 10)]).reverse) := by
          show _ = _
          rw [HD.out, dd_step hq0]; simp
        have HLN : Hid ((l ++ [UInt8.ofNat (48 + q % 10)]).length ≤ 19) := by
          have h1 : (dd n.natAbs).length ≤ 19 := HDL.out
          have h2 : M = n.natAbs := HM.out
          rw [← h2, HST.out, List.length_append, List.length_reverse] at h1
          show _ ≤ _
          omega
        clear hqb
        go_wp2_with (first
          | (at_builtin; go_must (refine wpList_app rfl _ _ rfl w wr u3 _ (by rfl) HB.out [UInt8.ofNat (48 + q % 10)] 1 rfl _ HC.out (by rfl) (by rw [List.length_singleton]; omega) ?_); intro v2 W2 hO; have HO := Hid.mk' hO; clear hO))
        go_roundw
        case rel => exact ⟨q / 10, _, by omega, by first | rfl | (rw [hd]; rfl) | simp, HLN.out, HST.out, HO.out⟩
        case measure => simp [intOf]; omega
      · obtain rfl : q = 0 := by omega
        have HDM : Hid (dd M = l.reverse) := by show _ = _; rw [HD.out]; rfl
        have hq1 : ((0 : Int) != 0) = false := rfl
        rw [show (-((0 : Nat) : Int)) = 0 from rfl]
        obtain ⟨ba, bc, hbs, _, _⟩ := id HB.out.row
        subst hbs
        go_upto_if 26 with (fail)
        have HLB : Hid (l.length ≤ 19) := hll
        have HPRE : Hid (Lib.itoa n = (if n < 0 then [45] else []) ++ l.reverse) := by
          show _ = _
          rw [HIT.out, show n.natAbs = M from HM.out.symm, HDM.out]
        go_cut [5, 26] from 26 to 29 (fun v5 _ wx => Hid (OB wr wx v5 (if n < 0 then [45] else [])))
        case first =>
          by_cases hneg : n < 0
          · have HE : Hid ((if n < 0 then ([45] : Bs) else []) = [] ++ [45]) := by show _ = _; rw [if_pos hneg]; rfl
            go_wp2_with (first
              | (at_builtin; go_must (refine wpList_app rfl _ _ rfl wr wr (.slice none 0 0) [] (by rfl) (OB.nil wr) [45] 1 rfl _ (by rfl) (by rfl) (by decide) ?_); intro v2 W2 hO; have HO := Hid.mk' hO; clear hO))
            go_meet
            case rel => rw [HE.out]; exact HO.out
          · have HE : Hid ((if n < 0 then ([45] : Bs) else []) = []) := by show _ = _; rw [if_neg hneg]
            go_wp2
            go_meet
            case rel => rw [HE.out]; exact OB.nil wr
        case rest =>
          have HP := Hid.mk' hcut.out
          clear hcut
          generalize (if n < 0 then ([45] : Bs) else []) = pre at *
          have hl63 : (l.length : Int) ≤ 19 := by omega
          have hpl : Hid (pre.length ≤ 1000) := by
            have h1 := Lib.itoa_length_le n hn.1 hn.2
            rw [HPRE.out, List.length_append] at h1
            show _ ≤ _
            omega
          have HBX := Hid.mk' HB.out.row
          have HKR := Hid.mk' HB.out.2
          clear HB
          go_wp2
          go_loopw [5, 6] (fun vb vi wo => ∃ j : Nat, j ≤ l.length ∧ vi = .int .i64 ((l.length : Int) - 1 - (j : Int)) ∧ Hid (OB wr wo vb (pre ++ l.reverse.take j))) (fun _ vi _ => (intOf vi + 1).toNat)
          case atStart => exact ⟨0, Nat.zero_le _, by simp, by have := HP.out; simpa [Hid] using this⟩
          case round =>
            rename World => wo
            obtain ⟨j, hj, rfl, HO⟩ := hrel
            by_cases h1 : j < l.length
            · obtain ⟨m, hm⟩ : ∃ m : Nat, l.length - 1 - j = m := ⟨_, rfl⟩
              have e1 : (l.length : Int) - 1 - (j : Int) = (m : Int) := by omega
              have hm1 : m < l.length := by omega
              have hm2 : (m : Int) < (l.length : Int) := by omega
              obtain ⟨b, hb⟩ : ∃ b, l[m]? = some b := ⟨l[m], by simp [hm1]⟩
              have hrv : l.reverse[j]? = some b := by rw [List.getElem?_reverse h1, hm]; exact hb
              obtain ⟨a', c', hpc, _, hcell⟩ := HBX.out.keep HO.out.2
              injection hpc with q1 q2 q3
              subst q1
              subst q3
              obtain ⟨bb, bo, hp, _, hc2⟩ := hcell (by omega)
              subst hp
              have hld := hc2 m (.int .u8 ((b.toNat : Nat) : Int)) (by simp [vals, hb])
              have HN : Hid (pre ++ l.reverse.take (j + 1) = (pre ++ l.reverse.take j) ++ [b]) := by
                show _ = _
                rw [List.take_add_one, hrv, Option.toList_some, List.append_assoc]
              have HLL : Hid ((pre ++ l.reverse.take j).length ≤ 2000) := by
                have h : pre.length ≤ 1000 := hpl.out
                show _ ≤ _
                rw [List.length_append, List.length_take]
                omega
              rw [e1]
              clear hc2 hcell q2 hb hrv
              go_wp2_with (first
                | (at_builtin; go_must (refine wpList_app rfl _ _ rfl wr wo u5 _ (by rfl) HO.out [b] 1 rfl _ (by rfl) (by rfl) (by have h : (pre ++ l.reverse.take j).length ≤ 2000 := HLL.out; rw [List.length_singleton]; omega) ?_); intro v2 W2 hO; have HO2 := Hid.mk' hO; clear hO))
              go_roundw
              case rel => exact ⟨j + 1, by omega, by congr 1; omega, by rw [HN.out]; exact HO2.out⟩
              case measure => simp [intOf]
            · obtain rfl : j = l.length := by omega
              have hcv := conv_row wo u5 (pre ++ l.reverse.take l.length) HO.out.row
              have HFI : Hid (pre ++ l.reverse.take l.length = Lib.itoa n) := by show _ = _; rw [HPRE.out, List.take_of_length_le (by simp)]
              rw [HFI.out] at hcv
              have e1 : (l.length : Int) - 1 - (l.length : Int) = -1 := by omega
              rw [e1]
              go_wp2
              go_ret
              exact ⟨rfl, HKR.out.trans HO.out.2⟩
end Go.Proofs.YtngoifbflpeapabDoor

