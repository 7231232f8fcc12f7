import Derived.Test.YtdlhdompemkjfaaGreatDoorK21
import Derived.Deep.DeepCutAuto
namespace Go.Proofs.YtdlhdompemkjfaaGreatDoor
open Go.RowKit Go.Maps
set_option maxRecDepth 100000

/-! The document's Show: a number's word. -/
def dd (q : Nat) : Bs := if q = 0 then [] else Lib.decDigits q
theorem dd_step {q : Nat} (h : 0 < q) : dd q = dd (q / 10) ++ [UInt8.ofNat (48 + q % 10)] := by
  unfold dd
  rw [if_neg (by omega), Lib.decDigits]
  by_cases h10 : q < 10
  · rw [dif_pos h10, if_pos (by omega)]
    have : q % 10 = q := by omega
    rw [this]; rfl
  · rw [dif_neg h10, if_neg (by omega)]
theorem dd_len : ∀ (n q : Nat), q < 10 ^ n → (dd q).length ≤ n
  | 0, q, h => by
    have : q = 0 := by simpa using h
    rw [this]; exact Nat.zero_le _
  | n + 1, q, h => by
    by_cases hq : q = 0
    · rw [hq]; exact Nat.zero_le _
    · rw [dd_step (by omega), List.length_append, List.length_singleton]
      have := dd_len n (q / 10) (by rw [Nat.pow_succ] at h; omega)
      omega
theorem itoa_dd {n : Int} (h : n ≠ 0) : Lib.itoa n = (if n < 0 then [45] else []) ++ dd n.natAbs := by
  unfold Lib.itoa dd
  rw [if_neg (show ¬ n.natAbs = 0 by omega)]
  by_cases hn : n < 0
  · rw [if_pos hn, if_pos hn]; rfl
  · rw [if_neg hn, if_neg hn]
    have : n.toNat = n.natAbs := by omega
    rw [this]; rfl
theorem neg_tmod10 (q : Nat) : (-(q : Int)).tmod 10 = -((q % 10 : Nat) : Int) := by
  rw [Int.neg_tmod]; rfl
theorem neg_tdiv10 (q : Nat) : (-(q : Int)).tdiv 10 = -((q / 10 : Nat) : Int) := by
  rw [Int.neg_tdiv]; rfl
theorem dig_val (q : Nat) : (((UInt8.ofNat (48 + q % 10)).toNat : Nat) : Int) = 48 + ((q % 10 : Nat) : Int) := by
  rw [ofNat_small (by omega)]; omega

set_option maxHeartbeats 8000000 in
theorem show_any (w : World) (n : Int) (hn : -9223372036854775808 ≤ n ∧ n ≤ 9223372036854775807) :
    Calls Tryz.prog 22 #[.int .i64 n] w fun e w' => e = .returned (.string (mkB (Lib.itoa n))) ∧ Keeps (fun _ => False) w w' := by
  by_cases h0 : n = 0
  · subst h0
    go_enter Tryz.func22, Tryz.ntmps22
    go_wp2
    go_ret
    exact ⟨by simp [Lib.itoa, Lib.decDigits]; rfl, Keeps.refl _ _⟩
  have h0b : (n == 0) = false := beq_eq_false_iff_ne.2 h0
  have HIT := Hid.mk' (itoa_dd h0)
  have HDL := Hid.mk' (dd_len 19 n.natAbs (by have : (10 : Nat) ^ 19 = 10000000000000000000 := by decide
                                              omega))
  obtain ⟨M, hM⟩ : ∃ M : Nat, M = n.natAbs := ⟨_, rfl⟩
  have HM := Hid.mk' hM
  go_enter Tryz.func22, Tryz.ntmps22
  go_upto_if 11 with (fail)
  go_cut [4, 11] from 11 to 13 (fun v4 _ wx => v4 = .int .i64 (-(M : Int)) ∧ w = wx)
  case first =>
    by_cases hp : 0 < n
    · have H1 : Hid (-n = -(M : Int)) := by show _ = _; omega
      clear hM
      go_wp2
      go_meet
      case rel => exact ⟨by rw [H1.out], rfl⟩
    · have H1 : Hid (n = -(M : Int)) := by show _ = _; omega
      clear hM
      go_wp2
      go_meet
      case rel => exact ⟨by rw [← H1.out], rfl⟩
  case rest =>
    obtain ⟨rfl, rfl⟩ := hcut
    clear hM
    go_wp2
    go_loopw [3, 4] (fun vb vm wr => ∃ (q : Nat) (l : Bs), q ≤ M ∧ vm = .int .i64 (-(q : Int)) ∧ l.length ≤ 19 ∧ Hid (dd M = dd q ++ l.reverse) ∧ Hid (OB w wr vb l)) (fun _ vm _ => (intOf vm).natAbs)
    case atStart => exact ⟨M, [], Nat.le_refl _, rfl, by simp, by show _ = _; simp, OB.nil w⟩
    case round =>
      obtain ⟨q, l, hq, rfl, hll, HD, HB⟩ := hrel
      by_cases hq0 : 0 < q
      · have hqb : (-(q : Int) != 0) = true := bne_iff_ne.2 (by omega)
        have hmb : -9223372036854775808 ≤ -(q : Int) := by have : M = n.natAbs := HM.out; omega
        have ht := neg_tmod10 q
        have hd := neg_tdiv10 q
        have HC : Hid (#[Value.int .u8 (48 + (q : Int) % 10)] = (vals [UInt8.ofNat (48 + q % 10)]).toArray) := by
          show _ = #[Value.int .u8 (((UInt8.ofNat (48 + q % 10)).toNat : Nat) : Int)]
          rw [dig_val]
          rfl
        have HST : Hid (dd M = dd (q / 10) ++ (l ++ [UInt8.ofNat (48 + q % 10)]).reverse) := by
          show _ = _
          rw [HD.out, dd_step hq0]; simp
        have HLN : Hid ((l ++ [UInt8.ofNat (48 + q % 10)]).length ≤ 19) := by
          have h1 : (dd n.natAbs).length ≤ 19 := HDL.out
          have h2 : M = n.natAbs := HM.out
          rw [← h2, HST.out, List.length_append, List.length_reverse] at h1
          show _ ≤ _
          omega
        clear hqb
        go_wp2_with (first
          | (at_builtin; go_must (refine wpList_app rfl _ _ rfl w wr u3 _ (by rfl) HB.out [UInt8.ofNat (48 + q % 10)] 1 rfl _ HC.out (by rfl) (by rw [List.length_singleton]; omega) ?_); intro v2 W2 hO; have HO := Hid.mk' hO; clear hO))
        go_roundw
        case rel => exact ⟨q / 10, _, by omega, by first | rfl | (rw [hd]; rfl) | simp, HLN.out, HST.out, HO.out⟩
        case measure => simp [intOf]; omega
      · obtain rfl : q = 0 := by omega
        have HDM : Hid (dd M = l.reverse) := by show _ = _; rw [HD.out]; rfl
        have hq1 : ((0 : Int) != 0) = false := rfl
        rw [show (-((0 : Nat) : Int)) = 0 from rfl]
        obtain ⟨ba, bc, hbs, _, _⟩ := id HB.out.row
        subst hbs
        go_upto_if 26 with (fail)
        have HLB : Hid (l.length ≤ 19) := hll
        have HPRE : Hid (Lib.itoa n = (if n < 0 then [45] else []) ++ l.reverse) := by
          show _ = _
          rw [HIT.out, show n.natAbs = M from HM.out.symm, HDM.out]
        go_cut [5, 26] from 26 to 29 (fun v5 _ wx => Hid (OB wr wx v5 (if n < 0 then [45] else [])))
        case first =>
          by_cases hneg : n < 0
          · have HE : Hid ((if n < 0 then ([45] : Bs) else []) = [] ++ [45]) := by show _ = _; rw [if_pos hneg]; rfl
            go_wp2_with (first
              | (at_builtin; go_must (refine wpList_app rfl _ _ rfl wr wr (.slice none 0 0) [] (by rfl) (OB.nil wr) [45] 1 rfl _ (by rfl) (by rfl) (by decide) ?_); intro v2 W2 hO; have HO := Hid.mk' hO; clear hO))
            go_meet
            case rel => rw [HE.out]; exact HO.out
          · have HE : Hid ((if n < 0 then ([45] : Bs) else []) = []) := by show _ = _; rw [if_neg hneg]
            go_wp2
            go_meet
            case rel => rw [HE.out]; exact OB.nil wr
        case rest =>
          have HP := Hid.mk' hcut.out
          clear hcut
          generalize (if n < 0 then ([45] : Bs) else []) = pre at *
          have hl63 : (l.length : Int) ≤ 19 := by omega
          have hpl : Hid (pre.length ≤ 1000) := by
            have h1 := Lib.itoa_length_le n hn.1 hn.2
            rw [HPRE.out, List.length_append] at h1
            show _ ≤ _
            omega
          have HBX := Hid.mk' HB.out.row
          have HKR := Hid.mk' HB.out.2
          clear HB
          go_wp2
          go_loopw [5, 6] (fun vb vi wo => ∃ j : Nat, j ≤ l.length ∧ vi = .int .i64 ((l.length : Int) - 1 - (j : Int)) ∧ Hid (OB wr wo vb (pre ++ l.reverse.take j))) (fun _ vi _ => (intOf vi + 1).toNat)
          case atStart => exact ⟨0, Nat.zero_le _, by simp, by have := HP.out; simpa [Hid] using this⟩
          case round =>
            rename World => wo
            obtain ⟨j, hj, rfl, HO⟩ := hrel
            by_cases h1 : j < l.length
            · obtain ⟨m, hm⟩ : ∃ m : Nat, l.length - 1 - j = m := ⟨_, rfl⟩
              have e1 : (l.length : Int) - 1 - (j : Int) = (m : Int) := by omega
              have hm1 : m < l.length := by omega
              have hm2 : (m : Int) < (l.length : Int) := by omega
              obtain ⟨b, hb⟩ : ∃ b, l[m]? = some b := ⟨l[m], by simp [hm1]⟩
              have hrv : l.reverse[j]? = some b := by rw [List.getElem?_reverse h1, hm]; exact hb
              obtain ⟨a', c', hpc, _, hcell⟩ := HBX.out.keep HO.out.2
              injection hpc with q1 q2 q3
              subst q1
              subst q3
              obtain ⟨bb, bo, hp, _, hc2⟩ := hcell (by omega)
              subst hp
              have hld := hc2 m (.int .u8 ((b.toNat : Nat) : Int)) (by simp [vals, hb])
              have HN : Hid (pre ++ l.reverse.take (j + 1) = (pre ++ l.reverse.take j) ++ [b]) := by
                show _ = _
                rw [List.take_add_one, hrv, Option.toList_some, List.append_assoc]
              have HLL : Hid ((pre ++ l.reverse.take j).length ≤ 2000) := by
                have h : pre.length ≤ 1000 := hpl.out
                show _ ≤ _
                rw [List.length_append, List.length_take]
                omega
              rw [e1]
              clear hc2 hcell q2 hb hrv
              go_wp2_with (first
                | (at_builtin; go_must (refine wpList_app rfl _ _ rfl wr wo u5 _ (by rfl) HO.out [b] 1 rfl _ (by rfl) (by rfl) (by have h : (pre ++ l.reverse.take j).length ≤ 2000 := HLL.out; rw [List.length_singleton]; omega) ?_); intro v2 W2 hO; have HO2 := Hid.mk' hO; clear hO))
              go_roundw
              case rel => exact ⟨j + 1, by omega, by congr 1; omega, by rw [HN.out]; exact HO2.out⟩
              case measure => simp [intOf]
            · obtain rfl : j = l.length := by omega
              have hcv := conv_row wo u5 (pre ++ l.reverse.take l.length) HO.out.row
              have HFI : Hid (pre ++ l.reverse.take l.length = Lib.itoa n) := by show _ = _; rw [HPRE.out, List.take_of_length_le (by simp)]
              rw [HFI.out] at hcv
              have e1 : (l.length : Int) - 1 - (l.length : Int) = -1 := by omega
              rw [e1]
              go_wp2
              go_ret
              exact ⟨rfl, HKR.out.trans HO.out.2⟩
end Go.Proofs.YtdlhdompemkjfaaGreatDoor

namespace Go.Proofs.YtdlhdompemkjfaaGreatDoor
open Go.RowKit Go.Maps
set_option maxRecDepth 100000

/-! The document's Number: of a word, if some number is printed so. -/
theorem num_text {x : Bs} {v : Int} (h : num x = some v) : x = Lib.itoa v ∧ -9223372036854775808 ≤ v ∧ v ≤ 9223372036854775807 := by
  unfold num at h
  split at h
  · rename_i u hu
    split at h
    · rename_i hi
      cases h
      exact ⟨hi.symm, parse_bounds hu⟩
    · cases h
  · cases h
def pvs (acc : Nat) (b : UInt8) : Nat := if b = 45 then acc else acc * 10 + (b.toNat - 48)
def pv (x : Bs) (k : Nat) : Nat := (x.take k).foldl pvs 0
theorem pv_succ {x : Bs} {k : Nat} {b : UInt8} (h : x[k]? = some b) : pv x (k + 1) = pvs (pv x k) b := by
  unfold pv
  rw [List.take_add_one, h, Option.toList_some, List.foldl_append]
  rfl
theorem pvs_le (acc : Nat) (b : UInt8) : acc ≤ pvs acc b := by
  unfold pvs
  split
  · exact Nat.le_refl _
  · omega
theorem pv_mono {x : Bs} : ∀ {j k : Nat}, pv x k ≤ pv x (k + j)
  | 0, k => Nat.le_refl _
  | j + 1, k => by
    have h := pv_mono (x := x) (j := j) (k := k)
    cases hb : x[k + j]? with
    | some b =>
      have := pvs_le (pv x (k + j)) b
      rw [← pv_succ hb] at this
      exact Nat.le_trans h this
    | none =>
      have e : pv x (k + (j + 1)) = pv x (k + j) := by
        unfold pv
        have := List.getElem?_eq_none_iff.1 hb
        rw [List.take_of_length_le (by omega), List.take_of_length_le (by omega)]
      rw [e]; exact h
theorem pv_dec : ∀ (u : Nat), (Lib.decDigits u).foldl pvs 0 = u := by
  intro u
  induction u using Nat.strongRecOn with
  | _ u ih =>
    have hne : ∀ d, d < 10 → ¬ UInt8.ofNat (48 + d) = 45 := by
      intro d hd e
      have := congrArg UInt8.toNat e
      rw [ofNat_small (by omega)] at this
      have e45 : (45 : UInt8).toNat = 45 := rfl
      omega
    rw [Lib.decDigits]
    by_cases h10 : u < 10
    · rw [dif_pos h10]
      show pvs 0 (UInt8.ofNat (48 + u)) = u
      unfold pvs
      rw [if_neg (hne u h10), ofNat_small (by omega)]
      omega
    · rw [dif_neg h10, List.foldl_append, ih (u / 10) (by omega)]
      show pvs (u / 10) (UInt8.ofNat (48 + u % 10)) = u
      unfold pvs
      rw [if_neg (hne _ (by omega)), ofNat_small (by omega)]
      omega
theorem pv_itoa (v : Int) : pv (Lib.itoa v) (Lib.itoa v).length = v.natAbs := by
  unfold pv
  rw [List.take_length]
  unfold Lib.itoa
  split
  · show (Lib.decDigits v.natAbs).foldl pvs (pvs 0 45) = _
    exact pv_dec _
  · rw [pv_dec]; omega
theorem itoa_first (v : Int) : ∃ b r, Lib.itoa v = b :: r ∧ (b = 45 ↔ v < 0) := by
  unfold Lib.itoa
  split
  · rename_i h
    exact ⟨45, _, rfl, ⟨fun _ => h, fun _ => rfl⟩⟩
  · rename_i h
    obtain ⟨c, r, e, h1, h2⟩ := dec_head v.toNat
    refine ⟨c, r, e, ⟨fun hc => ?_, fun hc => absurd hc h⟩⟩
    subst hc
    have e45 : (45 : UInt8).toNat = 45 := rfl
    omega
theorem itoa_tail {v : Int} {k : Nat} {b : UInt8} (h : (Lib.itoa v)[k]? = some b) : (48 ≤ b.toNat ∧ b.toNat ≤ 57) ∨ (k = 0 ∧ b = 45) := by
  unfold Lib.itoa at h
  split at h
  · cases k with
    | zero => right; exact ⟨rfl, by simpa using h.symm⟩
    | succ k =>
      left
      rw [List.getElem?_cons_succ] at h
      exact dec_bytes _ _ (List.mem_of_getElem? h)
  · left; exact dec_bytes _ _ (List.mem_of_getElem? h)
theorem itoa_len20 {v : Int} (h : -9223372036854775808 ≤ v ∧ v ≤ 9223372036854775807) : (Lib.itoa v).length ≤ 20 := by
  by_cases h0 : v = 0
  · subst h0; simp [Lib.itoa, Lib.decDigits]
  · rw [itoa_dd h0, List.length_append]
    have := dd_len 19 v.natAbs (by have : (10 : Nat) ^ 19 = 10000000000000000000 := by decide
                                   omega)
    have h2 : (if v < 0 then ([45] : Bs) else []).length ≤ 1 := by split <;> simp
    omega
theorem num_nil : num [] = none := by
  cases h : num [] with
  | none => rfl
  | some v =>
    have := (num_text h).1
    exact absurd this.symm (itoa_ne v)
theorem wrap_in (x : Int) : -9223372036854775808 ≤ wrap64 x ∧ wrap64 x ≤ 9223372036854775807 := by
  unfold wrap64; omega
/-- What is known of the number so far. -/
def NK (x : Bs) (k : Nat) (m : Int) : Prop := (-9223372036854775808 ≤ m ∧ m ≤ 9223372036854775807) ∧ ∀ v, num x = some v → m = -(pv x k : Int)
theorem NK.bound {x : Bs} {v : Int} (h : num x = some v) (k : Nat) : pv x k ≤ v.natAbs := by
  have ht := (num_text h).1
  by_cases hk : k ≤ x.length
  · have := pv_mono (x := x) (j := x.length - k) (k := k)
    rw [show k + (x.length - k) = x.length by omega] at this
    rw [ht, pv_itoa, ← ht] at this
    exact this
  · have e : pv x k = pv x x.length := by
      unfold pv
      rw [List.take_of_length_le (by omega), List.take_length]
    rw [e, ht, pv_itoa]
    exact Nat.le_refl _
theorem NK.digit {x : Bs} {k : Nat} {m : Int} (h : NK x k m) {b : UInt8} (hb : x[k]? = some b) (hd : 48 ≤ b.toNat ∧ b.toNat ≤ 57) : NK x (k + 1) (wrap64 (wrap64 (10 * m) - ((b.toNat : Int) - 48))) := by
  refine ⟨wrap_in _, fun v hv => ?_⟩
  have hm := h.2 v hv
  have hn : ¬ b = 45 := by
    rintro rfl
    have e45 : (45 : UInt8).toNat = 45 := rfl
    omega
  have e := pv_succ hb
  unfold pvs at e
  rw [if_neg hn] at e
  have hb2 := NK.bound hv (k + 1)
  have hv2 := (num_text hv).2
  rw [e] at hb2 ⊢
  have hm' : m = -(pv x k : Int) := hm
  generalize pv x k = p at *
  have h1 : wrap64 (10 * m) = 10 * m := wrap64_id (by omega) (by omega)
  rw [h1]
  rw [wrap64_id (by omega) (by omega)]
  omega
theorem NK.minus {x : Bs} {m : Int} (h : NK x 0 m) (hb : x[0]? = some 45) : NK x 1 m := by
  refine ⟨h.1, fun v hv => ?_⟩
  rw [h.2 v hv]
  have e := pv_succ hb
  unfold pvs at e
  rw [if_pos rfl] at e
  show _ = -((pv x 1 : Nat) : Int)
  rw [show (1 : Nat) = 0 + 1 from rfl, e]
theorem NK.bad {x : Bs} {k : Nat} {b : UInt8} (hb : x[k]? = some b) (h1 : ¬ (48 ≤ b.toNat ∧ b.toNat ≤ 57)) (h2 : ¬ (k = 0 ∧ b = 45)) : num x = none := by
  cases hv : num x with
  | none => rfl
  | some v =>
    have ht := (num_text hv).1
    rw [ht] at hb
    rcases itoa_tail hb with h | h
    · exact absurd h h1
    · exact absurd h h2
theorem NK.fin {x : Bs} {m : Int} (h : NK x x.length m) {b : UInt8} (hb : x[0]? = some b) (m2 : Int) (hm2 : m2 = if b = 45 then m else wrap64 (-m)) : (∀ v, num x = some v → m2 = v) ∧ (Lib.itoa m2 = x ↔ (num x).isSome = true) ∧ -9223372036854775808 ≤ m2 ∧ m2 ≤ 9223372036854775807 := by
  have hbd : -9223372036854775808 ≤ m2 ∧ m2 ≤ 9223372036854775807 := by
    rw [hm2]
    split
    · exact h.1
    · exact wrap_in _
  have key : ∀ v, num x = some v → m2 = v := by
    intro v hv
    have ht := num_text hv
    have hm := h.2 v hv
    have e : pv x x.length = v.natAbs := by rw [ht.1, pv_itoa]
    rw [e] at hm
    obtain ⟨c, r, ec, hc⟩ := itoa_first v
    have hbc : b = c := by
      rw [ht.1, ec] at hb
      simpa using hb.symm
    subst hbc
    rw [hm2]
    by_cases h45 : b = 45
    · rw [if_pos h45]
      have := hc.1 h45
      omega
    · rw [if_neg h45]
      have : ¬ v < 0 := fun hv2 => h45 (hc.2 hv2)
      rw [wrap64_id (by omega) (by omega)]
      omega
  refine ⟨key, ⟨fun e => ?_, fun e => ?_⟩, hbd⟩
  · rw [← e, num_itoa m2 hbd.1 hbd.2]; rfl
  · obtain ⟨v, hv⟩ := Option.isSome_iff_exists.1 e
    rw [key v hv]
    exact (num_text hv).1.symm
end Go.Proofs.YtdlhdompemkjfaaGreatDoor
