import Derived.Test.YtdlhdompemkjfaaGreatDoorK23
namespace Go.Proofs.YtdlhdompemkjfaaGreatDoor
open Go.RowKit Go.Maps
set_option maxRecDepth 100000

set_option maxHeartbeats 16000000 in
theorem rwords_any (w : World) (s : ByteArray) (hs : s.size ≤ 1000000) :
    Calls Tryz.prog 38 #[.string s] w fun e w' => ∃ v, e = .returned (.tuple #[v, .bool (wds [] s.data.toList).isSome]) ∧ Hid (RB w w' v ((wds [] s.data.toList).getD [])) := by
  have HS := Hid.mk' (size_len s)
  go_enter Tryz.func38, Tryz.ntmps38
  go_wp2
  go_loopw [4, 5] (fun v i wr => ∃ (k : Nat) (acc : List Wd), k ≤ s.size ∧ i = .int .i64 k ∧ Hid (WI s.data.toList k acc ∧ RB w wr v acc)) (fun _ i _ => s.size + 1 - (intOf i).toNat)
  case atStart => exact ⟨0, [], Nat.zero_le _, rfl, WI.start _, RB.nil w⟩
  case round =>
    obtain ⟨k, acc, hk, rfl, HR⟩ := hrel
    by_cases h1 : k < s.size
    · have h1' : (k : Int) < (s.size : Int) := by omega
      have hby := byte_at s k h1
      generalize hbb : (s[k]'h1) = b at *
      have hlt : k < s.data.toList.length := by rw [← HS.out]; exact h1
      have hgd : s.data.toList.getD k 0 = b := by rw [List.getD_eq_getElem?_getD, hby]; rfl
      have HA : Hid (acc.length ≤ 1000000) := by have := HR.out.1.2.1; show _ ≤ _; omega
      by_cases c32 : b = 32
      · have k32 := by_yes (k := 32) 32 rfl c32
        have HN := Hid.mk' (HR.out.1.blank hlt (by rw [hgd]; exact c32))
        clear c32 hby hgd hlt
        go_wp2
        go_roundw
        case rel => exact ⟨k + 1, acc, by omega, by go_num, HN.out, HR.out.2⟩
        case measure => simp [intOf]; omega
      have k32 := by_no (k := 32) 32 rfl c32
      have hd32 : ¬ s.data.toList.getD k 0 = 32 := by rw [hgd]; exact c32
      have ht0 : (s.data.toList.drop k).getD 0 0 = b := by rw [← hgd, List.getD_eq_getElem?_getD, List.getElem?_drop, Nat.add_zero, ← List.getD_eq_getElem?_getD]
      have htl : (s.data.toList.drop k).length = s.size - k := by rw [List.length_drop, HS.out]
      have htg : ∀ n, (s.data.toList.drop k).getD n 0 = s.data.toList.getD (k + n) 0 := fun n => by rw [List.getD_eq_getElem?_getD, List.getElem?_drop, ← List.getD_eq_getElem?_getD]
      by_cases c34 : b = 34
      · have k34 := by_yes (k := 34) 34 rfl c34
        have hu := runquote_any wr (s.extract k s.size) (by rw [mkB_extr, mkB_size]; simp; omega)
        rw [extr_rest] at hu
        have hq34 : (s.data.toList.drop k).getD 0 0 = 34 := by rw [ht0]; exact c34
        cases huq : uq (s.data.toList.drop k) with
        | none =>
          have HE := Hid.mk' (HR.out.1.bad hlt hd32 (fw_quo_none hq34 huq))
          have e1 : uqT (s.data.toList.drop k) = ⟨#[]⟩ := by unfold uqT; rw [huq]
          have e2 : uqN (s.data.toList.drop k) = 0 := by unfold uqN; rw [huq]
          have e3 : uqE (s.data.toList.drop k) = 194 := by unfold uqE; rw [huq]
          rw [e1, e2, e3] at hu
          clear c32 c34 hby hgd hlt hd32 ht0 htl htg hq34 huq e1 e2 e3
          go_wp2_with (first | (go_at_call 57; refine hu.mono ?_; clear hu; rintro e w1 ⟨rfl, hk1⟩; have HK1 := Hid.mk' hk1; clear hk1))
          try rw [Exit.noGoto_ret]
          refine bodyPost_ret (v := .tuple #[.slice none 0 0, .bool false]) (by simp [results, Tryz.results38, go_sem]) rfl ?_
          rw [HE.out]
          exact ⟨_, rfl, World.ownsRow_nil _ _ _ _, HR.out.2.2.trans HK1.out⟩
        | some p =>
          obtain ⟨a, n⟩ := p
          have hnl := uq_le huq
          rw [htl] at hnl
          obtain ⟨m, hm⟩ : ∃ m, m = k + n := ⟨_, rfl⟩
          have hkm : (k : Int) + (n : Int) = (m : Int) := by omega
          have hmk : k < m := by omega
          have e1 : uqT (s.data.toList.drop k) = mkB a := by unfold uqT; rw [huq]
          have e2 : uqN (s.data.toList.drop k) = (n : Int) := by unfold uqN; rw [huq]
          have e3 : uqE (s.data.toList.drop k) = 0 := by unfold uqE; rw [huq]
          rw [e1, e2, e3] at hu
          have hyes : (m < s.size → s.data.toList.getD m 0 = 32) → Hid (WI s.data.toList m (acc ++ [⟨mkB a, true⟩])) := by
            intro hh
            have hf := fw_quo hq34 huq (fun h => by rw [htg]; rw [← hm]; exact hh (by rw [htl] at h; omega))
            have := HR.out.1.word hlt hd32 (by rw [hf]; show ¬ n = 0; omega)
            rw [hf] at this
            rw [hm]
            exact this
          have hms : m ≤ s.size := by omega
          by_cases hend : m < s.size
          · have hend' : (m : Int) < (s.size : Int) := by omega
            have hbm := byte_at s m hend
            generalize hcc : (s[m]'hend) = c at *
            have hgm : s.data.toList.getD m 0 = c := by rw [List.getD_eq_getElem?_getD, hbm]; rfl
            by_cases d32 : c = 32
            · have j32 := by_nn (k := 32) 32 rfl d32
              have HN := hyes (fun _ => by rw [hgm]; exact d32)
              clear c32 c34 hby hgd hlt hd32 ht0 htl htg hq34 huq e1 e2 e3 hyes hm hnl
              go_wp2_with (first
                | (go_at_call 57; refine hu.mono ?_; clear hu; rintro e w1 ⟨rfl, hk1⟩; have HK1 := Hid.mk' hk1; clear hk1)
                | (refine wpList_wordr rfl _ rfl ⟨mkB a, true⟩ (by rfl) ?_)
                | (at_builtin; go_must (refine wpList_appr rfl _ _ rfl w w1 u4 acc (by rfl) (HR.out.2.keep HK1.out) ⟨mkB a, true⟩ (by rfl) (by have h : acc.length ≤ 1000000 := HA.out; omega) ?_); intro v2 W2 hO; have HO := Hid.mk' hO; clear hO))
              go_roundw
              case rel => exact ⟨m, _, by omega, by first | rfl | go_num, HN.out, HO.out⟩
              case measure => simp [intOf]; omega
            · have j32 := by_ne (k := 32) 32 rfl d32
              have HE := Hid.mk' (HR.out.1.bad hlt hd32 (fw_quo_bad hq34 huq (by rw [htl]; omega) (by rw [htg, ← hm, hgm]; exact d32)))
              clear c32 c34 hby hgd hlt hd32 ht0 htl htg hq34 huq e1 e2 e3 hyes hm hnl
              go_wp2_with (first | (go_at_call 57; refine hu.mono ?_; clear hu; rintro e w1 ⟨rfl, hk1⟩; have HK1 := Hid.mk' hk1; clear hk1))
              try rw [Exit.noGoto_ret]
              refine bodyPost_ret (v := .tuple #[.slice none 0 0, .bool false]) (by simp [results, Tryz.results38, go_sem]) rfl ?_
              rw [HE.out]
              exact ⟨_, rfl, World.ownsRow_nil _ _ _ _, HR.out.2.2.trans HK1.out⟩
          · have hend' : ¬ (m : Int) < (s.size : Int) := by omega
            have HN := hyes (fun h => absurd h hend)
            clear c32 c34 hby hgd hlt hd32 ht0 htl htg hq34 huq e1 e2 e3 hyes hm hnl
            go_wp2_with (first
              | (go_at_call 57; refine hu.mono ?_; clear hu; rintro e w1 ⟨rfl, hk1⟩; have HK1 := Hid.mk' hk1; clear hk1)
              | (refine wpList_wordr rfl _ rfl ⟨mkB a, true⟩ (by rfl) ?_)
              | (at_builtin; go_must (refine wpList_appr rfl _ _ rfl w w1 u4 acc (by rfl) (HR.out.2.keep HK1.out) ⟨mkB a, true⟩ (by rfl) (by have h : acc.length ≤ 1000000 := HA.out; omega) ?_); intro v2 W2 hO; have HO := Hid.mk' hO; clear hO))
            go_roundw
            case rel => exact ⟨m, _, by omega, by first | rfl | go_num, HN.out, HO.out⟩
            case measure => simp [intOf]; omega
      · have k34 := by_no (k := 34) 34 rfl c34
        have hq34 : ¬ (s.data.toList.drop k).getD 0 0 = 34 := by rw [ht0]; exact c34
        have hup : 0 < upto 32 (s.data.toList.drop k) := by
          have e : (s.data.toList.drop k)[0]? = some b := by rw [List.getElem?_drop, Nat.add_zero]; exact hby
          exact upto_go (Nat.zero_le _) e c32
        have HT : Hid (∀ j, (s.data.toList.drop k)[j]? = s.data.toList[k + j]?) := fun j => by rw [List.getElem?_drop]
        have HBAD : Hid (∀ j, j < upto 32 (s.data.toList.drop k) → (s.data.toList.drop k)[j]? = some 34 → wds [] s.data.toList = none) := fun j h1 h2 => HR.out.1.bad hlt hd32 (fw_pl_bad hq34 h1 h2)
        have HGOOD : Hid (∀ j, j = upto 32 (s.data.toList.drop k) → ((s.data.toList.drop k).take j).all (· != 34) = true → WI s.data.toList (k + j) (acc ++ [⟨mkB ((s.data.toList.drop k).take j), false⟩])) := by
          intro j hj ha
          have hf := fw_pl hq34 hj ha
          have := HR.out.1.word hlt hd32 (by rw [hf]; show ¬ j = 0; omega)
          rw [hf] at this
          exact this
        have HUP := Hid.mk' hup
        clear c32 c34 hby hgd hlt hd32 ht0 htl htg hq34 hup
        go_wp2
        go_loopw [9] (fun i wq => wq = wr ∧ ∃ j : Nat, k + j ≤ s.size ∧ i = .int .i64 ((k + j : Nat) : Int) ∧ Hid (j ≤ upto 32 (s.data.toList.drop k)) ∧ Hid (((s.data.toList.drop k).take j).all (· != 34) = true)) (fun i _ => s.size + 1 - (intOf i).toNat)
        case atStart => exact ⟨rfl, 0, by omega, by simp, Nat.zero_le _, by show _ = _; rfl⟩
        case round =>
          obtain ⟨rfl, j, hj, rfl, HJ, HAL⟩ := hrel
          obtain ⟨m, hm⟩ : ∃ m, m = k + j := ⟨_, rfl⟩
          rw [← hm] at hj ⊢
          have hkm : k ≤ m := by omega
          have HX : Hid (s.extract k m = mkB ((s.data.toList.drop k).take j)) := by show _ = _; rw [mkB_extr, hm, show k + j - k = j by omega]
          have HM := Hid.mk' hm
          have g1 : ¬ (m : Int) < (k : Int) := by omega
          have g2 : (k : Int) ≤ (m : Int) := by omega
          by_cases h2 : m < s.size
          · have h2' : (m : Int) < (s.size : Int) := by omega
            have hbm := byte_at s m h2
            generalize hcc : (s[m]'h2) = c at *
            have htj : (s.data.toList.drop k)[j]? = some c := by rw [HT.out, ← hm]; exact hbm
            by_cases d32 : c = 32
            · have j32 := by_nn (k := 32) 32 rfl d32
              have hfin : j = upto 32 (s.data.toList.drop k) := upto_end HJ.out (Or.inr (by rw [htj, d32]))
              have HN := Hid.mk' (HGOOD.out j hfin HAL.out)
              rw [← hm] at HN
              have hjm : k < m := by have h : 0 < upto 32 (s.data.toList.drop k) := HUP.out; omega
              clear d32 hbm htj hfin hm
              go_wp2_with (first
                | (refine wpList_wordr rfl _ rfl ⟨s.extract k m, false⟩ (by rfl) ?_)
                | (at_builtin; go_must (refine wpList_appr rfl _ _ rfl w _ u4 acc (by rfl) HR.out.2 ⟨s.extract k m, false⟩ (by rfl) (by have h : acc.length ≤ 1000000 := HA.out; omega) ?_); intro v2 W2 hO; have HO := Hid.mk' hO; clear hO))
              go_roundw
              case rel => exact ⟨m, _, by omega, by first | rfl | go_num, HN.out, by have h := HO.out; rw [HX.out] at h; exact h⟩
              case measure => simp [intOf]; omega
            · have j32 := by_ne (k := 32) 32 rfl d32
              have hlt2 := upto_go HJ.out htj d32
              by_cases d34 : c = 34
              · have j34 := by_yes (k := 34) 34 rfl d34
                have HE := Hid.mk' (HBAD.out j hlt2 (by rw [htj, d34]))
                clear d32 d34 hbm htj hlt2 hm
                go_wp2
                try rw [Exit.noGoto_ret]
                refine bodyPost_ret (v := .tuple #[.slice none 0 0, .bool false]) (by simp [results, Tryz.results38, go_sem]) rfl ?_
                rw [HE.out]
                exact ⟨_, rfl, World.ownsRow_nil _ _ _ _, HR.out.2.2⟩
              · have j34 := by_no (k := 34) 34 rfl d34
                have HJ2 : Hid (j + 1 ≤ upto 32 (s.data.toList.drop k)) := hlt2
                have HAL2 : Hid (((s.data.toList.drop k).take (j + 1)).all (· != 34) = true) := by
                  show _ = _
                  rw [List.take_add_one, htj, Option.toList_some, List.all_append, HAL.out]
                  simp [d34]
                clear d32 d34 hbm htj hlt2 hm
                go_wp2
                go_roundw
                case rel => exact ⟨trivial, j + 1, by have := HM.out; omega, by rw [show ((k + (j + 1) : Nat) : Int) = (m : Int) + 1 by have := HM.out; omega], HJ2.out, HAL2.out⟩
                case measure => simp [intOf]; omega
          · have h2' : ¬ (m : Int) < (s.size : Int) := by omega
            have hfin : j = upto 32 (s.data.toList.drop k) := upto_end HJ.out (Or.inl (by rw [HT.out, ← hm]; exact List.getElem?_eq_none (by rw [← HS.out]; omega)))
            have HN := Hid.mk' (HGOOD.out j hfin HAL.out)
            rw [← hm] at HN
            have hjm : k < m := by have h : 0 < upto 32 (s.data.toList.drop k) := HUP.out; omega
            clear hfin hm
            go_wp2_with (first
              | (refine wpList_wordr rfl _ rfl ⟨s.extract k m, false⟩ (by rfl) ?_)
              | (at_builtin; go_must (refine wpList_appr rfl _ _ rfl w _ u4 acc (by rfl) HR.out.2 ⟨s.extract k m, false⟩ (by rfl) (by have h : acc.length ≤ 1000000 := HA.out; omega) ?_); intro v2 W2 hO; have HO := Hid.mk' hO; clear hO))
            go_roundw
            case rel => exact ⟨m, _, by omega, by first | rfl | go_num, HN.out, by have h := HO.out; rw [HX.out] at h; exact h⟩
            case measure => simp [intOf]; omega
    · have h1' : ¬ (k : Int) < (s.size : Int) := by omega
      have HE := Hid.mk' (HR.out.1.fin (by rw [← HS.out]; exact h1))
      go_wp2
      try rw [Exit.noGoto_ret]
      refine bodyPost_ret (v := .tuple #[u4, .bool true]) (by simp [results, Tryz.results38, go_sem]) rfl ?_
      rw [HE.out]
      exact ⟨_, rfl, HR.out.2⟩
end Go.Proofs.YtdlhdompemkjfaaGreatDoor

namespace Go.Proofs.YtdlhdompemkjfaaGreatDoor
open Go.RowKit Go.Maps
set_option maxRecDepth 100000

/-! The document's table of kinds. -/
def lett : Ar → UInt8
  | .A => 65
  | .B => 66
  | .N => 78
  | .M => 77
  | .K => 75
  | .L => 76
def lets (l : List Ar) : ByteArray := mkB (l.map lett)
/-- The table, as start-up lays it. -/
def KV (w : World) : Prop := ∀ i k, kds[i]? = some k → w.cell? ⟨0, (i + 1) * 2, none⟩ = some (.string k.word) ∧ w.cell? ⟨0, (i + 1) * 2 + 1, none⟩ = some (.string (lets k.args))
theorem KV.keep {A B : World} (h : KV A) (k : Keeps (fun _ => False) A B) : KV B := fun i d hd => ⟨k.cell (h i d hd).1 id, k.cell (h i d hd).2 id⟩
theorem kd_num_at : ∀ i : Fin 21, (kds[i.val]?).map (·.num) = some ((i.val : Int) + 1) := by decide +kernel
theorem kd_at {i : Nat} {k : Kd} (h : kds[i]? = some k) : k.num = (i : Int) + 1 ∧ i < 21 := by
  have hi : i < 21 := (List.getElem?_eq_some_iff.1 h).1
  have := kd_num_at ⟨i, hi⟩
  rw [h] at this
  exact ⟨by simpa using this, hi⟩
def knum (o : Option Kd) : Int := match o with
  | some k => k.num
  | none => 0

set_option maxHeartbeats 4000000 in
theorem rkind_any (w : World) (hv : KV w) (s : ByteArray) :
    Calls Tryz.prog 39 #[.string s] w fun e w' => e = .returned (.int .i64 (knum (kdOf s))) ∧ Keeps (fun _ => False) w w' := by
  have HV := Hid.mk' hv
  have HK0 : Hid (kdOf s = kds.find? fun k => k.word.toList == s.toList) := rfl
  clear hv
  go_enter Tryz.func39, Tryz.ntmps39
  go_wp2
  go_loopw [3] (fun i wr => ∃ k : Nat, k ≤ 21 ∧ i = .int .i64 ((k : Int) + 1) ∧ Hid ((kds.take k).find? (fun k => k.word.toList == s.toList) = none) ∧ Hid (Keeps (fun _ => False) w wr)) (fun i _ => 30 - (intOf i).toNat)
  case atStart => exact ⟨0, by omega, rfl, rfl, Keeps.refl _ _⟩
  case round =>
    obtain ⟨k, hk, rfl, HF, HK⟩ := hrel
    obtain ⟨m, hm⟩ : ∃ m, m = k + 1 := ⟨_, rfl⟩
    have hkm : (k : Int) + 1 = (m : Int) := by omega
    by_cases h1 : k < 21
    · have h1' : (m : Int) < 22 := by omega
      obtain ⟨d, hd⟩ : ∃ d, kds[k]? = some d := ⟨_, List.getElem?_eq_getElem (show k < kds.length from h1)⟩
      have hc := ((HV.out.keep HK.out) k d hd).1
      have hn := (kd_at hd).1
      rw [← hm] at hc
      by_cases hw : (d.word.toList == s.toList) = true
      · have HE : Hid (knum (kdOf s) = (m : Int)) := by
          show _ = _
          rw [HK0.out, find_hit hd HF.out hw]
          show d.num = _
          rw [hn, hkm]
        clear hd hn hm
        rw [hkm]
        clear hkm
        go_wp2
        go_ret
        exact ⟨by rw [HE.out]; rfl, HK.out⟩
      · have hw' : (d.word.toList == s.toList) = false := by simpa using hw
        have HF2 := Hid.mk' (find_take hd HF.out hw')
        clear hd hn hw
        rw [hkm]
        have HM := Hid.mk' hm
        clear hkm hm
        go_wp2
        go_roundw
        case rel => exact ⟨k + 1, by omega, by have := HM.out; congr 1; omega, HF2.out, HK.out⟩
        case measure => simp [intOf]; omega
    · obtain rfl : k = 21 := by omega
      have HE : Hid (knum (kdOf s) = 0) := by
        show _ = _
        have := HF.out
        rw [List.take_of_length_le (by decide)] at this
        rw [HK0.out, this]; rfl
      clear hm hkm
      go_wp2
      go_ret
      exact ⟨by rw [HE.out]; rfl, HK.out⟩
/-- The arguments without the list; whether there is one. -/
def fxA (l : List Ar) : List Ar := l.filter fun a => !a.lst
def fxL (l : List Ar) : Bool := l.any fun a => a.lst
set_option maxHeartbeats 8000000 in
theorem rfixed_any (w : World) (hv : KV w) (k : Kd) (hk : k ∈ kds) :
    Calls Tryz.prog 20 #[.int .i64 k.num] w fun e w' => e = .returned (.tuple #[.string (lets (fxA k.args)), .bool (fxL k.args)]) ∧ Keeps (fun _ => False) w w' := by
  obtain ⟨i, hi⟩ := List.mem_iff_getElem?.1 hk
  have hc := (hv i k hi).2
  have hn := kd_at hi
  clear hv
  have hcases : ∀ (m : Nat) (x : ByteArray), m < 22 → x.size ≤ 100 → w.cell? ⟨0, m * 2 + 1, none⟩ = some (.string x) → ∀ (r : ByteArray) (q : Bool), (x.size = 0 ∧ r = x ∧ q = false ∨ ∃ n : Nat, ∃ h : n < x.size, x.size = n + 1 ∧ ((x[n]'h = 76 ∧ r = x.extract 0 n ∧ q = true) ∨ (¬ x[n]'h = 76 ∧ r = x ∧ q = false))) →
      Calls Tryz.prog 20 #[.int .i64 m] w fun e w' => e = .returned (.tuple #[.string r, .bool q]) ∧ Keeps (fun _ => False) w w' := by
    intro m x hm hx hcell r q hh
    have hm' : (m : Int) < 22 := by omega
    rcases hh with ⟨h0, rfl, rfl⟩ | ⟨n, hnx, hsz, hh⟩
    · have hi : r.toList.isEmpty = true := by rw [List.isEmpty_iff, empty_iff]; exact h0
      go_enter Tryz.func20, Tryz.ntmps20
      go_wp2
      try rw [Exit.noGoto_ret]
      refine bodyPost_ret (v := .tuple #[.string r, .bool false]) (by simp [results, Tryz.results20, go_sem]) rfl ?_
      exact ⟨rfl, Keeps.refl _ _⟩
    · have hi : x.toList.isEmpty = false := by rw [List.isEmpty_eq_false_iff, Ne, empty_iff]; omega
      have hs1 : (x.size : Int) - 1 = (n : Int) := by omega
      have hnlt : (n : Int) < (x.size : Int) := by omega
      have hwn : wrap64 (n : Int) = (n : Int) := wrap64_id (by omega) (by omega)
      rcases hh with ⟨hb, rfl, rfl⟩ | ⟨hb, rfl, rfl⟩
      · have j76 := by_yes (k := 76) 76 rfl hb
        clear hb hsz
        go_enter Tryz.func20, Tryz.ntmps20
        go_wp2
        try rw [Exit.noGoto_ret]
        refine bodyPost_ret (v := .tuple #[.string (x.extract 0 n), .bool true]) (by simp [results, Tryz.results20, go_sem]) rfl ?_
        exact ⟨rfl, Keeps.refl _ _⟩
      · have j76 := by_no (k := 76) 76 rfl hb
        clear hb hsz
        go_enter Tryz.func20, Tryz.ntmps20
        go_wp2
        try rw [Exit.noGoto_ret]
        refine bodyPost_ret (v := .tuple #[.string r, .bool false]) (by simp [results, Tryz.results20, go_sem]) rfl ?_
        exact ⟨rfl, Keeps.refl _ _⟩
  have hfin := hcases (i + 1) (lets k.args) (by omega) (by have := kd_args3 k hk; unfold lets; rw [mkB_size, List.length_map]; omega) hc (lets (fxA k.args)) (fxL k.args) ?_
  · have e : k.num = ((i + 1 : Nat) : Int) := by rw [hn.1]; rfl
    rw [e]
    exact hfin
  · clear hc hn hi hcases
    simp only [kds, List.mem_cons, List.not_mem_nil, or_false] at hk
    rcases hk with rfl | rfl | rfl | rfl | rfl | rfl | rfl | rfl | rfl | rfl | rfl | rfl | rfl | rfl | rfl | rfl | rfl | rfl | rfl | rfl | rfl
    all_goals first
      | exact Or.inl ⟨rfl, rfl, rfl⟩
      | exact Or.inr ⟨0, by decide, rfl, Or.inl ⟨rfl, rfl, rfl⟩⟩
      | exact Or.inr ⟨1, by decide, rfl, Or.inl ⟨rfl, rfl, rfl⟩⟩
      | exact Or.inr ⟨0, by decide, rfl, Or.inr ⟨by decide, rfl, rfl⟩⟩
      | exact Or.inr ⟨1, by decide, rfl, Or.inr ⟨by decide, rfl, rfl⟩⟩
      | exact Or.inr ⟨2, by decide, rfl, Or.inr ⟨by decide, rfl, rfl⟩⟩
end Go.Proofs.YtdlhdompemkjfaaGreatDoor
