import Derived.Test.YtngoifbflpeapabDoorT4
import Derived.Test.YtngoifbflpeapabDoorQ3
import Derived.Test.YtngoifbflpeapabDoorQ2
import Derived.Test.YtngoifbflpeapabDoorH6
import Derived.Test.YtngoifbflpeapabDoorR1
namespace Go.Proofs.YtngoifbflpeapabDoor
open Go.RowKit Go.Maps
set_option maxRecDepth 100000

set_option maxHeartbeats 16000000 in
theorem rwords_any (w : World) (s : ByteArray) (hs : s.size ≤ 1000000) :
    Calls Tryd.prog 23 #[.string s] w fun e w' => ∃ v, e = .returned (.tuple #[v, .bool (wds [] s.data.toList).isSome]) ∧ Hid (RB w w' v ((wds [] s.data.toList).getD [])) := by
  have HS := Hid.mk' (size_len s)
  go_enter Tryd.func23, Tryd.ntmps23
  go_wp2
  go_loopw [4, 5] (fun v i wr => ∃ (k : Nat) (acc : List Wd), k ≤ s.size ∧ i = .int .i64 k ∧ Hid (WI s.data.toList k acc ∧ RB w wr v acc)) (fun _ i _ => s.size + 1 - (intOf i).toNat)
  case atStart => exact ⟨0, [], Nat.zero_le _, rfl, WI.start _, RB.nil w⟩
  case round =>
    obtain ⟨k, acc, hk, rfl, HR⟩ := hrel
    by_cases h1 : k < s.size
    · have h1' : (k : Int) < (s.size : Int) := by omega
      have hby := byte_at s k h1
      generalize hbb : (s[k]'h1) = b at *
      have hlt : k < s.data.toList.length := by rw [← HS.out]; exact h1
      have hgd : s.data.toList.getD k 0 = b := by rw [List.getD_eq_getElem?_getD, hby]; rfl
      have HA : Hid (acc.length ≤ 1000000) := by have := HR.out.1.2.1; show _ ≤ _; omega
      by_cases c32 : b = 32
      · have k32 := by_yes (k := 32) 32 rfl c32
        have HN := Hid.mk' (HR.out.1.blank hlt (by rw [hgd]; exact c32))
        clear c32 hby hgd hlt
        go_wp2
        go_roundw
        case rel => exact ⟨k + 1, acc, by omega, by go_num, HN.out, HR.out.2⟩
        case measure => simp [intOf]; omega
      have k32 := by_no (k := 32) 32 rfl c32
      have hd32 : ¬ s.data.toList.getD k 0 = 32 := by rw [hgd]; exact c32
      have ht0 : (s.data.toList.drop k).getD 0 0 = b := by rw [← hgd, List.getD_eq_getElem?_getD, List.getElem?_drop, Nat.add_zero, ← List.getD_eq_getElem?_getD]
      have htl : (s.data.toList.drop k).length = s.size - k := by rw [List.length_drop, HS.out]
      have htg : ∀ n, (s.data.toList.drop k).getD n 0 = s.data.toList.getD (k + n) 0 := fun n => by rw [List.getD_eq_getElem?_getD, List.getElem?_drop, ← List.getD_eq_getElem?_getD]
      by_cases c34 : b = 34
      · have k34 := by_yes (k := 34) 34 rfl c34
        have hu := runquote_any wr (s.extract k s.size) (by rw [mkB_extr, mkB_size]; simp; omega)
        rw [extr_rest] at hu
        have hq34 : (s.data.toList.drop k).getD 0 0 = 34 := by rw [ht0]; exact c34
        cases huq : uq (s.data.toList.drop k) with
        | none =>
          have HE := Hid.mk' (HR.out.1.bad hlt hd32 (fw_quo_none hq34 huq))
          have e1 : uqT (s.data.toList.drop k) = ⟨#[]⟩ := by unfold uqT; rw [huq]
          have e2 : uqN (s.data.toList.drop k) = 0 := by unfold uqN; rw [huq]
          have e3 : uqE (s.data.toList.drop k) = 194 := by unfold uqE; rw [huq]
          rw [e1, e2, e3] at hu
          clear c32 c34 hby hgd hlt hd32 ht0 htl htg hq34 huq e1 e2 e3
          go_wp2_with (first | (go_at_call 37; refine hu.mono ?_; clear hu; rintro e w1 ⟨rfl, hk1⟩; have HK1 := Hid.mk' hk1; clear hk1))
          try rw [Exit.noGoto_ret]
          refine bodyPost_ret (v := .tuple #[.slice none 0 0, .bool false]) (by simp [results, Tryd.results23, go_sem]) rfl ?_
          rw [HE.out]
          exact ⟨_, rfl, World.ownsRow_nil _ _ _ _, HR.out.2.2.trans HK1.out⟩
        | some p =>
          obtain ⟨a, n⟩ := p
          have hnl := uq_le huq
          rw [htl] at hnl
          obtain ⟨m, hm⟩ : ∃ m, m = k + n := ⟨_, rfl⟩
          have hkm : (k : Int) + (n : Int) = (m : Int) := by omega
          have hmk : k < m := by omega
          have e1 : uqT (s.data.toList.drop k) = mkB a := by unfold uqT; rw [huq]
          have e2 : uqN (s.data.toList.drop k) = (n : Int) := by unfold uqN; rw [huq]
          have e3 : uqE (s.data.toList.drop k) = 0 := by unfold uqE; rw [huq]
          rw [e1, e2, e3] at hu
          have hyes : (m < s.size → s.data.toList.getD m 0 = 32) → Hid (WI s.data.toList m (acc ++ [⟨mkB a, true⟩])) := by
            intro hh
            have hf := fw_quo hq34 huq (fun h => by rw [htg]; rw [← hm]; exact hh (by rw [htl] at h; omega))
            have := HR.out.1.word hlt hd32 (by rw [hf]; show ¬ n = 0; omega)
            rw [hf] at this
            rw [hm]
            exact this
          have hms : m ≤ s.size := by omega
          by_cases hend : m < s.size
          · have hend' : (m : Int) < (s.size : Int) := by omega
            have hbm := byte_at s m hend
            generalize hcc : (s[m]'hend) = c at *
            have hgm : s.data.toList.getD m 0 = c := by rw [List.getD_eq_getElem?_getD, hbm]; rfl
            by_cases d32 : c = 32
            · have j32 := by_nn (k := 32) 32 rfl d32
              have HN := hyes (fun _ => by rw [hgm]; exact d32)
              clear c32 c34 hby hgd hlt hd32 ht0 htl htg hq34 huq e1 e2 e3 hyes hm hnl
              go_wp2_with (first
                | (go_at_call 37; refine hu.mono ?_; clear hu; rintro e w1 ⟨rfl, hk1⟩; have HK1 := Hid.mk' hk1; clear hk1)
                | (refine wpList_wordr rfl _ rfl ⟨mkB a, true⟩ (by rfl) ?_)
                | (at_builtin; go_must (refine wpList_appr rfl _ _ rfl w w1 u4 acc (by rfl) (HR.out.2.keep HK1.out) ⟨mkB a, true⟩ (by rfl) (by have h : acc.length ≤ 1000000 := HA.out; omega) ?_); intro v2 W2 hO; have HO := Hid.mk' hO; clear hO))
              go_roundw
              case rel => exact ⟨m, _, by omega, by first | rfl | go_num, HN.out, HO.out⟩
              case measure => simp [intOf]; omega
            · have j32 := by_ne (k := 32) 32 rfl d32
              have HE := Hid.mk' (HR.out.1.bad hlt hd32 (fw_quo_bad hq34 huq (by rw [htl]; omega) (by rw [htg, ← hm, hgm]; exact d32)))
              clear c32 c34 hby hgd hlt hd32 ht0 htl htg hq34 huq e1 e2 e3 hyes hm hnl
              go_wp2_with (first | (go_at_call 37; refine hu.mono ?_; clear hu; rintro e w1 ⟨rfl, hk1⟩; have HK1 := Hid.mk' hk1; clear hk1))
              try rw [Exit.noGoto_ret]
              refine bodyPost_ret (v := .tuple #[.slice none 0 0, .bool false]) (by simp [results, Tryd.results23, go_sem]) rfl ?_
              rw [HE.out]
              exact ⟨_, rfl, World.ownsRow_nil _ _ _ _, HR.out.2.2.trans HK1.out⟩
          · have hend' : ¬ (m : Int) < (s.size : Int) := by omega
            have HN := hyes (fun h => absurd h hend)
            clear c32 c34 hby hgd hlt hd32 ht0 htl htg hq34 huq e1 e2 e3 hyes hm hnl
            go_wp2_with (first
              | (go_at_call 37; refine hu.mono ?_; clear hu; rintro e w1 ⟨rfl, hk1⟩; have HK1 := Hid.mk' hk1; clear hk1)
              | (refine wpList_wordr rfl _ rfl ⟨mkB a, true⟩ (by rfl) ?_)
              | (at_builtin; go_must (refine wpList_appr rfl _ _ rfl w w1 u4 acc (by rfl) (HR.out.2.keep HK1.out) ⟨mkB a, true⟩ (by rfl) (by have h : acc.length ≤ 1000000 := HA.out; omega) ?_); intro v2 W2 hO; have HO := Hid.mk' hO; clear hO))
            go_roundw
            case rel => exact ⟨m, _, by omega, by first | rfl | go_num, HN.out, HO.out⟩
            case measure => simp [intOf]; omega
      · have k34 := by_no (k := 34) 34 rfl c34
        have hq34 : ¬ (s.data.toList.drop k).getD 0 0 = 34 := by rw [ht0]; exact c34
        have hup : 0 < upto 32 (s.data.toList.drop k) := by
          have e : (s.data.toList.drop k)[0]? = some b := by rw [List.getElem?_drop, Nat.add_zero]; exact hby
          exact upto_go (Nat.zero_le _) e c32
        have HT : Hid (∀ j, (s.data.toList.drop k)[j]? = s.data.toList[k + j]?) := fun j => by rw [List.getElem?_drop]
        have HBAD : Hid (∀ j, j < upto 32 (s.data.toList.drop k) → (s.data.toList.drop k)[j]? = some 34 → wds [] s.data.toList = none) := fun j h1 h2 => HR.out.1.bad hlt hd32 (fw_pl_bad hq34 h1 h2)
        have HGOOD : Hid (∀ j, j = upto 32 (s.data.toList.drop k) → ((s.data.toList.drop k).take j).all (· != 34) = true → WI s.data.toList (k + j) (acc ++ [⟨mkB ((s.data.toList.drop k).take j), false⟩])) := by
          intro j hj ha
          have hf := fw_pl hq34 hj ha
          have := HR.out.1.word hlt hd32 (by rw [hf]; show ¬ j = 0; omega)
          rw [hf] at this
          exact this
        have HUP := Hid.mk' hup
        clear c32 c34 hby hgd hlt hd32 ht0 htl htg hq34 hup
        go_wp2
        go_loopw [9] (fun i wq => wq = wr ∧ ∃ j : Nat, k + j ≤ s.size ∧ i = .int .i64 ((k + j : Nat) : Int) ∧ Hid (j ≤ upto 32 (s.data.toList.drop k)) ∧ Hid (((s.data.toList.drop k).take j).all (· != 34) = true)) (fun i _ => s.size + 1 - (intOf i).toNat)
        case atStart => exact ⟨rfl, 0, by omega, by simp, Nat.zero_le _, by show _ = _; rfl⟩
        case round =>
          obtain ⟨rfl, j, hj, rfl, HJ, HAL⟩ := hrel
          obtain ⟨m, hm⟩ : ∃ m, m = k + j := ⟨_, rfl⟩
          rw [← hm] at hj ⊢
          have hkm : k ≤ m := by omega
          have HX : Hid (s.extract k m = mkB ((s.data.toList.drop k).take j)) := by show _ = _; rw [mkB_extr, hm, show k + j - k = j by omega]
          have HM := Hid.mk' hm
          have g1 : ¬ (m : Int) < (k : Int) := by omega
          have g2 : (k : Int) ≤ (m : Int) := by omega
          by_cases h2 : m < s.size
          · have h2' : (m : Int) < (s.size : Int) := by omega
            have hbm := byte_at s m h2
            generalize hcc : (s[m]'h2) = c at *
            have htj : (s.data.toList.drop k)[j]? = some c := by rw [HT.out, ← hm]; exact hbm
            by_cases d32 : c = 32
            · have j32 := by_nn (k := 32) 32 rfl d32
              have hfin : j = upto 32 (s.data.toList.drop k) := upto_end HJ.out (Or.inr (by rw [htj, d32]))
              have HN := Hid.mk' (HGOOD.out j hfin HAL.out)
              rw [← hm] at HN
              have hjm : k < m := by have h : 0 < upto 32 (s.data.toList.drop k) := HUP.out; omega
              clear d32 hbm htj hfin hm
              go_wp2_with (first
                | (refine wpList_wordr rfl _ rfl ⟨s.extract k m, false⟩ (by rfl) ?_)
                | (at_builtin; go_must (refine wpList_appr rfl _ _ rfl w _ u4 acc (by rfl) HR.out.2 ⟨s.extract k m, false⟩ (by rfl) (by have h : acc.length ≤ 1000000 := HA.out; omega) ?_); intro v2 W2 hO; have HO := Hid.mk' hO; clear hO))
              go_roundw
              case rel => exact ⟨m, _, by omega, by first | rfl | go_num, HN.out, by have h := HO.out; rw [HX.out] at h; exact h⟩
              case measure => simp [intOf]; omega
            · have j32 := by_ne (k := 32) 32 rfl d32
              have hlt2 := upto_go HJ.out htj d32
              by_cases d34 : c = 34
              · have j34 := by_yes (k := 34) 34 rfl d34
                have HE := Hid.mk' (HBAD.out j hlt2 (by rw [htj, d34]))
                clear d32 d34 hbm htj hlt2 hm
                go_wp2
                try rw [Exit.noGoto_ret]
                refine bodyPost_ret (v := .tuple #[.slice none 0 0, .bool false]) (by simp [results, Tryd.results23, go_sem]) rfl ?_
                rw [HE.out]
                exact ⟨_, rfl, World.ownsRow_nil _ _ _ _, HR.out.2.2⟩
              · have j34 := by_no (k := 34) 34 rfl d34
                have HJ2 : Hid (j + 1 ≤ upto 32 (s.data.toList.drop k)) := hlt2
                have HAL2 : Hid (((s.data.toList.drop k).take (j + 1)).all (· != 34) = true) := by
                  show _ = _
                  rw [List.take_add_one, htj, Option.toList_some, List.all_append, HAL.out]
                  simp [d34]
                clear d32 d34 hbm htj hlt2 hm
                go_wp2
                go_roundw
                case rel => exact ⟨trivial, j + 1, by have := HM.out; omega, by rw [show ((k + (j + 1) : Nat) : Int) = (m : Int) + 1 by have := HM.out; omega], HJ2.out, HAL2.out⟩
                case measure => simp [intOf]; omega
          · have h2' : ¬ (m : Int) < (s.size : Int) := by omega
            have hfin : j = upto 32 (s.data.toList.drop k) := upto_end HJ.out (Or.inl (by rw [HT.out, ← hm]; exact List.getElem?_eq_none (by rw [← HS.out]; omega)))
            have HN := Hid.mk' (HGOOD.out j hfin HAL.out)
            rw [← hm] at HN
            have hjm : k < m := by have h : 0 < upto 32 (s.data.toList.drop k) := HUP.out; omega
            clear hfin hm
            go_wp2_with (first
              | (refine wpList_wordr rfl _ rfl ⟨s.extract k m, false⟩ (by rfl) ?_)
              | (at_builtin; go_must (refine wpList_appr rfl _ _ rfl w _ u4 acc (by rfl) HR.out.2 ⟨s.extract k m, false⟩ (by rfl) (by have h : acc.length ≤ 1000000 := HA.out; omega) ?_); intro v2 W2 hO; have HO := Hid.mk' hO; clear hO))
            go_roundw
            case rel => exact ⟨m, _, by omega, by first | rfl | go_num, HN.out, by have h := HO.out; rw [HX.out] at h; exact h⟩
            case measure => simp [intOf]; omega
    · have h1' : ¬ (k : Int) < (s.size : Int) := by omega
      have HE := Hid.mk' (HR.out.1.fin (by rw [← HS.out]; exact h1))
      go_wp2
      try rw [Exit.noGoto_ret]
      refine bodyPost_ret (v := .tuple #[u4, .bool true]) (by simp [results, Tryd.results23, go_sem]) rfl ?_
      rw [HE.out]
      exact ⟨_, rfl, HR.out.2⟩
end Go.Proofs.YtngoifbflpeapabDoor

namespace Go.Proofs.YtngoifbflpeapabDoor
open Go.RowKit Go.Maps
set_option maxRecDepth 100000

/-! The document's table of kinds. -/
def lett : Ar → UInt8
  | .A => 65
  | .B => 66
  | .N => 78
  | .M => 77
  | .K => 75
  | .L => 76
def lets (l : List Ar) : ByteArray := mkB (l.map lett)
/-- The table, as start-up lays it. -/
def KV (w : World) : Prop := ∀ i k, kds[i]? = some k → w.cell? ⟨0, (i + 1) * 2, none⟩ = some (.string k.word) ∧ w.cell? ⟨0, (i + 1) * 2 + 1, none⟩ = some (.string (lets k.args))
theorem KV.keep {A B : World} (h : KV A) (k : Keeps (fun _ => False) A B) : KV B := fun i d hd => ⟨k.cell (h i d hd).1 id, k.cell (h i d hd).2 id⟩
theorem kd_num_at : ∀ i : Fin 21, (kds[i.val]?).map (·.num) = some ((i.val : Int) + 1) := by decide +kernel
theorem kd_at {i : Nat} {k : Kd} (h : kds[i]? = some k) : k.num = (i : Int) + 1 ∧ i < 21 := by
  have hi : i < 21 := (List.getElem?_eq_some_iff.1 h).1
  have := kd_num_at ⟨i, hi⟩
  rw [h] at this
  exact ⟨by simpa using this, hi⟩
def knum (o : Option Kd) : Int := match o with
  | some k => k.num
  | none => 0

set_option maxHeartbeats 4000000 in
theorem rkind_any (w : World) (hv : KV w) (s : ByteArray) :
    Calls Tryd.prog 24 #[.string s] w fun e w' => e = .returned (.int .i64 (knum (kdOf s))) ∧ Keeps (fun _ => False) w w' := by
  have HV := Hid.mk' hv
  have HK0 : Hid (kdOf s = kds.find? fun k => k.word.toList == s.toList) := rfl
  clear hv
  go_enter Tryd.func24, Tryd.ntmps24
  go_wp2
  go_loopw [3] (fun i wr => ∃ k : Nat, k ≤ 21 ∧ i = .int .i64 ((k : Int) + 1) ∧ Hid ((kds.take k).find? (fun k => k.word.toList == s.toList) = none) ∧ Hid (Keeps (fun _ => False) w wr)) (fun i _ => 30 - (intOf i).toNat)
  case atStart => exact ⟨0, by omega, rfl, rfl, Keeps.refl _ _⟩
  case round =>
    obtain ⟨k, hk, rfl, HF, HK⟩ := hrel
    obtain ⟨m, hm⟩ : ∃ m, m = k + 1 := ⟨_, rfl⟩
    have hkm : (k : Int) + 1 = (m : Int) := by omega
    by_cases h1 : k < 21
    · have h1' : (m : Int) < 22 := by omega
      obtain ⟨d, hd⟩ : ∃ d, kds[k]? = some d := ⟨_, List.getElem?_eq_getElem (show k < kds.length from h1)⟩
      have hc := ((HV.out.keep HK.out) k d hd).1
      have hn := (kd_at hd).1
      rw [← hm] at hc
      by_cases hw : (d.word.toList == s.toList) = true
      · have HE : Hid (knum (kdOf s) = (m : Int)) := by
          show _ = _
          rw [HK0.out, find_hit hd HF.out hw]
          show d.num = _
          rw [hn, hkm]
        clear hd hn hm
        rw [hkm]
        clear hkm
        go_wp2
        go_ret
        exact ⟨by rw [HE.out]; rfl, HK.out⟩
      · have hw' : (d.word.toList == s.toList) = false := by simpa using hw
        have HF2 := Hid.mk' (find_take hd HF.out hw')
        clear hd hn hw
        rw [hkm]
        have HM := Hid.mk' hm
        clear hkm hm
        go_wp2
        go_roundw
        case rel => exact ⟨k + 1, by omega, by have := HM.out; congr 1; omega, HF2.out, HK.out⟩
        case measure => simp [intOf]; omega
    · obtain rfl : k = 21 := by omega
      have HE : Hid (knum (kdOf s) = 0) := by
        show _ = _
        have := HF.out
        rw [List.take_of_length_le (by decide)] at this
        rw [HK0.out, this]; rfl
      clear hm hkm
      go_wp2
      go_ret
      exact ⟨by rw [HE.out]; rfl, HK.out⟩
/-- The arguments without the list; whether there is one. -/
def fxA (l : List Ar) : List Ar := l.filter fun a => !a.lst
def fxL (l : List Ar) : Bool := l.any fun a => a.lst
set_option maxHeartbeats 8000000 in
theorem rfixed_any (w : World) (hv : KV w) (k : Kd) (hk : k ∈ kds) :
    Calls Tryd.prog 26 #[.int .i64 k.num] w fun e w' => e = .returned (.tuple #[.string (lets (fxA k.args)), .bool (fxL k.args)]) ∧ Keeps (fun _ => False) w w' := by
  obtain ⟨i, hi⟩ := List.mem_iff_getElem?.1 hk
  have hc := (hv i k hi).2
  have hn := kd_at hi
  clear hv
  have hcases : ∀ (m : Nat) (x : ByteArray), m < 22 → x.size ≤ 100 → w.cell? ⟨0, m * 2 + 1, none⟩ = some (.string x) → ∀ (r : ByteArray) (q : Bool), (x.size = 0 ∧ r = x ∧ q = false ∨ ∃ n : Nat, ∃ h : n < x.size, x.size = n + 1 ∧ ((x[n]'h = 76 ∧ r = x.extract 0 n ∧ q = true) ∨ (¬ x[n]'h = 76 ∧ r = x ∧ q = false))) →
      Calls Tryd.prog 26 #[.int .i64 m] w fun e w' => e = .returned (.tuple #[.string r, .bool q]) ∧ Keeps (fun _ => False) w w' := by
    intro m x hm hx hcell r q hh
    have hm' : (m : Int) < 22 := by omega
    rcases hh with ⟨h0, rfl, rfl⟩ | ⟨n, hnx, hsz, hh⟩
    · have hi : r.toList.isEmpty = true := by rw [List.isEmpty_iff, empty_iff]; exact h0
      go_enter Tryd.func26, Tryd.ntmps26
      go_wp2
      try rw [Exit.noGoto_ret]
      refine bodyPost_ret (v := .tuple #[.string r, .bool false]) (by simp [results, Tryd.results26, go_sem]) rfl ?_
      exact ⟨rfl, Keeps.refl _ _⟩
    · have hi : x.toList.isEmpty = false := by rw [List.isEmpty_eq_false_iff, Ne, empty_iff]; omega
      have hs1 : (x.size : Int) - 1 = (n : Int) := by omega
      have hnlt : (n : Int) < (x.size : Int) := by omega
      have hwn : wrap64 (n : Int) = (n : Int) := wrap64_id (by omega) (by omega)
      rcases hh with ⟨hb, rfl, rfl⟩ | ⟨hb, rfl, rfl⟩
      · have j76 := by_yes (k := 76) 76 rfl hb
        clear hb hsz
        go_enter Tryd.func26, Tryd.ntmps26
        go_wp2
        try rw [Exit.noGoto_ret]
        refine bodyPost_ret (v := .tuple #[.string (x.extract 0 n), .bool true]) (by simp [results, Tryd.results26, go_sem]) rfl ?_
        exact ⟨rfl, Keeps.refl _ _⟩
      · have j76 := by_no (k := 76) 76 rfl hb
        clear hb hsz
        go_enter Tryd.func26, Tryd.ntmps26
        go_wp2
        try rw [Exit.noGoto_ret]
        refine bodyPost_ret (v := .tuple #[.string r, .bool false]) (by simp [results, Tryd.results26, go_sem]) rfl ?_
        exact ⟨rfl, Keeps.refl _ _⟩
  have hfin := hcases (i + 1) (lets k.args) (by omega) (by have := kd_args3 k hk; unfold lets; rw [mkB_size, List.length_map]; omega) hc (lets (fxA k.args)) (fxL k.args) ?_
  · have e : k.num = ((i + 1 : Nat) : Int) := by rw [hn.1]; rfl
    rw [e]
    exact hfin
  · clear hc hn hi hcases
    simp only [kds, List.mem_cons, List.not_mem_nil, or_false] at hk
    rcases hk with rfl | rfl | rfl | rfl | rfl | rfl | rfl | rfl | rfl | rfl | rfl | rfl | rfl | rfl | rfl | rfl | rfl | rfl | rfl | rfl | rfl
    all_goals first
      | exact Or.inl ⟨rfl, rfl, rfl⟩
      | exact Or.inr ⟨0, by decide, rfl, Or.inl ⟨rfl, rfl, rfl⟩⟩
      | exact Or.inr ⟨1, by decide, rfl, Or.inl ⟨rfl, rfl, rfl⟩⟩
      | exact Or.inr ⟨0, by decide, rfl, Or.inr ⟨by decide, rfl, rfl⟩⟩
      | exact Or.inr ⟨1, by decide, rfl, Or.inr ⟨by decide, rfl, rfl⟩⟩
      | exact Or.inr ⟨2, by decide, rfl, Or.inr ⟨by decide, rfl, rfl⟩⟩
end Go.Proofs.YtngoifbflpeapabDoor

namespace Go.Proofs.YtngoifbflpeapabDoor
open Go.RowKit Go.Maps
set_option maxRecDepth 100000

/-! The document's look at the words behind the first. -/
theorem kd_parts : ∀ k ∈ kds, k.args = fxA k.args ++ (if fxL k.args = true then [.L] else []) ∧ (∀ a ∈ fxA k.args, a.lst = false) := by
  intro k hk
  constructor
  · simp only [kds, List.mem_cons, List.not_mem_nil, or_false] at hk
    rcases hk with rfl | rfl | rfl | rfl | rfl | rfl | rfl | rfl | rfl | rfl | rfl | rfl | rfl | rfl | rfl | rfl | rfl | rfl | rfl | rfl | rfl <;> rfl
  · intro a ha
    have := (List.mem_filter.1 ha).2
    simpa using this
theorem at_fix {k : Kd} (hk : k ∈ kds) {j : Nat} {a : Ar} (h : (fxA k.args)[j]? = some a) : argAt k.args j = some a := by
  refine argAt_some ?_
  rw [(kd_parts k hk).1, List.getElem?_append_left (List.getElem?_eq_some_iff.1 h).1]
  exact h
theorem at_list {k : Kd} (hk : k ∈ kds) (hL : fxL k.args = true) {j : Nat} (h : (fxA k.args).length ≤ j) : argAt k.args j = some .L := by
  have e := (kd_parts k hk).1
  rw [if_pos hL] at e
  exact at_last e j h
theorem at_no {k : Kd} (hk : k ∈ kds) (hL : fxL k.args = false) {j : Nat} (h : (fxA k.args).length ≤ j) : argAt k.args j = none := by
  have e := (kd_parts k hk).1
  rw [if_neg (by rw [hL]; decide), List.append_nil] at e
  have hl : ¬ j < k.args.length := by rw [e]; omega
  have hlast := (kd_parts k hk).2
  rw [← e] at hlast
  cases hx : k.args[k.args.length - 1]? with
  | none =>
    unfold argAt
    rw [List.getElem?_eq_none (by omega), hx]
  | some a =>
    rw [argAt_end hl hx, hlast a (List.mem_of_getElem? hx)]
    rfl
theorem tkF_at {l : List Ar} : ∀ (xs : List Wd) (i j : Nat), tkF l i xs = true → j < xs.length → ∃ a, argAt l (i + j) = some a
  | [], _, _, _, h => by cases h
  | x :: xs, i, j, h, hj => by
    unfold tkF at h
    rw [Bool.and_eq_true] at h
    cases j with
    | zero =>
      cases ha : argAt l i with
      | some a => exact ⟨a, by first | rfl | exact ha⟩
      | none => rw [ha] at h; simp at h
    | succ j =>
      obtain ⟨a, ha⟩ := tkF_at xs (i + 1) j h.2 (by simpa using hj)
      exact ⟨a, by rw [show i + (j + 1) = i + 1 + j by omega]; exact ha⟩
theorem rrow_at {w : World} {v : Value} {xs : List Wd} (h : Row w v xs.length (rcells xs)) {j : Nat} {x : Wd} (hj : xs[j]? = some x) : ∃ b o c, v = .slice (some ⟨b, o, none⟩) xs.length c ∧ b < w.heap.size ∧ w.cell? ⟨b, o + j * 2, none⟩ = some (.bool x.quoted) ∧ w.cell? ⟨b, o + (j * 2 + 1), none⟩ = some (.string x.text) := by
  obtain ⟨hj2, e⟩ := List.getElem?_eq_some_iff.1 hj
  obtain ⟨a, c, rfl, _, hc⟩ := h
  obtain ⟨b, o, rfl, hb, hcell⟩ := hc (by omega)
  have key : ∀ i u, (rcell x)[i]? = some u → (rcells xs)[j * 2 + i]? = some u := by
    intro i u hi
    have hi2 : i < 2 := by have := (Array.getElem?_eq_some_iff.1 hi).1; simpa [rcell] using this
    have es : xs = xs.take j ++ x :: xs.drop (j + 1) := by
      conv => lhs; rw [← List.take_append_drop j xs, List.drop_eq_getElem_cons hj2, e]
    rw [es, rcells_app, List.getElem?_append_right (by rw [rcells_len, List.length_take]; omega), rcells_len, List.length_take, show j * 2 + i - min j xs.length * 2 = i by rw [Nat.min_eq_left (by omega)]; omega]
    have e2 : rcells (x :: xs.drop (j + 1)) = (rcell x).toList ++ rcells (xs.drop (j + 1)) := by simp [rcells]
    rw [e2, List.getElem?_append_left (by simpa [rcell] using hi2), Array.getElem?_toList]
    exact hi
  refine ⟨b, o, c, rfl, hb, ?_, ?_⟩
  · have := hcell (j * 2 + 0) _ (key 0 (.bool x.quoted) rfl)
    simpa using this
  · exact hcell (j * 2 + 1) _ (key 1 (.string x.text) rfl)
theorem lets_size (l : List Ar) : (lets l).size = l.length := by unfold lets; rw [mkB_size, List.length_map]
theorem lets_at {l : List Ar} {j : Nat} {a : Ar} (h : l[j]? = some a) (hj : j < (lets l).size) : ((lets l)[j]'hj) = lett a := by
  have e := byte_at (lets l) j hj
  have e2 : (lets l).data.toList[j]? = some (lett a) := by
    show (l.map lett)[j]? = _
    rw [List.getElem?_map, h]; rfl
  rw [e2] at e
  exact (Option.some.inj e).symm

set_option maxHeartbeats 16000000 in
theorem rsorts_any (w : World) (hv : KV w) (k : Kd) (hk : k ∈ kds) (v : Value) (xs : List Wd) (hr : Row w v xs.length (rcells xs)) (hn : xs.length ≤ 1000000) :
    Calls Tryd.prog 25 #[.int .i64 k.num, v] w fun e w' => e = .returned (.bool (takesF k.args xs)) ∧ Keeps (fun _ => False) w w' := by
  obtain ⟨pv0, cv0, rfl, _, _⟩ := id hr
  have HR := Hid.mk' hr
  have hfx := rfixed_any w hv k hk
  have HT : Hid (takesF k.args xs = (decide ((fxA k.args).length ≤ xs.length) && tkF k.args 0 xs)) := rfl
  have HA3 : Hid ((lets (fxA k.args)).size ≤ 3) := by
    show _ ≤ _
    rw [lets_size]
    exact Nat.le_trans (List.length_filter_le _ _) (kd_args3 k hk)
  have HSZ : Hid ((lets (fxA k.args)).size = (fxA k.args).length) := lets_size _
  have HFIX : Hid (∀ j a, (fxA k.args)[j]? = some a → argAt k.args j = some a) := fun j a h => at_fix hk h
  have HLIST : Hid (fxL k.args = true → ∀ j, (fxA k.args).length ≤ j → argAt k.args j = some .L) := fun hL j h => at_list hk hL h
  have HNO : Hid (fxL k.args = false → ∀ j, (fxA k.args).length ≤ j → argAt k.args j = none) := fun hL j h => at_no hk hL h
  have HLST : Hid (∀ a ∈ fxA k.args, a.lst = false) := (kd_parts k hk).2
  have HLA : Hid (∀ (j : Nat) (a : Ar) (hj : j < (lets (fxA k.args)).size), (fxA k.args)[j]? = some a → ((lets (fxA k.args))[j]'hj) = lett a) := fun j a hj h => lets_at h hj
  clear hr hv hk
  generalize k.num = kn at *
  generalize lets (fxA k.args) = S at *
  generalize hLL : fxL k.args = LL at *
  generalize fxA k.args = A at *
  clear hLL
  by_cases h1 : xs.length < S.size
  · have h1' : (xs.length : Int) < (S.size : Int) := by omega
    have HE : Hid (takesF k.args xs = false) := by show _ = _; rw [HT.out, decide_eq_false (by have := HSZ.out; omega)]; rfl
    go_enter Tryd.func25, Tryd.ntmps25
    go_wp2_with (first | (go_at_call 26; refine hfx.mono ?_; clear hfx; rintro e w1 ⟨rfl, hk1⟩; have HK1 := Hid.mk' hk1; clear hk1))
    go_ret
    exact ⟨by rw [HE.out]; rfl, HK1.out⟩
  have h1' : ¬ (xs.length : Int) < (S.size : Int) := by omega
  by_cases h2 : S.size < xs.length ∧ LL = false
  · obtain ⟨h2, rfl⟩ := h2
    have h2' : (S.size : Int) < (xs.length : Int) := by omega
    have HE : Hid (takesF k.args xs = false) := by
      show _ = _
      rw [HT.out]
      cases ht : tkF k.args 0 xs with
      | false => simp
      | true =>
        obtain ⟨a, ha⟩ := tkF_at xs 0 S.size ht h2
        rw [Nat.zero_add, HNO.out rfl S.size (by have := HSZ.out; omega)] at ha
        cases ha
    go_enter Tryd.func25, Tryd.ntmps25
    go_wp2_with (first | (go_at_call 26; refine hfx.mono ?_; clear hfx; rintro e w1 ⟨rfl, hk1⟩; have HK1 := Hid.mk' hk1; clear hk1))
    go_ret
    exact ⟨by rw [HE.out]; rfl, HK1.out⟩
  have HT2 : Hid (takesF k.args xs = tkF k.args 0 xs) := by show _ = _; rw [HT.out, decide_eq_true (by have := HSZ.out; omega)]; rfl
  have HCASE : Hid (LL = true ∨ xs.length ≤ S.size) := by
    cases LL with
    | true => exact Or.inl rfl
    | false => exact Or.inr (by rcases Nat.lt_or_ge S.size xs.length with h | h; exact absurd ⟨h, rfl⟩ h2; exact h)
  have hcond : (decide ((S.size : Int) < (xs.length : Int)) && !LL) = false := by
    rcases HCASE.out with h | h
    · rw [h]; simp
    · rw [decide_eq_false (by omega)]; rfl
  clear h2
  have hc2 : ¬ (S.size : Int) < (xs.length : Int) ∨ ((S.size : Int) < (xs.length : Int) ∧ LL = true) := by
    rcases HCASE.out with h | h
    · by_cases h3 : (S.size : Int) < (xs.length : Int)
      · exact Or.inr ⟨h3, h⟩
      · exact Or.inl h3
    · exact Or.inl (by omega)
  clear hcond
  rcases hc2 with hc2 | ⟨hc2, hc3⟩
  · go_enter Tryd.func25, Tryd.ntmps25
    go_wp2_with (first | (go_at_call 26; refine hfx.mono ?_; clear hfx; rintro e w1 ⟨rfl, hk1⟩; have HK1 := Hid.mk' hk1; clear hk1))
    go_loopw [7] (fun i wr => ∃ j : Nat, j ≤ xs.length ∧ i = .int .i64 j ∧ Hid (tkF k.args 0 xs = tkF k.args j (xs.drop j)) ∧ Hid (Keeps (fun _ => False) w wr)) (fun i _ => xs.length - (intOf i).toNat)
    case atStart => exact ⟨0, Nat.zero_le _, rfl, rfl, HK1.out⟩
    case round =>
      obtain ⟨j, hj, rfl, HJ, HK⟩ := hrel
      clear HK1
      by_cases h3 : j < xs.length
      · have h3' : (j : Int) < (xs.length : Int) := by omega
        obtain ⟨x, hx⟩ : ∃ x, xs[j]? = some x := ⟨_, List.getElem?_eq_getElem h3⟩
        obtain ⟨b, o, c, hvv, _, hq, _⟩ := rrow_at (HR.out.keep HK.out) hx
        injection hvv with e1 e2 e3
        subst e1
        subst e3
        have HD := Hid.mk' (HJ.out.trans (tkF_drop hx))
        obtain ⟨qd, hqd⟩ : ∃ q, x.quoted = q := ⟨_, rfl⟩
        rw [hqd] at hq HD
        by_cases h4 : j < S.size
        · have h4' : (j : Int) < (S.size : Int) := by omega
          obtain ⟨a, ha⟩ : ∃ a, A[j]? = some a := ⟨_, List.getElem?_eq_getElem (by have := HSZ.out; omega)⟩
          have hlt := HLA.out j a h4 ha
          have HF2 := Hid.mk' (HFIX.out j a ha)
          have hls := HLST.out a (List.mem_of_getElem? ha)
          have q65 := fun (h : (S[j]'h4) = 65) => by_yes (k := 65) 65 rfl h
          rw [HF2.out] at HD
          clear hx ha e2 hqd q65
          generalize hbb : (S[j]'h4) = bb at *
          subst hlt
          cases a with
          | L => cases hls
          | A =>
            cases qd with
            | true =>
              have HJ2 : Hid (tkF k.args 0 xs = tkF k.args (j + 1) (xs.drop (j + 1))) := by show _ = _; rw [HD.out]; rfl
              go_wp2
              go_roundw
              case rel => exact ⟨j + 1, by omega, by go_num, HJ2.out, HK.out⟩
              case measure => simp [intOf]; omega
            | false =>
              go_wp2
              go_ret
              exact ⟨by rw [HT2.out, HD.out]; rfl, HK.out⟩
          | B =>
            cases qd with
            | true =>
              have HJ2 : Hid (tkF k.args 0 xs = tkF k.args (j + 1) (xs.drop (j + 1))) := by show _ = _; rw [HD.out]; rfl
              go_wp2
              go_roundw
              case rel => exact ⟨j + 1, by omega, by go_num, HJ2.out, HK.out⟩
              case measure => simp [intOf]; omega
            | false =>
              go_wp2
              go_ret
              exact ⟨by rw [HT2.out, HD.out]; rfl, HK.out⟩
          | N =>
            cases qd with
            | true =>
              go_wp2
              go_ret
              exact ⟨by rw [HT2.out, HD.out]; rfl, HK.out⟩
            | false =>
              have HJ2 : Hid (tkF k.args 0 xs = tkF k.args (j + 1) (xs.drop (j + 1))) := by show _ = _; rw [HD.out]; rfl
              go_wp2
              go_roundw
              case rel => exact ⟨j + 1, by omega, by go_num, HJ2.out, HK.out⟩
              case measure => simp [intOf]; omega
          | M =>
            cases qd with
            | true =>
              go_wp2
              go_ret
              exact ⟨by rw [HT2.out, HD.out]; rfl, HK.out⟩
            | false =>
              have HJ2 : Hid (tkF k.args 0 xs = tkF k.args (j + 1) (xs.drop (j + 1))) := by show _ = _; rw [HD.out]; rfl
              go_wp2
              go_roundw
              case rel => exact ⟨j + 1, by omega, by go_num, HJ2.out, HK.out⟩
              case measure => simp [intOf]; omega
          | K =>
            cases qd with
            | true =>
              go_wp2
              go_ret
              exact ⟨by rw [HT2.out, HD.out]; rfl, HK.out⟩
            | false =>
              have HJ2 : Hid (tkF k.args 0 xs = tkF k.args (j + 1) (xs.drop (j + 1))) := by show _ = _; rw [HD.out]; rfl
              go_wp2
              go_roundw
              case rel => exact ⟨j + 1, by omega, by go_num, HJ2.out, HK.out⟩
              case measure => simp [intOf]; omega
        · have h4' : ¬ (j : Int) < (S.size : Int) := by omega
          exfalso; omega
      · have h3' : ¬ (j : Int) < (xs.length : Int) := by omega
        have HE : Hid (takesF k.args xs = true) := by show _ = _; rw [HT2.out, HJ.out, List.drop_of_length_le (by omega)]; rfl
        go_wp2
        go_ret
        exact ⟨by rw [HE.out]; rfl, HK.out⟩
  · have HLI : Hid (∀ j, A.length ≤ j → argAt k.args j = some .L) := HLIST.out hc3
    subst hc3
    go_enter Tryd.func25, Tryd.ntmps25
    go_wp2_with (first | (go_at_call 26; refine hfx.mono ?_; clear hfx; rintro e w1 ⟨rfl, hk1⟩; have HK1 := Hid.mk' hk1; clear hk1))
    go_loopw [7] (fun i wr => ∃ j : Nat, j ≤ xs.length ∧ i = .int .i64 j ∧ Hid (tkF k.args 0 xs = tkF k.args j (xs.drop j)) ∧ Hid (Keeps (fun _ => False) w wr)) (fun i _ => xs.length - (intOf i).toNat)
    case atStart => exact ⟨0, Nat.zero_le _, rfl, rfl, HK1.out⟩
    case round =>
      obtain ⟨j, hj, rfl, HJ, HK⟩ := hrel
      clear HK1
      by_cases h3 : j < xs.length
      · have h3' : (j : Int) < (xs.length : Int) := by omega
        obtain ⟨x, hx⟩ : ∃ x, xs[j]? = some x := ⟨_, List.getElem?_eq_getElem h3⟩
        obtain ⟨b, o, c, hvv, _, hq, _⟩ := rrow_at (HR.out.keep HK.out) hx
        injection hvv with e1 e2 e3
        subst e1
        subst e3
        have HD := Hid.mk' (HJ.out.trans (tkF_drop hx))
        obtain ⟨qd, hqd⟩ : ∃ q, x.quoted = q := ⟨_, rfl⟩
        rw [hqd] at hq HD
        by_cases h4 : j < S.size
        · have h4' : (j : Int) < (S.size : Int) := by omega
          obtain ⟨a, ha⟩ : ∃ a, A[j]? = some a := ⟨_, List.getElem?_eq_getElem (by have := HSZ.out; omega)⟩
          have hlt := HLA.out j a h4 ha
          have HF2 := Hid.mk' (HFIX.out j a ha)
          have hls := HLST.out a (List.mem_of_getElem? ha)
          have q65 := fun (h : (S[j]'h4) = 65) => by_yes (k := 65) 65 rfl h
          rw [HF2.out] at HD
          clear hx ha e2 hqd q65
          generalize hbb : (S[j]'h4) = bb at *
          subst hlt
          cases a with
          | L => cases hls
          | A =>
            cases qd with
            | true =>
              have HJ2 : Hid (tkF k.args 0 xs = tkF k.args (j + 1) (xs.drop (j + 1))) := by show _ = _; rw [HD.out]; rfl
              go_wp2
              go_roundw
              case rel => exact ⟨j + 1, by omega, by go_num, HJ2.out, HK.out⟩
              case measure => simp [intOf]; omega
            | false =>
              go_wp2
              go_ret
              exact ⟨by rw [HT2.out, HD.out]; rfl, HK.out⟩
          | B =>
            cases qd with
            | true =>
              have HJ2 : Hid (tkF k.args 0 xs = tkF k.args (j + 1) (xs.drop (j + 1))) := by show _ = _; rw [HD.out]; rfl
              go_wp2
              go_roundw
              case rel => exact ⟨j + 1, by omega, by go_num, HJ2.out, HK.out⟩
              case measure => simp [intOf]; omega
            | false =>
              go_wp2
              go_ret
              exact ⟨by rw [HT2.out, HD.out]; rfl, HK.out⟩
          | N =>
            cases qd with
            | true =>
              go_wp2
              go_ret
              exact ⟨by rw [HT2.out, HD.out]; rfl, HK.out⟩
            | false =>
              have HJ2 : Hid (tkF k.args 0 xs = tkF k.args (j + 1) (xs.drop (j + 1))) := by show _ = _; rw [HD.out]; rfl
              go_wp2
              go_roundw
              case rel => exact ⟨j + 1, by omega, by go_num, HJ2.out, HK.out⟩
              case measure => simp [intOf]; omega
          | M =>
            cases qd with
            | true =>
              go_wp2
              go_ret
              exact ⟨by rw [HT2.out, HD.out]; rfl, HK.out⟩
            | false =>
              have HJ2 : Hid (tkF k.args 0 xs = tkF k.args (j + 1) (xs.drop (j + 1))) := by show _ = _; rw [HD.out]; rfl
              go_wp2
              go_roundw
              case rel => exact ⟨j + 1, by omega, by go_num, HJ2.out, HK.out⟩
              case measure => simp [intOf]; omega
          | K =>
            cases qd with
            | true =>
              go_wp2
              go_ret
              exact ⟨by rw [HT2.out, HD.out]; rfl, HK.out⟩
            | false =>
              have HJ2 : Hid (tkF k.args 0 xs = tkF k.args (j + 1) (xs.drop (j + 1))) := by show _ = _; rw [HD.out]; rfl
              go_wp2
              go_roundw
              case rel => exact ⟨j + 1, by omega, by go_num, HJ2.out, HK.out⟩
              case measure => simp [intOf]; omega
        · have h4' : ¬ (j : Int) < (S.size : Int) := by omega
          have HD2 : Hid (tkF k.args 0 xs = ((Ar.L.quo == qd) && tkF k.args (j + 1) (xs.drop (j + 1)))) := by
            have h := HD.out
            rw [HLI.out j (by have := HSZ.out; omega)] at h
            exact h
          clear hx e2 hqd
          cases qd with
          | true =>
            go_wp2
            go_ret
            exact ⟨by rw [HT2.out, HD2.out]; rfl, HK.out⟩
          | false =>
            have HJ2 : Hid (tkF k.args 0 xs = tkF k.args (j + 1) (xs.drop (j + 1))) := by show _ = _; rw [HD2.out]; rfl
            go_wp2
            go_roundw
            case rel => exact ⟨j + 1, by omega, by go_num, HJ2.out, HK.out⟩
            case measure => simp [intOf]; omega
      · have h3' : ¬ (j : Int) < (xs.length : Int) := by omega
        have HE : Hid (takesF k.args xs = true) := by show _ = _; rw [HT2.out, HJ.out, List.drop_of_length_le (by omega)]; rfl
        go_wp2
        go_ret
        exact ⟨by rw [HE.out]; rfl, HK.out⟩
end Go.Proofs.YtngoifbflpeapabDoor

namespace Go.Proofs.YtngoifbflpeapabDoor
open Go.RowKit Go.Maps
set_option maxRecDepth 100000

/-! The document's step with an argument more. -/
def ldF (a : Ar) (t : St) (x : Wd) (n : Int) : St := match a with
  | .A => { t with a := x.text }
  | .B => { t with b := x.text }
  | .N => { t with n := n }
  | .M => { t with m := n }
  | .K => { t with k := n }
  | .L => { t with l := t.l ++ [n] }
theorem four_bl (w : World) (o1 o2 o3 o4 : Obj) : ((((w.alloc o1).alloc o2).alloc o3).alloc o4).heap[w.heap.size]? = some o1 ∧ ((((w.alloc o1).alloc o2).alloc o3).alloc o4).heap[w.heap.size + 1 + 1]? = some o3 := by
  have h := three_blocks w o1 o2 o3
  have k := (Keeps.refl (fun _ => False) (((w.alloc o1).alloc o2).alloc o3)).alloc o4
  exact ⟨k.at h.1 id, k.at h.2.2.1 id⟩
theorem ld_end {base : Nat} {w W : World} {R : Array Value} {v : Value} {l : List Int} (h1 : W.heap[w.heap.size]? = some (.cells R 24 (0, 0))) (h2 : W.heap[w.heap.size + 1 + 1]? = some (.cells szero 24 (0, 0)))
    (ho : W.ownsRow base 3 1 v l.length (ints l)) (X : Nat → Prop) (hk : Keeps X w W) :
    (W.setCell ⟨w.heap.size, 6, none⟩ v).heap[w.heap.size]? = some (.cells (R.setIfInBounds 6 v) 24 (0, 0)) ∧ (W.setCell ⟨w.heap.size, 6, none⟩ v).heap[w.heap.size + 1 + 1]? = some (.cells szero 24 (0, 0)) ∧
    ∀ cs, ((W.setCell ⟨w.heap.size, 6, none⟩ v).setRow (w.heap.size + 1 + 1) cs).ownsRow base 3 1 v l.length (ints l) ∧ Keeps X w ((W.setCell ⟨w.heap.size, 6, none⟩ v).setRow (w.heap.size + 1 + 1) cs) := by
  have k1 : Keeps (fun k => k = w.heap.size) W (W.setCell ⟨w.heap.size, 6, none⟩ v) := Keeps.of (grownBy_setCell _ _ _) (fun k hk => Or.inl (by cases hk; rfl))
  have b1 := setCell_block (a := ⟨w.heap.size, 6, none⟩) (v := v) h1 rfl
  have b2 := k1.at h2 (by omega)
  have o1 := own_keep ho k1 (row_ne h1 ho)
  refine ⟨b1, b2, fun cs => ⟨?_, ?_⟩⟩
  · have k2 : Keeps (fun k => k = w.heap.size + 1 + 1) (W.setCell ⟨w.heap.size, 6, none⟩ v) ((W.setCell ⟨w.heap.size, 6, none⟩ v).setRow (w.heap.size + 1 + 1) cs) := (Keeps.refl _ _).setRow _ _ (Or.inr rfl)
    exact own_keep o1 k2 (row_ne b2 o1)
  · exact (hk.step (grownBy_setCell _ _ _) (fun k h => Or.inr (by cases h; exact Nat.le_refl _))).setRow _ _ (Or.inl (by omega))

set_option maxHeartbeats 8000000 in
theorem rlaid_any (a : Ar) (base : Nat) (w : World) (hb : base ≤ w.heap.size) (t : St) (v : Value) (ho : w.ownsRow base 3 1 v t.l.length (ints t.l)) (hl : t.l.length ≤ 1000000) (x : Wd) (n : Int) :
    Calls Tryd.prog 28 #[.agg (scell t v), .int .u8 (((lett a).toNat : Nat) : Int), .agg (rcell x), .int .i64 n] w fun e w' => ∃ v', e = .returned (.agg (scell (ldF a t x n) v')) ∧ Hid (w'.ownsRow base 3 1 v' (ldF a t x n).l.length (ints (ldF a t x n).l) ∧ Keeps (fun k => base ≤ k) w w') := by
  obtain ⟨p, c, rfl, _, _⟩ := id (Row.of_own ho)
  have HO := Hid.mk' ho
  clear ho
  unfold scell rcell
  cases a with
  | A =>
    go_enter Tryd.func28, Tryd.ntmps28
    go_wp2
    exact bodyPost_ret (results_cell_row rfl _ _ (w.heap.size + 1 + 1) 24 #[.int .i64 t.kind, .string x.text, .string t.b, .int .i64 t.n, .int .i64 t.m, .int .i64 t.k, .slice p t.l.length c] (0, 0) _ rfl (three_blocks w _ _ _).2.2.1 Tryd.underlying24 rfl size24) rfl ⟨.slice p t.l.length c, rfl, own_grow HO.out ((((Keeps.refl _ w).alloc _).alloc _).alloc _), (((Keeps.refl _ w).alloc _).alloc _).alloc _⟩
  | B =>
    go_enter Tryd.func28, Tryd.ntmps28
    go_wp2
    exact bodyPost_ret (results_cell_row rfl _ _ (w.heap.size + 1 + 1) 24 #[.int .i64 t.kind, .string t.a, .string x.text, .int .i64 t.n, .int .i64 t.m, .int .i64 t.k, .slice p t.l.length c] (0, 0) _ rfl (three_blocks w _ _ _).2.2.1 Tryd.underlying24 rfl size24) rfl ⟨.slice p t.l.length c, rfl, own_grow HO.out ((((Keeps.refl _ w).alloc _).alloc _).alloc _), (((Keeps.refl _ w).alloc _).alloc _).alloc _⟩
  | N =>
    go_enter Tryd.func28, Tryd.ntmps28
    go_wp2
    exact bodyPost_ret (results_cell_row rfl _ _ (w.heap.size + 1 + 1) 24 #[.int .i64 t.kind, .string t.a, .string t.b, .int .i64 n, .int .i64 t.m, .int .i64 t.k, .slice p t.l.length c] (0, 0) _ rfl (three_blocks w _ _ _).2.2.1 Tryd.underlying24 rfl size24) rfl ⟨.slice p t.l.length c, rfl, own_grow HO.out ((((Keeps.refl _ w).alloc _).alloc _).alloc _), (((Keeps.refl _ w).alloc _).alloc _).alloc _⟩
  | M =>
    go_enter Tryd.func28, Tryd.ntmps28
    go_wp2
    exact bodyPost_ret (results_cell_row rfl _ _ (w.heap.size + 1 + 1) 24 #[.int .i64 t.kind, .string t.a, .string t.b, .int .i64 t.n, .int .i64 n, .int .i64 t.k, .slice p t.l.length c] (0, 0) _ rfl (three_blocks w _ _ _).2.2.1 Tryd.underlying24 rfl size24) rfl ⟨.slice p t.l.length c, rfl, own_grow HO.out ((((Keeps.refl _ w).alloc _).alloc _).alloc _), (((Keeps.refl _ w).alloc _).alloc _).alloc _⟩
  | K =>
    go_enter Tryd.func28, Tryd.ntmps28
    go_wp2
    exact bodyPost_ret (results_cell_row rfl _ _ (w.heap.size + 1 + 1) 24 #[.int .i64 t.kind, .string t.a, .string t.b, .int .i64 t.n, .int .i64 t.m, .int .i64 n, .slice p t.l.length c] (0, 0) _ rfl (three_blocks w _ _ _).2.2.1 Tryd.underlying24 rfl size24) rfl ⟨.slice p t.l.length c, rfl, own_grow HO.out ((((Keeps.refl _ w).alloc _).alloc _).alloc _), (((Keeps.refl _ w).alloc _).alloc _).alloc _⟩
  | L =>
    obtain ⟨i0, hi0, hz0, hz1, hz2⟩ := info_parts info3
    have HK3 := Hid.mk' ((((Keeps.refl (fun _ => False) w).alloc (.cells #[.int .i64 t.kind, .string t.a, .string t.b, .int .i64 t.n, .int .i64 t.m, .int .i64 t.k, .slice p t.l.length c] 24)).alloc (.cells #[.bool x.quoted, .string x.text] 57)).alloc (.cells #[.int .i64 0, .string ⟨#[]⟩, .string ⟨#[]⟩, .int .i64 0, .int .i64 0, .int .i64 0, .slice none 0 0] 24))
    have HB4 := Hid.mk' (four_bl w (.cells #[.int .i64 t.kind, .string t.a, .string t.b, .int .i64 t.n, .int .i64 t.m, .int .i64 t.k, .slice p t.l.length c] 24) (.cells #[.bool x.quoted, .string x.text] 57) (.cells #[.int .i64 0, .string ⟨#[]⟩, .string ⟨#[]⟩, .int .i64 0, .int .i64 0, .int .i64 0, .slice none 0 0] 24) (.cells #[.int .i64 n] 3))
    have HON := Hid.mk' (cell_one_new (((w.alloc (.cells #[.int .i64 t.kind, .string t.a, .string t.b, .int .i64 t.n, .int .i64 t.m, .int .i64 t.k, .slice p t.l.length c] 24)).alloc (.cells #[.bool x.quoted, .string x.text] 57)).alloc (.cells #[.int .i64 0, .string ⟨#[]⟩, .string ⟨#[]⟩, .int .i64 0, .int .i64 0, .int .i64 0, .slice none 0 0] 24)) (.int .i64 n) 3)
    rw [World.size_alloc, World.size_alloc, World.size_alloc] at HON
    have HO3 := Hid.mk' (own_grow HO.out HK3.out)
    have S0 := Hid.mk' True.intro
    go_enter Tryd.func28, Tryd.ntmps28
    go_wp2_with (first
      | (clear S0; at_builtin; go_must (refine wpList_append_own_at _ rfl _ _ 22 rfl base 3 i0 (.int .i64 0) 1 8 Tryd.underlying22 hi0 hz0 hz1 hz2 rfl (by decide) (.slice p t.l.length c) t.l.length (ints t.l) (by rfl) (HO3.out.alloc _) ⟨w.heap.size + 1 + 1 + 1, 0, none⟩ 1 1 [.int .i64 n] (by rfl) rfl HON.out (by simp [Value.oneCell']) (by unfold maxLen; omega) (by omega) (by rw [World.size_alloc, World.size_alloc, World.size_alloc, World.size_alloc]; omega) ?_)
         intro v2 W2 hown hgr _ _
         obtain ⟨ra, rc, hr2, _⟩ := Row.of_own hown
         subst hr2
         have k1 : Keeps (fun k => (Value.slice p t.l.length c).ownBlock = some k) _ W2 := Keeps.of hgr (fun k hk => Or.inl hk)
         have hne : ∀ g, w.heap.size ≤ g → ¬ (Value.slice p t.l.length c).ownBlock = some g := fun g hg he => by have := (HO.out.lt g he).2; omega
         have b1 := k1.at HB4.out.1 (hne _ (Nat.le_refl _))
         have b2 := k1.at HB4.out.2 (hne _ (by omega))
         have hown2 : W2.ownsRow base 3 1 (.slice ra (t.l.length + 1) rc) (t.l ++ [n]).length (ints (t.l ++ [n])) := by
           rw [List.length_append, List.length_singleton, show ints (t.l ++ [n]) = ints t.l ++ [.int .i64 n] by simp [ints]]; exact hown
         have hkw : Keeps (fun k => base ≤ k) w W2 := ((HK3.out.mono (fun _ _ h => h.elim)).alloc _).trans (k1.mono (fun g _ hg => (HO.out.lt g hg).1))
         have HE := Hid.mk' (ld_end b1 b2 hown2 _ hkw)
         have c2 : W2.cell? ⟨w.heap.size, 6, none⟩ = some (.slice p t.l.length c) := by simp only [World.cell?, b1]; rfl
         have f2 : W2.frozen? ⟨w.heap.size, 6, none⟩ = false := by simp only [World.frozen?, b1]; simp
         clear hown hgr k1 hne b1 b2 hown2 hkw
         have S2 := Hid.mk' True.intro)
      | (clear S2; refine wpList_load_row rfl 24 (.tmp 4) rfl w.heap.size (by rfl) 24 #[.int .i64 t.kind, .string t.a, .string t.b, .int .i64 t.n, .int .i64 t.m, .int .i64 t.k, .slice ra (t.l.length + 1) rc] (0, 0) _ HE.out.1 Tryd.underlying24 rfl size24 ?_; have S3 := Hid.mk' True.intro)
      | (clear S3; refine wpList_store_row rfl 24 (.tmp 8) _ rfl (w.heap.size + 1 + 1) #[.int .i64 t.kind, .string t.a, .string t.b, .int .i64 t.n, .int .i64 t.m, .int .i64 t.k, .slice ra (t.l.length + 1) rc] (by rfl) (by rfl) 24 szero HE.out.2.1 size24 rfl (by simp [Value.oneCell']) ?_; have S4 := Hid.mk' True.intro))
    exact bodyPost_ret (results_cell_row rfl _ _ (w.heap.size + 1 + 1) 24 #[.int .i64 t.kind, .string t.a, .string t.b, .int .i64 t.n, .int .i64 t.m, .int .i64 t.k, .slice ra (t.l.length + 1) rc] (0, 0) _ rfl (setRow_heap _ _ _ _ _ _ HE.out.2.1) Tryd.underlying24 rfl size24) rfl ⟨.slice ra (t.l.length + 1) rc, rfl, HE.out.2.2 _⟩
end Go.Proofs.YtngoifbflpeapabDoor

namespace Go.Proofs.YtngoifbflpeapabDoor
open Go.RowKit Go.Maps
set_option maxRecDepth 100000

/-! The document's Line. -/
theorem rrow_tail {W : World} {b o n c : Nat} {x0 : Wd} {xs : List Wd} {VT : Option Addr} (h : Row W (.slice (some ⟨b, o, none⟩) n c) (x0 :: xs).length (rcells (x0 :: xs))) (hV : (if c = 1 then some (⟨b, o, none⟩ : Addr) else some ⟨b, o + 2, none⟩) = VT) : Row W (.slice VT xs.length (c - 1)) xs.length (rcells xs) := by
  obtain ⟨a, c', e, hc, hcell⟩ := h
  injection e with e1 e2 e3
  subst e1
  subst e3
  rw [List.length_cons] at hc hcell
  refine ⟨VT, c - 1, rfl, by omega, fun h0 => ?_⟩
  obtain ⟨b2, o2, e4, hb, hcc⟩ := hcell (by omega)
  injection e4 with e4
  injection e4 with e5 e6
  subst e5
  subst e6
  rw [if_neg (by omega)] at hV
  refine ⟨b, o + 2, hV.symm, hb, fun j u hj => ?_⟩
  have e7 : rcells (x0 :: xs) = (rcell x0).toList ++ rcells xs := by simp [rcells]
  have := hcc (2 + j) u (by rw [e7, List.getElem?_append_right (by simp [rcell])]; simpa [rcell] using hj)
  rw [← Nat.add_assoc] at this
  exact this
theorem tkF_at2 {l : List Ar} : ∀ (xs : List Wd) (i : Nat), tkF l i xs = true → ∀ (j : Nat) (x : Wd), xs[j]? = some x → ∃ a, argAt l (i + j) = some a ∧ a.quo = x.quoted
  | [], _, _, _, _, h => by cases h
  | y :: xs, i, h, j, x, hj => by
    unfold tkF at h
    rw [Bool.and_eq_true] at h
    cases j with
    | zero =>
      have e : y = x := by simpa using hj
      subst e
      cases ha : argAt l i with
      | some a => rw [ha] at h; exact ⟨a, by first | rfl | exact ha, by simpa using h.1⟩
      | none => rw [ha] at h; simp at h
    | succ j =>
      obtain ⟨a, ha, hq⟩ := tkF_at2 xs (i + 1) h.2 j x (by simpa using hj)
      exact ⟨a, by rw [show i + (j + 1) = i + 1 + j by omega]; exact ha, hq⟩
theorem ldF_quo {a : Ar} {t : St} {x : Wd} {n : Int} (h : a.quo = true) : (rdF a t x).2 = true ∧ (rdF a t x).1 = ldF a t x n := by cases a <;> first | exact ⟨rfl, rfl⟩ | (cases h; done)
theorem ldF_num {a : Ar} {t : St} {x : Wd} {n : Int} (h : a.quo = false) (hn : num x.text.data.toList = some n) : (rdF a t x).2 = true ∧ (rdF a t x).1 = ldF a t x n := by cases a <;> first | (cases h; done) | (unfold rdF ldF; simp only; rw [hn]; exact ⟨rfl, rfl⟩)
theorem rdF_none {a : Ar} {t : St} {x : Wd} (h : a.quo = false) (hn : num x.text.data.toList = none) : (rdF a t x).2 = false := by cases a <;> first | (cases h; done) | (unfold rdF; simp only; rw [hn]; rfl)
theorem ldF_len (a : Ar) (t : St) (x : Wd) (n : Int) : (ldF a t x n).l.length ≤ t.l.length + 1 := by cases a <;> simp [ldF]
theorem kd_num2 : ∀ k ∈ kds, 1 ≤ k.num ∧ k.num ≤ 21 := by decide
set_option maxHeartbeats 16000000 in
theorem rline_any (w : World) (hv : KV w) (s : ByteArray) :
    Calls Tryd.prog 12 #[.string s] w fun e w' => ∃ v, e = .returned (.tuple #[.agg (scell (lnS s.data.toList) v), .int .i64 (lnE s.data.toList)]) ∧ Hid (w'.ownsRow w.heap.size 3 1 v (lnS s.data.toList).l.length (ints (lnS s.data.toList).l) ∧ Keeps (fun _ => False) w w') := by
  have HS := Hid.mk' (size_len s)
  have HKz := Hid.mk' ((Keeps.refl (fun _ => False) w).alloc (.cells #[.int .i64 0, .string ⟨#[]⟩, .string ⟨#[]⟩, .int .i64 0, .int .i64 0, .int .i64 0, .slice none 0 0] 24))
  have HBz := Hid.mk' (heap_last w (.cells #[.int .i64 0, .string ⟨#[]⟩, .string ⟨#[]⟩, .int .i64 0, .int .i64 0, .int .i64 0, .slice none 0 0] 24))
  have HVz := Hid.mk' (hv.keep HKz.out)
  clear hv
  by_cases hL : 20000 < s.size
  · have hL' : (20000 : Int) < (s.size : Int) := by omega
    have hE : lnE s.data.toList = 191 := by unfold lnE; rw [← HS.out, if_pos hL]
    have hS : lnS s.data.toList = st0 0 := by unfold lnS; rw [← HS.out, if_pos hL]
    have HG := Hid.mk' HBz.out
    go_enter Tryd.func12, Tryd.ntmps12
    have S1 := Hid.mk' True.intro
    go_wp2_with (first | (clear S1; refine wpList_store_row rfl 24 (.tmp 2) _ rfl w.heap.size #[.int .i64 0, .string ⟨#[]⟩, .string ⟨#[]⟩, .int .i64 0, .int .i64 0, .int .i64 0, .slice none 0 0] (by rfl) (by rfl) 24 #[.int .i64 0, .string ⟨#[]⟩, .string ⟨#[]⟩, .int .i64 0, .int .i64 0, .int .i64 0, .slice none 0 0] (HG.out) size24 rfl (by simp [Value.oneCell']) ?_; have S2 := Hid.mk' True.intro))
    exact bodyPost_ret (results_cell_slot rfl _ _ w.heap.size 24 #[.int .i64 0, .string ⟨#[]⟩, .string ⟨#[]⟩, .int .i64 0, .int .i64 0, .int .i64 0, .slice none 0 0] (0, 0) _ rfl (setRow_heap _ _ _ _ _ _ (HG.out)) Tryd.underlying24 rfl size24) rfl ⟨.slice none 0 0, by rw [hE, hS]; rfl, by rw [hS]; exact ⟨World.ownsRow_nil _ _ _ _, (HKz.out).setRow _ _ (Or.inl (Nat.le_refl _))⟩⟩
  have hL' : ¬ (20000 : Int) < (s.size : Int) := by omega
  have hL2 : ¬ 20000 < s.data.toList.length := by rw [← HS.out]; exact hL
  cases hws : wds [] s.data.toList with
  | none =>
    have hE : lnE s.data.toList = 194 := by unfold lnE; rw [if_neg hL2, hws]
    have hS : lnS s.data.toList = st0 0 := by unfold lnS; rw [if_neg hL2, hws]
    go_enter Tryd.func12, Tryd.ntmps12
    have S0 := Hid.mk' True.intro
    go_wp2_with (first
      | (clear S0; go_at_call 23; refine (rwords_any _ s (by omega)).mono ?_; rintro e w1 ⟨v, rfl, h1⟩; rw [hws] at h1 ⊢; have H1 := Hid.mk' h1.out; clear h1; obtain ⟨pa, ca, hva, _, _⟩ := id (Row.of_own H1.out.1); subst hva; have HG := Hid.mk' (H1.out.2.at HBz.out id); skip; have S1 := Hid.mk' True.intro)
      | (clear S1; refine wpList_store_row rfl 24 (.tmp 2) _ rfl w.heap.size #[.int .i64 0, .string ⟨#[]⟩, .string ⟨#[]⟩, .int .i64 0, .int .i64 0, .int .i64 0, .slice none 0 0] (by rfl) (by rfl) 24 #[.int .i64 0, .string ⟨#[]⟩, .string ⟨#[]⟩, .int .i64 0, .int .i64 0, .int .i64 0, .slice none 0 0] (HG.out) size24 rfl (by simp [Value.oneCell']) ?_; have S2 := Hid.mk' True.intro))
    exact bodyPost_ret (results_cell_slot rfl _ _ w.heap.size 24 #[.int .i64 0, .string ⟨#[]⟩, .string ⟨#[]⟩, .int .i64 0, .int .i64 0, .int .i64 0, .slice none 0 0] (0, 0) _ rfl (setRow_heap _ _ _ _ _ _ (HG.out)) Tryd.underlying24 rfl size24) rfl ⟨.slice none 0 0, by rw [hE, hS]; rfl, by rw [hS]; exact ⟨World.ownsRow_nil _ _ _ _, (HKz.out.trans H1.out.2).setRow _ _ (Or.inl (Nat.le_refl _))⟩⟩
  | some ws =>
    have htx := wds_texts _ _ [] 20000 (Nat.le_refl _) (by omega) (fun x hx => by cases hx) ws hws
    rw [List.length_nil, Nat.zero_add, ← HS.out] at htx
    have HWL : Hid (ws.length ≤ 1000000) := by show _ ≤ _; omega
    match ws, hws, htx, HWL with
    | [], hws, htx, HWL =>
      have hE : lnE s.data.toList = 190 := by unfold lnE; rw [if_neg hL2, hws]; rfl
      have hS : lnS s.data.toList = st0 0 := by unfold lnS; rw [if_neg hL2, hws]; rfl
      go_enter Tryd.func12, Tryd.ntmps12
      have S0 := Hid.mk' True.intro
      go_wp2_with (first
        | (clear S0; go_at_call 23; refine (rwords_any _ s (by omega)).mono ?_; rintro e w1 ⟨v, rfl, h1⟩; rw [hws] at h1 ⊢; have H1 := Hid.mk' h1.out; clear h1; obtain ⟨pa, ca, hva, _, _⟩ := id (Row.of_own H1.out.1); subst hva; have HG := Hid.mk' (H1.out.2.at HBz.out id); skip; have S1 := Hid.mk' True.intro)
        | (clear S1; refine wpList_store_row rfl 24 (.tmp 2) _ rfl w.heap.size #[.int .i64 0, .string ⟨#[]⟩, .string ⟨#[]⟩, .int .i64 0, .int .i64 0, .int .i64 0, .slice none 0 0] (by rfl) (by rfl) 24 #[.int .i64 0, .string ⟨#[]⟩, .string ⟨#[]⟩, .int .i64 0, .int .i64 0, .int .i64 0, .slice none 0 0] (HG.out) size24 rfl (by simp [Value.oneCell']) ?_; have S2 := Hid.mk' True.intro))
      exact bodyPost_ret (results_cell_slot rfl _ _ w.heap.size 24 #[.int .i64 0, .string ⟨#[]⟩, .string ⟨#[]⟩, .int .i64 0, .int .i64 0, .int .i64 0, .slice none 0 0] (0, 0) _ rfl (setRow_heap _ _ _ _ _ _ (HG.out)) Tryd.underlying24 rfl size24) rfl ⟨.slice none 0 0, by rw [hE, hS]; rfl, by rw [hS]; exact ⟨World.ownsRow_nil _ _ _ _, (HKz.out.trans H1.out.2).setRow _ _ (Or.inl (Nat.le_refl _))⟩⟩
    | x0 :: xs, hws, htx, HWL =>
      have hlp : (0 : Int) < ((x0 :: xs).length : Int) := by rw [List.length_cons]; omega
      have hle : (((x0 :: xs).length : Int) == 0) = false := beq_eq_false_iff_ne.2 (by omega)
      generalize hWN : (x0 :: xs).length = WN at *
      cases hq0 : x0.quoted with
      | true =>
        have hkd : kindOf (x0 :: xs) = none := by simp [kindOf, hq0]
        have hE : lnE s.data.toList = 190 := by unfold lnE; rw [if_neg hL2, hws]; simp only; rw [hkd]
        have hS : lnS s.data.toList = st0 0 := by unfold lnS; rw [if_neg hL2, hws]; simp only; rw [hkd]
        go_enter Tryd.func12, Tryd.ntmps12
        have S0 := Hid.mk' True.intro
        go_wp2_with (first
          | (clear S0; go_at_call 23; refine (rwords_any _ s (by omega)).mono ?_; rintro e w1 ⟨v, rfl, h1⟩; rw [hws] at h1 ⊢; have H1 := Hid.mk' h1.out; clear h1; obtain ⟨pa, ca, hva, hcapx, _⟩ := id (Row.of_own H1.out.1); rw [show ((some (x0 :: xs)).getD []).length = WN from hWN] at hva hcapx; have HCAP := Hid.mk' hcapx; clear hcapx; subst hva; have HG := Hid.mk' (H1.out.2.at HBz.out id); obtain ⟨b0, o0, c0, hvv, _, hq, htx0⟩ := rrow_at (j := 0) (x := x0) (Row.of_own H1.out.1) rfl; injection hvv with e1 e2 e3; subst e1; subst e3; simp only [Nat.zero_mul, Nat.add_zero, Nat.zero_add] at hq htx0; rw [hq0] at hq; clear e2; have S1 := Hid.mk' True.intro)
          | (clear S1; refine wpList_store_row rfl 24 (.tmp 2) _ rfl w.heap.size #[.int .i64 0, .string ⟨#[]⟩, .string ⟨#[]⟩, .int .i64 0, .int .i64 0, .int .i64 0, .slice none 0 0] (by rfl) (by rfl) 24 #[.int .i64 0, .string ⟨#[]⟩, .string ⟨#[]⟩, .int .i64 0, .int .i64 0, .int .i64 0, .slice none 0 0] (HG.out) size24 rfl (by simp [Value.oneCell']) ?_; have S2 := Hid.mk' True.intro))
        exact bodyPost_ret (results_cell_slot rfl _ _ w.heap.size 24 #[.int .i64 0, .string ⟨#[]⟩, .string ⟨#[]⟩, .int .i64 0, .int .i64 0, .int .i64 0, .slice none 0 0] (0, 0) _ rfl (setRow_heap _ _ _ _ _ _ (HG.out)) Tryd.underlying24 rfl size24) rfl ⟨.slice none 0 0, by rw [hE, hS]; rfl, by rw [hS]; exact ⟨World.ownsRow_nil _ _ _ _, (HKz.out.trans H1.out.2).setRow _ _ (Or.inl (Nat.le_refl _))⟩⟩
      | false =>
        have hrk := fun W h => rkind_any W h x0.text
        cases hkd : kdOf x0.text with
        | none =>
          have hkd2 : kindOf (x0 :: xs) = none := by simp [kindOf, hq0, hkd]
          have hE : lnE s.data.toList = 190 := by unfold lnE; rw [if_neg hL2, hws]; simp only; rw [hkd2]
          have hS : lnS s.data.toList = st0 0 := by unfold lnS; rw [if_neg hL2, hws]; simp only; rw [hkd2]
          rw [hkd] at hrk
          go_enter Tryd.func12, Tryd.ntmps12
          have S0 := Hid.mk' True.intro
          go_wp2_with (first
            | (clear S0; go_at_call 23; refine (rwords_any _ s (by omega)).mono ?_; rintro e w1 ⟨v, rfl, h1⟩; rw [hws] at h1 ⊢; have H1 := Hid.mk' h1.out; clear h1; obtain ⟨pa, ca, hva, hcapx, _⟩ := id (Row.of_own H1.out.1); rw [show ((some (x0 :: xs)).getD []).length = WN from hWN] at hva hcapx; have HCAP := Hid.mk' hcapx; clear hcapx; subst hva; have HG := Hid.mk' (H1.out.2.at HBz.out id); obtain ⟨b0, o0, c0, hvv, _, hq, htx0⟩ := rrow_at (j := 0) (x := x0) (Row.of_own H1.out.1) rfl; injection hvv with e1 e2 e3; subst e1; subst e3; simp only [Nat.zero_mul, Nat.add_zero, Nat.zero_add] at hq htx0; rw [hq0] at hq; clear e2; have S1 := Hid.mk' True.intro)
            | (clear S1; go_at_call 24; refine (hrk _ (HVz.out.keep H1.out.2)).mono ?_; clear hrk; rintro e w2 ⟨rfl, hk2⟩; have HK2 := Hid.mk' hk2; clear hk2; have HG := Hid.mk' (HK2.out.at HG.out id); have S2 := Hid.mk' True.intro)
            | (clear S2; refine wpList_store_row rfl 24 (.tmp 2) _ rfl w.heap.size #[.int .i64 0, .string ⟨#[]⟩, .string ⟨#[]⟩, .int .i64 0, .int .i64 0, .int .i64 0, .slice none 0 0] (by rfl) (by rfl) 24 #[.int .i64 0, .string ⟨#[]⟩, .string ⟨#[]⟩, .int .i64 0, .int .i64 0, .int .i64 0, .slice none 0 0] (HG.out) size24 rfl (by simp [Value.oneCell']) ?_; have S3 := Hid.mk' True.intro))
          exact bodyPost_ret (results_cell_slot rfl _ _ w.heap.size 24 #[.int .i64 0, .string ⟨#[]⟩, .string ⟨#[]⟩, .int .i64 0, .int .i64 0, .int .i64 0, .slice none 0 0] (0, 0) _ rfl (setRow_heap _ _ _ _ _ _ (HG.out)) Tryd.underlying24 rfl size24) rfl ⟨.slice none 0 0, by rw [hE, hS]; rfl, by rw [hS]; exact ⟨World.ownsRow_nil _ _ _ _, ((HKz.out.trans H1.out.2).trans HK2.out).setRow _ _ (Or.inl (Nat.le_refl _))⟩⟩
        | some k =>
          have hkd2 : kindOf (x0 :: xs) = some k := by simp [kindOf, hq0, hkd]
          have hmem : k ∈ kds := List.mem_of_find?_eq_some hkd
          have hkn := kd_num2 k hmem
          have hkne : (k.num == 0) = false := beq_eq_false_iff_ne.2 (by omega)
          rw [hkd, show knum (some k) = k.num from rfl] at hrk
          have hsr := fun W h v hr => rsorts_any W h k hmem v xs hr (by have h : WN ≤ 1000000 := HWL.out; rw [List.length_cons] at hWN; omega)
          have hwn1 : (WN : Int) - 1 = (xs.length : Int) := by rw [List.length_cons] at hWN; omega
          cases htk : takesF k.args xs with
          | false =>
            have hE : lnE s.data.toList = 192 := by unfold lnE; rw [if_neg hL2, hws]; simp only; rw [hkd2]; simp only [List.drop_one, List.tail_cons]; rw [htk]; rfl
            have hS : lnS s.data.toList = st0 0 := by unfold lnS; rw [if_neg hL2, hws]; simp only; rw [hkd2]; simp only [List.drop_one, List.tail_cons]; rw [htk]; rfl
            rw [htk] at hsr
            go_enter Tryd.func12, Tryd.ntmps12
            have S0 := Hid.mk' True.intro
            go_wp2_with (first
              | (clear S0; go_at_call 23; refine (rwords_any _ s (by omega)).mono ?_; rintro e w1 ⟨v, rfl, h1⟩; rw [hws] at h1 ⊢; have H1 := Hid.mk' h1.out; clear h1; obtain ⟨pa, ca, hva, hcapx, _⟩ := id (Row.of_own H1.out.1); rw [show ((some (x0 :: xs)).getD []).length = WN from hWN] at hva hcapx; have HCAP := Hid.mk' hcapx; clear hcapx; subst hva; have HG := Hid.mk' (H1.out.2.at HBz.out id); obtain ⟨b0, o0, c0, hvv, _, hq, htx0⟩ := rrow_at (j := 0) (x := x0) (Row.of_own H1.out.1) rfl; injection hvv with e1 e2 e3; subst e1; subst e3; simp only [Nat.zero_mul, Nat.add_zero, Nat.zero_add] at hq htx0; rw [hq0] at hq; clear e2; have S1 := Hid.mk' True.intro)
              | (clear S1; go_at_call 24; refine (hrk _ (HVz.out.keep H1.out.2)).mono ?_; clear hrk; rintro e w2 ⟨rfl, hk2⟩; have HK2 := Hid.mk' hk2; clear hk2; have HG := Hid.mk' (HK2.out.at HG.out id); have hcap : WN ≤ ca := HCAP.out
                 obtain ⟨VT, hVT⟩ : ∃ VT, (if ca = 1 then some (⟨b0, o0, none⟩ : Addr) else some ⟨b0, o0 + 2, none⟩) = VT := ⟨_, rfl⟩
                 have hcm : (ca : Int) - 1 = ((ca - 1 : Nat) : Int) := by omega
                 have hw1 : ¬ (WN : Int) < 1 := by omega
                 have hw9 : WN - 1 = xs.length := by rw [← hWN, List.length_cons]; omega
                 have HTL := Hid.mk' ((rrow_tail (Row.of_own H1.out.1) hVT).keep HK2.out)
                 have S2 := Hid.mk' True.intro)
              | (clear S2; go_at_call 25; refine (hsr _ ((HVz.out.keep H1.out.2).keep HK2.out) _ HTL.out).mono ?_; clear hsr; rintro e w3 ⟨rfl, hk3⟩; have HK3 := Hid.mk' hk3; clear hk3; have HG := Hid.mk' (HK3.out.at HG.out id); have S3 := Hid.mk' True.intro)
              | (clear S3; refine wpList_store_row rfl 24 (.tmp 2) _ rfl w.heap.size #[.int .i64 0, .string ⟨#[]⟩, .string ⟨#[]⟩, .int .i64 0, .int .i64 0, .int .i64 0, .slice none 0 0] (by rfl) (by rfl) 24 #[.int .i64 0, .string ⟨#[]⟩, .string ⟨#[]⟩, .int .i64 0, .int .i64 0, .int .i64 0, .slice none 0 0] (HG.out) size24 rfl (by simp [Value.oneCell']) ?_; have S4 := Hid.mk' True.intro))
            exact bodyPost_ret (results_cell_slot rfl _ _ w.heap.size 24 #[.int .i64 0, .string ⟨#[]⟩, .string ⟨#[]⟩, .int .i64 0, .int .i64 0, .int .i64 0, .slice none 0 0] (0, 0) _ rfl (setRow_heap _ _ _ _ _ _ (HG.out)) Tryd.underlying24 rfl size24) rfl ⟨.slice none 0 0, by rw [hE, hS]; rfl, by rw [hS]; exact ⟨World.ownsRow_nil _ _ _ _, (((HKz.out.trans H1.out.2).trans HK2.out).trans HK3.out).setRow _ _ (Or.inl (Nat.le_refl _))⟩⟩
          | true =>
            have hrf := fun W h => rfixed_any W h k hmem
            have HSZ : Hid ((lets (fxA k.args)).size = (fxA k.args).length) := lets_size _
            have HSM : Hid ((lets (fxA k.args)).size ≤ 3) := by show _ ≤ _; rw [lets_size]; exact Nat.le_trans (List.length_filter_le _ _) (kd_args3 k hmem)
            have HLET : Hid (∀ (j : Nat) (a : Ar), argAt k.args j = some a → (∀ hj : j < (lets (fxA k.args)).size, ((lets (fxA k.args))[j]'hj) = lett a) ∧ (¬ j < (lets (fxA k.args)).size → a = .L)) := by
              intro j a ha
              refine ⟨fun hj => ?_, fun hj => ?_⟩
              · have hj2 : j < (fxA k.args).length := by rw [← lets_size]; exact hj
                have e := at_fix hmem (List.getElem?_eq_getElem hj2)
                rw [e] at ha
                cases ha
                exact lets_at (List.getElem?_eq_getElem hj2) hj
              · have hj2 : (fxA k.args).length ≤ j := by rw [lets_size] at hj; omega
                cases hfl : fxL k.args with
                | true => rw [at_list hmem hfl hj2] at ha; exact (Option.some.inj ha).symm
                | false => rw [at_no hmem hfl hj2] at ha; cases ha
            have HTK : Hid (∀ (j : Nat) (x : Wd), xs[j]? = some x → ∃ a, argAt k.args j = some a ∧ a.quo = x.quoted) := fun j x hx => by have h := tkF_at2 xs 0 (by unfold takesF at htk; rw [Bool.and_eq_true] at htk; exact htk.2) j x hx; rw [Nat.zero_add] at h; exact h
            have hE0 : lnE s.data.toList = if (stF k.args 0 (st0 k.num) xs).isSome = true then 0 else 193 := by unfold lnE; rw [if_neg hL2, hws]; simp only; rw [hkd2]; simp only [List.drop_one, List.tail_cons]; rw [if_pos htk]; cases stF k.args 0 (st0 k.num) xs <;> rfl
            have hS0 : lnS s.data.toList = (stF k.args 0 (st0 k.num) xs).getD (st0 0) := by unfold lnS; rw [if_neg hL2, hws]; simp only; rw [hkd2]; simp only [List.drop_one, List.tail_cons]; rw [if_pos htk]
            have HE0 := Hid.mk' hE0
            have HS0 := Hid.mk' hS0
            have HXN : Hid (xs.length ≤ 1000000) := by have h : WN ≤ 1000000 := HWL.out; rw [List.length_cons] at hWN; show _ ≤ _; omega
            rw [htk] at hsr
            clear hE0 hS0 hkd hkd2 htk hL2
            generalize lets (fxA k.args) = LE at *
            go_enter Tryd.func12, Tryd.ntmps12
            have S0 := Hid.mk' True.intro
            go_wp2_with (first
              | (clear S0; go_at_call 23; refine (rwords_any _ s (by omega)).mono ?_; rintro e w1 ⟨v, rfl, h1⟩; rw [hws] at h1 ⊢; have H1 := Hid.mk' h1.out; clear h1; obtain ⟨pa, ca, hva, hcapx, _⟩ := id (Row.of_own H1.out.1); rw [show ((some (x0 :: xs)).getD []).length = WN from hWN] at hva hcapx; have HCAP := Hid.mk' hcapx; clear hcapx; subst hva; have HG := Hid.mk' (H1.out.2.at HBz.out id); obtain ⟨b0, o0, c0, hvv, _, hq, htx0⟩ := rrow_at (j := 0) (x := x0) (Row.of_own H1.out.1) rfl; injection hvv with e1 e2 e3; subst e1; subst e3; simp only [Nat.zero_mul, Nat.add_zero, Nat.zero_add] at hq htx0; rw [hq0] at hq; clear e2; have S1 := Hid.mk' True.intro)
              | (clear S1; go_at_call 24; refine (hrk _ (HVz.out.keep H1.out.2)).mono ?_; clear hrk; rintro e w2 ⟨rfl, hk2⟩; have HK2 := Hid.mk' hk2; clear hk2; have HG := Hid.mk' (HK2.out.at HG.out id); have hcap : WN ≤ ca := HCAP.out
                 obtain ⟨VT, hVT⟩ : ∃ VT, (if ca = 1 then some (⟨b0, o0, none⟩ : Addr) else some ⟨b0, o0 + 2, none⟩) = VT := ⟨_, rfl⟩
                 have hcm : (ca : Int) - 1 = ((ca - 1 : Nat) : Int) := by omega
                 have hw1 : ¬ (WN : Int) < 1 := by omega
                 have hw9 : WN - 1 = xs.length := by rw [← hWN, List.length_cons]; omega
                 have HTL := Hid.mk' ((rrow_tail (Row.of_own H1.out.1) hVT).keep HK2.out)
                 have S2 := Hid.mk' True.intro)
              | (clear S2; go_at_call 25; refine (hsr _ ((HVz.out.keep H1.out.2).keep HK2.out) _ HTL.out).mono ?_; clear hsr; rintro e w3 ⟨rfl, hk3⟩; have HK3 := Hid.mk' hk3; clear hk3; have HG := Hid.mk' (HK3.out.at HG.out id); have S3 := Hid.mk' True.intro)
              | (clear S3; go_at_call 26; refine (hrf _ (((HVz.out.keep H1.out.2).keep HK2.out).keep HK3.out)).mono ?_; clear hrf; rintro e w4 ⟨rfl, hk4⟩; have HK4 := Hid.mk' hk4; clear hk4; have HG := Hid.mk' (HK4.out.at HG.out id); have S4 := Hid.mk' True.intro)
              | (clear S4; refine wpList_alloc_st rfl rfl ?_; have S5 := Hid.mk' True.intro)
              | (clear S5; refine wpList_store_st rfl _ _ rfl (st0 k.num) none 0 0 (by rfl) (by rfl) ?_; have S6 := Hid.mk' True.intro))
            have HW5 := Hid.mk' ((Keeps.refl (fun _ => False) w4).alloc (.cells (scell (st0 k.num) (.slice none 0 0)) 24))
            have HB5 := Hid.mk' (heap_last w4 (.cells (scell (st0 k.num) (.slice none 0 0)) 24))
            have HKall := Hid.mk' (((HKz.out.trans H1.out.2).trans HK2.out).trans (HK3.out.trans HK4.out))
            have HXR := Hid.mk' (HTL.out.keep (HK3.out.trans HK4.out))
            clear hq htx0
            go_loopw [10] (fun i wr => ∃ (j : Nat) (t : St) (r : Option Addr) (c : Nat), j ≤ xs.length ∧ i = .int .i64 j ∧ Hid (wr.heap[w4.heap.size]? = some (.cells (scell t (.slice r t.l.length c)) 24 (0, 0)) ∧ wr.ownsRow (w4.heap.size + 1) 3 1 (.slice r t.l.length c) t.l.length (ints t.l) ∧ Keeps (fun k => w4.heap.size ≤ k) (w4.alloc (.cells (scell (st0 k.num) (.slice none 0 0)) 24)) wr ∧ stF k.args 0 (st0 k.num) xs = stF k.args j t (xs.drop j) ∧ t.l.length ≤ j)) (fun i _ => xs.length - (intOf i).toNat)
            case atStart => exact ⟨0, st0 k.num, none, 0, Nat.zero_le _, rfl, HB5.out, World.ownsRow_nil _ _ _ _, Keeps.refl _ _, rfl, Nat.le_refl _⟩
            case round =>
              obtain ⟨j, t, r, c, hj, rfl, HI⟩ := hrel
              by_cases h1 : j < xs.length
              · have h1' : (j : Int) < (xs.length : Int) := by omega
                obtain ⟨x, hx⟩ : ∃ x, xs[j]? = some x := ⟨_, List.getElem?_eq_getElem h1⟩
                obtain ⟨bx, ox, cx, hvv, hbx, hq0, ht0⟩ := rrow_at HXR.out hx
                injection hvv with e1 e2 e3
                subst e1
                subst e3
                have HKK := Hid.mk' ((HW5.out.mono (fun _ _ h => h.elim)).trans HI.out.2.2.1)
                have hq := HKK.out.cell hq0 (show ¬ w4.heap.size ≤ bx by omega)
                have htt := HKK.out.cell ht0 (show ¬ w4.heap.size ≤ bx by omega)
                obtain ⟨a, ha, hqa⟩ := HTK.out j x hx
                have hdr := stF_drop (l := k.args) t hx
                rw [ha] at hdr
                simp only at hdr
                have HREG : Hid (wr.rangeAt w4.heap.size 0 (scell t (.slice r t.l.length c)).toList ∧ wr.rangeAt bx (ox + j * 2) (rcell x).toList) := by
                  refine ⟨rangeAt_block HI.out.1 (scell t (.slice r t.l.length c)), fun q u hqq => ?_⟩
                  rw [Array.getElem?_toList] at hqq
                  match q, hqq with
                  | 0, hqq => rw [show u = .bool x.quoted by simpa [rcell] using hqq.symm]; exact hq
                  | 1, hqq => rw [show u = .string x.text by simpa [rcell] using hqq.symm]; rw [Nat.add_assoc]; exact htt
                  | q + 2, hqq => simp [rcell] at hqq
                have hld := fun (m : Int) (W : World) (kk : Keeps (fun _ => False) wr W) => rlaid_any a (w4.heap.size + 1) W (by have := heap_lt HI.out.1; have := kk.size; omega) t (.slice r t.l.length c) (own_grow HI.out.2.1 kk) (by have h2 : t.l.length ≤ j := HI.out.2.2.2.2; have h3 : xs.length ≤ 1000000 := HXN.out; omega) x m
                have HDR := Hid.mk' hdr
                clear hdr hx hq0 ht0 e2
                rw [← Nat.add_assoc] at htt
                by_cases h3 : j < LE.size
                · have h3' : (j : Int) < (LE.size : Int) := by omega
                  have hLj : (LE[j]'h3) = lett a := (HLET.out j a ha).1 h3
                  cases hxq : x.quoted with
                  | true =>
                    rw [hxq] at hq hqa
                    have HNW := Hid.mk' (ldF_quo (t := t) (x := x) (n := 0) hqa)
                    have KN := Hid.mk' (Keeps.refl (fun _ => False) wr)
                    go_upto_region 29 with (fail)
                    have HNK := Hid.mk' (KN.out.trans (Keeps.drewN (fun _ => False) wr 1))
                    refine wp_region_held_drew (S := fun wx => wx.rangeAt bx (ox + j * 2) (rcell x).toList) (by kernel_rfl) (fun q u hqq => HNK.out.cell (HREG.out.2 q u hqq) id) (fun hS => ?_)
                    refine takeH 1 (some 93) (.int .u8 (((lett a).toNat : Nat) : Int)) rfl rfl (by kernel_rfl) (by kernel_rfl) (by kernel_rfl) (fun _ _ _ h => h) (Or.inl ⟨by rfl, fun wx _ => by go_simp⟩) hS ?_
                    try simp only [Act.put, List.setIfInBounds_toArray, List.set_cons_zero, List.set_cons_succ]
                    refine takeH 2 (some 94) (.slice (some ⟨bx, ox, none⟩) xs.length (ca - 1)) rfl rfl (by kernel_rfl) (by kernel_rfl) (by kernel_rfl) (fun _ _ _ h => h) (Or.inl ⟨by rfl, fun wx _ => by go_simp⟩) hS ?_
                    try simp only [Act.put, List.setIfInBounds_toArray, List.set_cons_zero, List.set_cons_succ]
                    refine takeH 3 (some 95) (.int .i64 j) rfl rfl (by kernel_rfl) (by kernel_rfl) (by kernel_rfl) (fun _ _ _ h => h) (Or.inl ⟨by rfl, fun wx _ => by go_simp⟩) hS ?_
                    try simp only [Act.put, List.setIfInBounds_toArray, List.set_cons_zero, List.set_cons_succ]
                    refine takeH 4 (some 96) (.pointer (some ⟨bx, ox + j * 2, none⟩)) rfl rfl (by kernel_rfl) (by kernel_rfl) (by kernel_rfl) (fun _ _ _ h => h) (Or.inl ⟨by rfl, fun wx _ => by go_simp⟩) hS ?_
                    try simp only [Act.put, List.setIfInBounds_toArray, List.set_cons_zero, List.set_cons_succ]
                    refine takeH 5 (some 97) (.agg (rcell x)) rfl rfl (by kernel_rfl) (by kernel_rfl) (by kernel_rfl) (fun _ _ _ h => h) (yieldsIf_load_mid (by rfl) 57 (.tmp 96) rfl bx (ox + j * 2) (by rfl) (rcell x).toList _ (fun _ h => h) Tryd.underlying57 rfl sizeR) hS ?_
                    try simp only [Act.put, List.setIfInBounds_toArray, List.set_cons_zero, List.set_cons_succ]
                    refine takeH 6 (some 98) (.int .i64 0) rfl rfl (by kernel_rfl) (by kernel_rfl) (by kernel_rfl) (fun _ _ _ h => h) (Or.inl ⟨by rfl, fun wx _ => by go_simp⟩) hS ?_
                    try simp only [Act.put, List.setIfInBounds_toArray, List.set_cons_zero, List.set_cons_succ]
                    refine wpAnyH_ready (rs := [0]) (by kernel_rfl) (by simp) (AllReadyH.cons rfl (fun K hK => ?_) AllReadyH.nil)
                    rw [if_pos (by rfl)]
                    refine wp_load_row 24 (.tmp 9) rfl w4.heap.size (by rfl) 24 (scell t (.slice r t.l.length c)) (0, 0) _ (HNK.out.at HI.out.1 id) Tryd.underlying24 rfl size24 ?_
                    refine hK.out _ _ hS (fun hS => ?_)
                    clear hK
                    try simp only [Act.put, List.setIfInBounds_toArray]
                    refine wpAnyH_ready (rs := [7]) (by kernel_rfl) (by simp) (AllReadyH.cons rfl (fun K hK => ?_) AllReadyH.nil)
                    go_simp
                    go_at_call 28
                    refine (hld 0 _ HNK.out).mono ?_
                    clear hld
                    rintro e w6 ⟨v6, rfl, h6⟩
                    obtain ⟨r6, c6, hv6, _, _⟩ := id (Row.of_own h6.out.1)
                    subst hv6
                    have H6 := Hid.mk' h6.out
                    have HB6 := Hid.mk' (H6.out.2.at (HNK.out.at HI.out.1 id) (show ¬ w4.heap.size + 1 ≤ w4.heap.size by omega))
                    refine hK.out _ _ (fun q u hqq => h6.out.2.cell (hS q u hqq) (show ¬ w4.heap.size + 1 ≤ bx by omega)) (fun hS => ?_)
                    clear hK h6
                    try simp only [Act.put, List.setIfInBounds_toArray, List.set_cons_zero, List.set_cons_succ]
                    refine wpAnyH_ready (rs := [8]) (by kernel_rfl) (by simp) (AllReadyH.cons rfl (fun K hK => ?_) AllReadyH.nil)
                    rw [if_pos (by rfl)]
                    refine wp_store_row 24 (.tmp 9) (.tmp 99) rfl w4.heap.size (scell (ldF a t x 0) (.slice r6 (ldF a t x 0).l.length c6)) (by rfl) (by rfl) 24 (scell t (.slice r t.l.length c)) HB6.out size24 rfl (by simp [scell, Value.oneCell']) ?_
                    refine hK.out _ _ (fun q u hqq => (Keeps.setRow (X := fun q => q = w4.heap.size) (Keeps.refl _ _) _ _ (Or.inr rfl)).cell (hS q u hqq) (show ¬ bx = w4.heap.size by omega)) (fun hS => ?_)
                    clear hK
                    try simp only [Act.put, List.setIfInBounds_toArray]
                    refine wpAnyH_done (by kernel_rfl) ?_ _
                    go_wp2
                    go_roundw
                    case rel => exact ⟨j + 1, ldF a t x 0, r6, c6, by omega, by go_num, setRow_heap _ _ _ _ _ _ HB6.out, own_keep H6.out.1 (Keeps.setRow (X := fun q => q = w4.heap.size) (Keeps.refl _ _) _ _ (Or.inr rfl)) (row_ne HB6.out H6.out.1), ((HI.out.2.2.1.trans (HNK.out.mono (fun _ _ h => h.elim))).trans (H6.out.2.mono (fun _ _ h => Nat.le_of_succ_le h))).setRow _ _ (Or.inr (Nat.le_refl _)), by rw [HI.out.2.2.2.1, HDR.out, HNW.out.1, if_pos rfl, HNW.out.2], by have h7 := ldF_len a t x 0; have h8 : t.l.length ≤ j := HI.out.2.2.2.2; omega⟩
                    case measure => simp [intOf]; omega

                  | false =>
                    rw [hxq] at hq hqa
                    cases hnm : num x.text.data.toList with
                    | none =>
                      have HF := Hid.mk' (rdF_none (t := t) hqa hnm)
                      have HST : Hid (stF k.args 0 (st0 k.num) xs = none) := by show _ = _; rw [HI.out.2.2.2.1, HDR.out, HF.out, if_neg (by decide)]
                      have hE : lnE s.data.toList = 193 := by rw [HE0.out, HST.out]; rfl
                      have hS : lnS s.data.toList = st0 0 := by rw [HS0.out, HST.out]; rfl
                      clear hld
                      go_wp2_with (first
                        | (clear S6; go_at_call 27; refine (rnumber_any _ x.text).mono ?_; rintro e w5 ⟨n5, rfl, h5⟩; rw [hnm] at h5 ⊢; have H5 := Hid.mk' h5.out; clear h5; skip; have KN := Hid.mk' H5.out.2; have HG := Hid.mk' (KN.out.at (HKK.out.at HG.out (show ¬ w4.heap.size ≤ w.heap.size by have := heap_lt HG.out; omega)) id); have S7 := Hid.mk' True.intro)
                        | (clear S7; refine wpList_store_row rfl 24 (.tmp 2) _ rfl w.heap.size #[.int .i64 0, .string ⟨#[]⟩, .string ⟨#[]⟩, .int .i64 0, .int .i64 0, .int .i64 0, .slice none 0 0] (by rfl) (by rfl) 24 #[.int .i64 0, .string ⟨#[]⟩, .string ⟨#[]⟩, .int .i64 0, .int .i64 0, .int .i64 0, .slice none 0 0] (HG.out) size24 rfl (by simp [Value.oneCell']) ?_; have S8 := Hid.mk' True.intro))
                      exact bodyPost_ret (results_cell_slot rfl _ _ w.heap.size 24 #[.int .i64 0, .string ⟨#[]⟩, .string ⟨#[]⟩, .int .i64 0, .int .i64 0, .int .i64 0, .slice none 0 0] (0, 0) _ rfl (setRow_heap _ _ _ _ _ _ (HG.out)) Tryd.underlying24 rfl size24) rfl ⟨.slice none 0 0, by rw [hE, hS]; rfl, by rw [hS]; exact ⟨World.ownsRow_nil _ _ _ _, ((HKall.out.trans (HKK.out.mono (fun q hq h => absurd hq (Nat.not_lt.2 h)))).trans KN.out).setRow _ _ (Or.inl (Nat.le_refl _))⟩⟩

                    | some nv =>
                      have HNW := Hid.mk' (ldF_num (t := t) hqa hnm)
                      go_upto_region 29 with (first
                        | (clear S6; go_at_call 27; refine (rnumber_any _ x.text).mono ?_; rintro e w5 ⟨n5, rfl, h5⟩; rw [hnm] at h5 ⊢; have H5 := Hid.mk' h5.out; clear h5; have e5 : n5 = nv := H5.out.1 nv rfl; subst e5; have KN := Hid.mk' H5.out.2; skip; have S7 := Hid.mk' True.intro))
                      have HNK := Hid.mk' (KN.out.trans (Keeps.drewN (fun _ => False) w5 1))
                      refine wp_region_held_drew (S := fun wx => wx.rangeAt bx (ox + j * 2) (rcell x).toList) (by kernel_rfl) (fun q u hqq => HNK.out.cell (HREG.out.2 q u hqq) id) (fun hS => ?_)
                      refine takeH 1 (some 93) (.int .u8 (((lett a).toNat : Nat) : Int)) rfl rfl (by kernel_rfl) (by kernel_rfl) (by kernel_rfl) (fun _ _ _ h => h) (Or.inl ⟨by rfl, fun wx _ => by go_simp⟩) hS ?_
                      try simp only [Act.put, List.setIfInBounds_toArray, List.set_cons_zero, List.set_cons_succ]
                      refine takeH 2 (some 94) (.slice (some ⟨bx, ox, none⟩) xs.length (ca - 1)) rfl rfl (by kernel_rfl) (by kernel_rfl) (by kernel_rfl) (fun _ _ _ h => h) (Or.inl ⟨by rfl, fun wx _ => by go_simp⟩) hS ?_
                      try simp only [Act.put, List.setIfInBounds_toArray, List.set_cons_zero, List.set_cons_succ]
                      refine takeH 3 (some 95) (.int .i64 j) rfl rfl (by kernel_rfl) (by kernel_rfl) (by kernel_rfl) (fun _ _ _ h => h) (Or.inl ⟨by rfl, fun wx _ => by go_simp⟩) hS ?_
                      try simp only [Act.put, List.setIfInBounds_toArray, List.set_cons_zero, List.set_cons_succ]
                      refine takeH 4 (some 96) (.pointer (some ⟨bx, ox + j * 2, none⟩)) rfl rfl (by kernel_rfl) (by kernel_rfl) (by kernel_rfl) (fun _ _ _ h => h) (Or.inl ⟨by rfl, fun wx _ => by go_simp⟩) hS ?_
                      try simp only [Act.put, List.setIfInBounds_toArray, List.set_cons_zero, List.set_cons_succ]
                      refine takeH 5 (some 97) (.agg (rcell x)) rfl rfl (by kernel_rfl) (by kernel_rfl) (by kernel_rfl) (fun _ _ _ h => h) (yieldsIf_load_mid (by rfl) 57 (.tmp 96) rfl bx (ox + j * 2) (by rfl) (rcell x).toList _ (fun _ h => h) Tryd.underlying57 rfl sizeR) hS ?_
                      try simp only [Act.put, List.setIfInBounds_toArray, List.set_cons_zero, List.set_cons_succ]
                      refine takeH 6 (some 98) (.int .i64 n5) rfl rfl (by kernel_rfl) (by kernel_rfl) (by kernel_rfl) (fun _ _ _ h => h) (Or.inl ⟨by rfl, fun wx _ => by go_simp⟩) hS ?_
                      try simp only [Act.put, List.setIfInBounds_toArray, List.set_cons_zero, List.set_cons_succ]
                      refine wpAnyH_ready (rs := [0]) (by kernel_rfl) (by simp) (AllReadyH.cons rfl (fun K hK => ?_) AllReadyH.nil)
                      rw [if_pos (by rfl)]
                      refine wp_load_row 24 (.tmp 9) rfl w4.heap.size (by rfl) 24 (scell t (.slice r t.l.length c)) (0, 0) _ (HNK.out.at HI.out.1 id) Tryd.underlying24 rfl size24 ?_
                      refine hK.out _ _ hS (fun hS => ?_)
                      clear hK
                      try simp only [Act.put, List.setIfInBounds_toArray]
                      refine wpAnyH_ready (rs := [7]) (by kernel_rfl) (by simp) (AllReadyH.cons rfl (fun K hK => ?_) AllReadyH.nil)
                      go_simp
                      go_at_call 28
                      refine (hld n5 _ HNK.out).mono ?_
                      clear hld
                      rintro e w6 ⟨v6, rfl, h6⟩
                      obtain ⟨r6, c6, hv6, _, _⟩ := id (Row.of_own h6.out.1)
                      subst hv6
                      have H6 := Hid.mk' h6.out
                      have HB6 := Hid.mk' (H6.out.2.at (HNK.out.at HI.out.1 id) (show ¬ w4.heap.size + 1 ≤ w4.heap.size by omega))
                      refine hK.out _ _ (fun q u hqq => h6.out.2.cell (hS q u hqq) (show ¬ w4.heap.size + 1 ≤ bx by omega)) (fun hS => ?_)
                      clear hK h6
                      try simp only [Act.put, List.setIfInBounds_toArray, List.set_cons_zero, List.set_cons_succ]
                      refine wpAnyH_ready (rs := [8]) (by kernel_rfl) (by simp) (AllReadyH.cons rfl (fun K hK => ?_) AllReadyH.nil)
                      rw [if_pos (by rfl)]
                      refine wp_store_row 24 (.tmp 9) (.tmp 99) rfl w4.heap.size (scell (ldF a t x n5) (.slice r6 (ldF a t x n5).l.length c6)) (by rfl) (by rfl) 24 (scell t (.slice r t.l.length c)) HB6.out size24 rfl (by simp [scell, Value.oneCell']) ?_
                      refine hK.out _ _ (fun q u hqq => (Keeps.setRow (X := fun q => q = w4.heap.size) (Keeps.refl _ _) _ _ (Or.inr rfl)).cell (hS q u hqq) (show ¬ bx = w4.heap.size by omega)) (fun hS => ?_)
                      clear hK
                      try simp only [Act.put, List.setIfInBounds_toArray]
                      refine wpAnyH_done (by kernel_rfl) ?_ _
                      go_wp2
                      go_roundw
                      case rel => exact ⟨j + 1, ldF a t x n5, r6, c6, by omega, by go_num, setRow_heap _ _ _ _ _ _ HB6.out, own_keep H6.out.1 (Keeps.setRow (X := fun q => q = w4.heap.size) (Keeps.refl _ _) _ _ (Or.inr rfl)) (row_ne HB6.out H6.out.1), ((HI.out.2.2.1.trans (HNK.out.mono (fun _ _ h => h.elim))).trans (H6.out.2.mono (fun _ _ h => Nat.le_of_succ_le h))).setRow _ _ (Or.inr (Nat.le_refl _)), by rw [HI.out.2.2.2.1, HDR.out, HNW.out.1, if_pos rfl, HNW.out.2], by have h7 := ldF_len a t x n5; have h8 : t.l.length ≤ j := HI.out.2.2.2.2; omega⟩
                      case measure => simp [intOf]; omega

                · have h3' : ¬ (j : Int) < (LE.size : Int) := by omega
                  have hal : a = .L := (HLET.out j a ha).2 h3
                  have hl76 : (((lett a).toNat : Nat) : Int) = 76 := by rw [hal]; rfl
                  rw [hl76] at hld
                  clear hl76 hal
                  cases hxq : x.quoted with
                  | true =>
                    rw [hxq] at hq hqa
                    have HNW := Hid.mk' (ldF_quo (t := t) (x := x) (n := 0) hqa)
                    have KN := Hid.mk' (Keeps.refl (fun _ => False) wr)
                    go_upto_region 29 with (fail)
                    have HNK := Hid.mk' (KN.out.trans (Keeps.drewN (fun _ => False) wr 1))
                    refine wp_region_held_drew (S := fun wx => wx.rangeAt bx (ox + j * 2) (rcell x).toList) (by kernel_rfl) (fun q u hqq => HNK.out.cell (HREG.out.2 q u hqq) id) (fun hS => ?_)
                    refine takeH 1 (some 93) (.int .u8 76) rfl rfl (by kernel_rfl) (by kernel_rfl) (by kernel_rfl) (fun _ _ _ h => h) (Or.inl ⟨by rfl, fun wx _ => by go_simp⟩) hS ?_
                    try simp only [Act.put, List.setIfInBounds_toArray, List.set_cons_zero, List.set_cons_succ]
                    refine takeH 2 (some 94) (.slice (some ⟨bx, ox, none⟩) xs.length (ca - 1)) rfl rfl (by kernel_rfl) (by kernel_rfl) (by kernel_rfl) (fun _ _ _ h => h) (Or.inl ⟨by rfl, fun wx _ => by go_simp⟩) hS ?_
                    try simp only [Act.put, List.setIfInBounds_toArray, List.set_cons_zero, List.set_cons_succ]
                    refine takeH 3 (some 95) (.int .i64 j) rfl rfl (by kernel_rfl) (by kernel_rfl) (by kernel_rfl) (fun _ _ _ h => h) (Or.inl ⟨by rfl, fun wx _ => by go_simp⟩) hS ?_
                    try simp only [Act.put, List.setIfInBounds_toArray, List.set_cons_zero, List.set_cons_succ]
                    refine takeH 4 (some 96) (.pointer (some ⟨bx, ox + j * 2, none⟩)) rfl rfl (by kernel_rfl) (by kernel_rfl) (by kernel_rfl) (fun _ _ _ h => h) (Or.inl ⟨by rfl, fun wx _ => by go_simp⟩) hS ?_
                    try simp only [Act.put, List.setIfInBounds_toArray, List.set_cons_zero, List.set_cons_succ]
                    refine takeH 5 (some 97) (.agg (rcell x)) rfl rfl (by kernel_rfl) (by kernel_rfl) (by kernel_rfl) (fun _ _ _ h => h) (yieldsIf_load_mid (by rfl) 57 (.tmp 96) rfl bx (ox + j * 2) (by rfl) (rcell x).toList _ (fun _ h => h) Tryd.underlying57 rfl sizeR) hS ?_
                    try simp only [Act.put, List.setIfInBounds_toArray, List.set_cons_zero, List.set_cons_succ]
                    refine takeH 6 (some 98) (.int .i64 0) rfl rfl (by kernel_rfl) (by kernel_rfl) (by kernel_rfl) (fun _ _ _ h => h) (Or.inl ⟨by rfl, fun wx _ => by go_simp⟩) hS ?_
                    try simp only [Act.put, List.setIfInBounds_toArray, List.set_cons_zero, List.set_cons_succ]
                    refine wpAnyH_ready (rs := [0]) (by kernel_rfl) (by simp) (AllReadyH.cons rfl (fun K hK => ?_) AllReadyH.nil)
                    rw [if_pos (by rfl)]
                    refine wp_load_row 24 (.tmp 9) rfl w4.heap.size (by rfl) 24 (scell t (.slice r t.l.length c)) (0, 0) _ (HNK.out.at HI.out.1 id) Tryd.underlying24 rfl size24 ?_
                    refine hK.out _ _ hS (fun hS => ?_)
                    clear hK
                    try simp only [Act.put, List.setIfInBounds_toArray]
                    refine wpAnyH_ready (rs := [7]) (by kernel_rfl) (by simp) (AllReadyH.cons rfl (fun K hK => ?_) AllReadyH.nil)
                    go_simp
                    go_at_call 28
                    refine (hld 0 _ HNK.out).mono ?_
                    clear hld
                    rintro e w6 ⟨v6, rfl, h6⟩
                    obtain ⟨r6, c6, hv6, _, _⟩ := id (Row.of_own h6.out.1)
                    subst hv6
                    have H6 := Hid.mk' h6.out
                    have HB6 := Hid.mk' (H6.out.2.at (HNK.out.at HI.out.1 id) (show ¬ w4.heap.size + 1 ≤ w4.heap.size by omega))
                    refine hK.out _ _ (fun q u hqq => h6.out.2.cell (hS q u hqq) (show ¬ w4.heap.size + 1 ≤ bx by omega)) (fun hS => ?_)
                    clear hK h6
                    try simp only [Act.put, List.setIfInBounds_toArray, List.set_cons_zero, List.set_cons_succ]
                    refine wpAnyH_ready (rs := [8]) (by kernel_rfl) (by simp) (AllReadyH.cons rfl (fun K hK => ?_) AllReadyH.nil)
                    rw [if_pos (by rfl)]
                    refine wp_store_row 24 (.tmp 9) (.tmp 99) rfl w4.heap.size (scell (ldF a t x 0) (.slice r6 (ldF a t x 0).l.length c6)) (by rfl) (by rfl) 24 (scell t (.slice r t.l.length c)) HB6.out size24 rfl (by simp [scell, Value.oneCell']) ?_
                    refine hK.out _ _ (fun q u hqq => (Keeps.setRow (X := fun q => q = w4.heap.size) (Keeps.refl _ _) _ _ (Or.inr rfl)).cell (hS q u hqq) (show ¬ bx = w4.heap.size by omega)) (fun hS => ?_)
                    clear hK
                    try simp only [Act.put, List.setIfInBounds_toArray]
                    refine wpAnyH_done (by kernel_rfl) ?_ _
                    go_wp2
                    go_roundw
                    case rel => exact ⟨j + 1, ldF a t x 0, r6, c6, by omega, by go_num, setRow_heap _ _ _ _ _ _ HB6.out, own_keep H6.out.1 (Keeps.setRow (X := fun q => q = w4.heap.size) (Keeps.refl _ _) _ _ (Or.inr rfl)) (row_ne HB6.out H6.out.1), ((HI.out.2.2.1.trans (HNK.out.mono (fun _ _ h => h.elim))).trans (H6.out.2.mono (fun _ _ h => Nat.le_of_succ_le h))).setRow _ _ (Or.inr (Nat.le_refl _)), by rw [HI.out.2.2.2.1, HDR.out, HNW.out.1, if_pos rfl, HNW.out.2], by have h7 := ldF_len a t x 0; have h8 : t.l.length ≤ j := HI.out.2.2.2.2; omega⟩
                    case measure => simp [intOf]; omega

                  | false =>
                    rw [hxq] at hq hqa
                    cases hnm : num x.text.data.toList with
                    | none =>
                      have HF := Hid.mk' (rdF_none (t := t) hqa hnm)
                      have HST : Hid (stF k.args 0 (st0 k.num) xs = none) := by show _ = _; rw [HI.out.2.2.2.1, HDR.out, HF.out, if_neg (by decide)]
                      have hE : lnE s.data.toList = 193 := by rw [HE0.out, HST.out]; rfl
                      have hS : lnS s.data.toList = st0 0 := by rw [HS0.out, HST.out]; rfl
                      clear hld
                      go_wp2_with (first
                        | (clear S6; go_at_call 27; refine (rnumber_any _ x.text).mono ?_; rintro e w5 ⟨n5, rfl, h5⟩; rw [hnm] at h5 ⊢; have H5 := Hid.mk' h5.out; clear h5; skip; have KN := Hid.mk' H5.out.2; have HG := Hid.mk' (KN.out.at (HKK.out.at HG.out (show ¬ w4.heap.size ≤ w.heap.size by have := heap_lt HG.out; omega)) id); have S7 := Hid.mk' True.intro)
                        | (clear S7; refine wpList_store_row rfl 24 (.tmp 2) _ rfl w.heap.size #[.int .i64 0, .string ⟨#[]⟩, .string ⟨#[]⟩, .int .i64 0, .int .i64 0, .int .i64 0, .slice none 0 0] (by rfl) (by rfl) 24 #[.int .i64 0, .string ⟨#[]⟩, .string ⟨#[]⟩, .int .i64 0, .int .i64 0, .int .i64 0, .slice none 0 0] (HG.out) size24 rfl (by simp [Value.oneCell']) ?_; have S8 := Hid.mk' True.intro))
                      exact bodyPost_ret (results_cell_slot rfl _ _ w.heap.size 24 #[.int .i64 0, .string ⟨#[]⟩, .string ⟨#[]⟩, .int .i64 0, .int .i64 0, .int .i64 0, .slice none 0 0] (0, 0) _ rfl (setRow_heap _ _ _ _ _ _ (HG.out)) Tryd.underlying24 rfl size24) rfl ⟨.slice none 0 0, by rw [hE, hS]; rfl, by rw [hS]; exact ⟨World.ownsRow_nil _ _ _ _, ((HKall.out.trans (HKK.out.mono (fun q hq h => absurd hq (Nat.not_lt.2 h)))).trans KN.out).setRow _ _ (Or.inl (Nat.le_refl _))⟩⟩

                    | some nv =>
                      have HNW := Hid.mk' (ldF_num (t := t) hqa hnm)
                      go_upto_region 29 with (first
                        | (clear S6; go_at_call 27; refine (rnumber_any _ x.text).mono ?_; rintro e w5 ⟨n5, rfl, h5⟩; rw [hnm] at h5 ⊢; have H5 := Hid.mk' h5.out; clear h5; have e5 : n5 = nv := H5.out.1 nv rfl; subst e5; have KN := Hid.mk' H5.out.2; skip; have S7 := Hid.mk' True.intro))
                      have HNK := Hid.mk' (KN.out.trans (Keeps.drewN (fun _ => False) w5 1))
                      refine wp_region_held_drew (S := fun wx => wx.rangeAt bx (ox + j * 2) (rcell x).toList) (by kernel_rfl) (fun q u hqq => HNK.out.cell (HREG.out.2 q u hqq) id) (fun hS => ?_)
                      refine takeH 1 (some 93) (.int .u8 76) rfl rfl (by kernel_rfl) (by kernel_rfl) (by kernel_rfl) (fun _ _ _ h => h) (Or.inl ⟨by rfl, fun wx _ => by go_simp⟩) hS ?_
                      try simp only [Act.put, List.setIfInBounds_toArray, List.set_cons_zero, List.set_cons_succ]
                      refine takeH 2 (some 94) (.slice (some ⟨bx, ox, none⟩) xs.length (ca - 1)) rfl rfl (by kernel_rfl) (by kernel_rfl) (by kernel_rfl) (fun _ _ _ h => h) (Or.inl ⟨by rfl, fun wx _ => by go_simp⟩) hS ?_
                      try simp only [Act.put, List.setIfInBounds_toArray, List.set_cons_zero, List.set_cons_succ]
                      refine takeH 3 (some 95) (.int .i64 j) rfl rfl (by kernel_rfl) (by kernel_rfl) (by kernel_rfl) (fun _ _ _ h => h) (Or.inl ⟨by rfl, fun wx _ => by go_simp⟩) hS ?_
                      try simp only [Act.put, List.setIfInBounds_toArray, List.set_cons_zero, List.set_cons_succ]
                      refine takeH 4 (some 96) (.pointer (some ⟨bx, ox + j * 2, none⟩)) rfl rfl (by kernel_rfl) (by kernel_rfl) (by kernel_rfl) (fun _ _ _ h => h) (Or.inl ⟨by rfl, fun wx _ => by go_simp⟩) hS ?_
                      try simp only [Act.put, List.setIfInBounds_toArray, List.set_cons_zero, List.set_cons_succ]
                      refine takeH 5 (some 97) (.agg (rcell x)) rfl rfl (by kernel_rfl) (by kernel_rfl) (by kernel_rfl) (fun _ _ _ h => h) (yieldsIf_load_mid (by rfl) 57 (.tmp 96) rfl bx (ox + j * 2) (by rfl) (rcell x).toList _ (fun _ h => h) Tryd.underlying57 rfl sizeR) hS ?_
                      try simp only [Act.put, List.setIfInBounds_toArray, List.set_cons_zero, List.set_cons_succ]
                      refine takeH 6 (some 98) (.int .i64 n5) rfl rfl (by kernel_rfl) (by kernel_rfl) (by kernel_rfl) (fun _ _ _ h => h) (Or.inl ⟨by rfl, fun wx _ => by go_simp⟩) hS ?_
                      try simp only [Act.put, List.setIfInBounds_toArray, List.set_cons_zero, List.set_cons_succ]
                      refine wpAnyH_ready (rs := [0]) (by kernel_rfl) (by simp) (AllReadyH.cons rfl (fun K hK => ?_) AllReadyH.nil)
                      rw [if_pos (by rfl)]
                      refine wp_load_row 24 (.tmp 9) rfl w4.heap.size (by rfl) 24 (scell t (.slice r t.l.length c)) (0, 0) _ (HNK.out.at HI.out.1 id) Tryd.underlying24 rfl size24 ?_
                      refine hK.out _ _ hS (fun hS => ?_)
                      clear hK
                      try simp only [Act.put, List.setIfInBounds_toArray]
                      refine wpAnyH_ready (rs := [7]) (by kernel_rfl) (by simp) (AllReadyH.cons rfl (fun K hK => ?_) AllReadyH.nil)
                      go_simp
                      go_at_call 28
                      refine (hld n5 _ HNK.out).mono ?_
                      clear hld
                      rintro e w6 ⟨v6, rfl, h6⟩
                      obtain ⟨r6, c6, hv6, _, _⟩ := id (Row.of_own h6.out.1)
                      subst hv6
                      have H6 := Hid.mk' h6.out
                      have HB6 := Hid.mk' (H6.out.2.at (HNK.out.at HI.out.1 id) (show ¬ w4.heap.size + 1 ≤ w4.heap.size by omega))
                      refine hK.out _ _ (fun q u hqq => h6.out.2.cell (hS q u hqq) (show ¬ w4.heap.size + 1 ≤ bx by omega)) (fun hS => ?_)
                      clear hK h6
                      try simp only [Act.put, List.setIfInBounds_toArray, List.set_cons_zero, List.set_cons_succ]
                      refine wpAnyH_ready (rs := [8]) (by kernel_rfl) (by simp) (AllReadyH.cons rfl (fun K hK => ?_) AllReadyH.nil)
                      rw [if_pos (by rfl)]
                      refine wp_store_row 24 (.tmp 9) (.tmp 99) rfl w4.heap.size (scell (ldF a t x n5) (.slice r6 (ldF a t x n5).l.length c6)) (by rfl) (by rfl) 24 (scell t (.slice r t.l.length c)) HB6.out size24 rfl (by simp [scell, Value.oneCell']) ?_
                      refine hK.out _ _ (fun q u hqq => (Keeps.setRow (X := fun q => q = w4.heap.size) (Keeps.refl _ _) _ _ (Or.inr rfl)).cell (hS q u hqq) (show ¬ bx = w4.heap.size by omega)) (fun hS => ?_)
                      clear hK
                      try simp only [Act.put, List.setIfInBounds_toArray]
                      refine wpAnyH_done (by kernel_rfl) ?_ _
                      go_wp2
                      go_roundw
                      case rel => exact ⟨j + 1, ldF a t x n5, r6, c6, by omega, by go_num, setRow_heap _ _ _ _ _ _ HB6.out, own_keep H6.out.1 (Keeps.setRow (X := fun q => q = w4.heap.size) (Keeps.refl _ _) _ _ (Or.inr rfl)) (row_ne HB6.out H6.out.1), ((HI.out.2.2.1.trans (HNK.out.mono (fun _ _ h => h.elim))).trans (H6.out.2.mono (fun _ _ h => Nat.le_of_succ_le h))).setRow _ _ (Or.inr (Nat.le_refl _)), by rw [HI.out.2.2.2.1, HDR.out, HNW.out.1, if_pos rfl, HNW.out.2], by have h7 := ldF_len a t x n5; have h8 : t.l.length ≤ j := HI.out.2.2.2.2; omega⟩
                      case measure => simp [intOf]; omega

              · have h1' : ¬ (j : Int) < (xs.length : Int) := by omega
                have HFIN : Hid (stF k.args 0 (st0 k.num) xs = some t) := by show _ = _; rw [HI.out.2.2.2.1, List.drop_of_length_le (by omega)]; rfl
                have HE := Hid.mk' (show lnE s.data.toList = 0 by rw [HE0.out, HFIN.out]; rfl)
                have HSS := Hid.mk' (show lnS s.data.toList = t by rw [HS0.out, HFIN.out]; rfl)
                have HKK := Hid.mk' ((HW5.out.mono (fun _ _ h => h.elim)).trans HI.out.2.2.1)
                have HGr := Hid.mk' (HKK.out.at HG.out (show ¬ w4.heap.size ≤ w.heap.size by have := heap_lt HG.out; omega))
                have hWl : w.heap.size < w4.heap.size := heap_lt HG.out
                go_wp2_with (first
                  | (clear S6; refine wpList_load_row rfl 24 (.tmp 9) rfl w4.heap.size (by rfl) 24 (scell t (.slice r t.l.length c)) (0, 0) _ HI.out.1 Tryd.underlying24 rfl size24 ?_; have S7 := Hid.mk' True.intro)
                  | (clear S7; refine wpList_store_row rfl 24 (.tmp 2) _ rfl w.heap.size (scell t (.slice r t.l.length c)) (by rfl) (by rfl) 24 #[.int .i64 0, .string ⟨#[]⟩, .string ⟨#[]⟩, .int .i64 0, .int .i64 0, .int .i64 0, .slice none 0 0] HGr.out size24 rfl (by simp [scell, Value.oneCell']) ?_; have S8 := Hid.mk' True.intro))
                exact bodyPost_ret (results_cell_slot rfl _ _ w.heap.size 24 (scell t (.slice r t.l.length c)) (0, 0) _ rfl (setRow_heap _ _ _ _ _ _ HGr.out) Tryd.underlying24 rfl size24) rfl ⟨.slice r t.l.length c, by rw [HE.out, HSS.out]; rfl, by rw [HSS.out]; exact ⟨own_base (own_keep HI.out.2.1 (Keeps.setRow (X := fun q => q = w.heap.size) (Keeps.refl _ wr) _ _ (Or.inr rfl)) (row_ne HGr.out HI.out.2.1)) (by omega), (HKall.out.trans (HKK.out.mono (fun q hq h => absurd hq (Nat.not_lt.2 h)))).setRow _ _ (Or.inl (Nat.le_refl _))⟩⟩
end Go.Proofs.YtngoifbflpeapabDoor

namespace Go.Proofs.YtngoifbflpeapabDoor
open Go.RowKit Go.Maps
set_option maxRecDepth 100000

/-! P19.3: Line of any text is the document's. -/
set_option maxHeartbeats 8000000 in
theorem lines_walk (w : World) (hv : Vars w) (kv : KV w) (s : ByteArray) :
    Calls Tryd.prog 6 #[.string s] w fun e w' => e = .returned (.bool true) ∧ Keeps (fun _ => False) w w' := by
  have HV := Hid.mk' hv
  have HKV := Hid.mk' kv
  clear hv kv
  have hl1 := fun W h => line_any W h s
  have hl2 := fun W h => rline_any W h s
  have HLN : Hid ((lnS s.data.toList).l.length ≤ 20000) := lnS_len _
  have HS : Hid (smF (lnS s.data.toList) (lnS s.data.toList) = true) := smF_refl _
  generalize lnS s.data.toList = ct at *
  generalize lnE s.data.toList = ce at *
  by_cases hL : 100000 < s.size
  · have hL' : (100000 : Int) < (s.size : Int) := by omega
    go_enter Tryd.func6, Tryd.ntmps6
    go_wp2
    go_ret
    exact ⟨rfl, Keeps.refl _ _⟩
  have hL' : ¬ (100000 : Int) < (s.size : Int) := by omega
  go_enter Tryd.func6, Tryd.ntmps6
  have S0 := Hid.mk' True.intro
  go_wp2_with (first
    | (clear S0; go_at_call 8; refine (hl1 _ HV.out).mono ?_; clear hl1; rintro e w3 ⟨v3, rfl, h3⟩; obtain ⟨p3, c3, hv3, _, _⟩ := id (Row.of_own h3.out.1); subst hv3; have H3 := Hid.mk' h3.out; clear h3; have S6 := Hid.mk' True.intro)
    | (clear S6; refine wpList_alloc_st rfl rfl ?_; have S7 := Hid.mk' True.intro)
    | (clear S7; refine wpList_store_st rfl _ _ rfl ct p3 ct.l.length c3 (by rfl) (by rfl) ?_; have HKB := Hid.mk' ((Keeps.refl (fun _ => False) w3).alloc (.cells (scell ct (.slice p3 ct.l.length c3)) 24)); have HBB := Hid.mk' (heap_last w3 (.cells (scell ct (.slice p3 ct.l.length c3)) 24)); have S8 := Hid.mk' True.intro)
    | (clear S8; go_at_call 12; refine (hl2 _ (HKV.out.keep (H3.out.2.trans HKB.out))).mono ?_; clear hl2; rintro e w4 ⟨v4, rfl, h4⟩; obtain ⟨p4, c4, hv4, _, _⟩ := id (Row.of_own h4.out.1); subst hv4; have H4 := Hid.mk' h4.out; clear h4; have HB4 := Hid.mk' (H4.out.2.at HBB.out id); have HR4 := Hid.mk' (((Row.of_own H3.out.1).keep HKB.out).keep H4.out.2); have S9 := Hid.mk' True.intro)
    | (clear S9; refine wpList_alloc_st rfl rfl ?_; have SA := Hid.mk' True.intro)
    | (clear SA; refine wpList_store_st rfl _ _ rfl ct p4 ct.l.length c4 (by rfl) (by rfl) ?_; have HKC := Hid.mk' ((Keeps.refl (fun _ => False) w4).alloc (.cells (scell ct (.slice p4 ct.l.length c4)) 24)); have HBC := Hid.mk' (heap_last w4 (.cells (scell ct (.slice p4 ct.l.length c4)) 24)); have HB5 := Hid.mk' (HKC.out.at HB4.out id); have b0 := (H4.out.2.trans HKC.out).cell (new_cell w3 (scell ct (.slice p3 ct.l.length c3)) 24 0 (.int .i64 ct.kind) rfl) id; have b1 := (H4.out.2.trans HKC.out).cell (new_cell w3 (scell ct (.slice p3 ct.l.length c3)) 24 1 (.string ct.a) rfl) id; have b2 := (H4.out.2.trans HKC.out).cell (new_cell w3 (scell ct (.slice p3 ct.l.length c3)) 24 2 (.string ct.b) rfl) id; have b3 := (H4.out.2.trans HKC.out).cell (new_cell w3 (scell ct (.slice p3 ct.l.length c3)) 24 3 (.int .i64 ct.n) rfl) id; have b4 := (H4.out.2.trans HKC.out).cell (new_cell w3 (scell ct (.slice p3 ct.l.length c3)) 24 4 (.int .i64 ct.m) rfl) id; have b5 := (H4.out.2.trans HKC.out).cell (new_cell w3 (scell ct (.slice p3 ct.l.length c3)) 24 5 (.int .i64 ct.k) rfl) id; have b6 := (H4.out.2.trans HKC.out).cell (new_cell w3 (scell ct (.slice p3 ct.l.length c3)) 24 6 (.slice p3 ct.l.length c3) rfl) id; have d0 := (Keeps.refl (fun _ => False) _).cell (new_cell w4 (scell ct (.slice p4 ct.l.length c4)) 24 0 (.int .i64 ct.kind) rfl) id; have d1 := (Keeps.refl (fun _ => False) _).cell (new_cell w4 (scell ct (.slice p4 ct.l.length c4)) 24 1 (.string ct.a) rfl) id; have d2 := (Keeps.refl (fun _ => False) _).cell (new_cell w4 (scell ct (.slice p4 ct.l.length c4)) 24 2 (.string ct.b) rfl) id; have d3 := (Keeps.refl (fun _ => False) _).cell (new_cell w4 (scell ct (.slice p4 ct.l.length c4)) 24 3 (.int .i64 ct.n) rfl) id; have d4 := (Keeps.refl (fun _ => False) _).cell (new_cell w4 (scell ct (.slice p4 ct.l.length c4)) 24 4 (.int .i64 ct.m) rfl) id; have d5 := (Keeps.refl (fun _ => False) _).cell (new_cell w4 (scell ct (.slice p4 ct.l.length c4)) 24 5 (.int .i64 ct.k) rfl) id; have d6 := (Keeps.refl (fun _ => False) _).cell (new_cell w4 (scell ct (.slice p4 ct.l.length c4)) 24 6 (.slice p4 ct.l.length c4) rfl) id; have SB := Hid.mk' True.intro)
    | (clear SB; go_at_call 9; refine (lsame_any _ ct ct _ _ ((Row.of_own H3.out.1).keep (HKB.out.trans (H4.out.2.trans HKC.out))) ((Row.of_own H4.out.1).keep HKC.out) (by have h : ct.l.length ≤ 20000 := HLN.out; omega)).mono ?_; rintro e w5 ⟨rfl, hk5⟩; have HK5 := Hid.mk' hk5; clear hk5; rw [HS.out]; have SC := Hid.mk' True.intro))
  go_ret
  exact ⟨rfl, (H3.out.2.trans (HKB.out.trans (H4.out.2.trans HKC.out))).trans HK5.out⟩
end Go.Proofs.YtngoifbflpeapabDoor

namespace Go.Proofs.YtngoifbflpeapabDoor
open Go.ChangeShapes Go.WideShapes Go.ChangeAt Go.RowKit Go.Deep Go.Joins

/-! The document's table out of a row's list. -/
theorem trod_arr {H : Type} {enc : TypeId × Value → H} {P : Program} {w : World} {base : Nat} {sp : Nat → Bool} {held : Bool} {fuel : Nat} {t e : TypeId} {n c : Nat} {cs : List Value} {ds : List (DataW H)} {p : List MemPlace}
    (ht : P.underlying t = some (.array n e)) (hce : P.cellsOf e = c) (h : DataW.trod enc P w base sp held fuel t cs = some (.agg ds, p)) :
    ∃ m, ∀ (i : Nat) (d : DataW H), ds[i]? = some d → ∃ q, DataW.trod enc P w base sp held m e ((cs.drop (i * c)).take c) = some (d, q) := by
  cases fuel with
  | zero => simp [DataW.trod] at h
  | succ fuel =>
    simp only [DataW.trod, ht, hce] at h
    split at h
    · rename_i hl
      obtain ⟨xs, hm, hx⟩ := Option.map_eq_some_iff.1 h
      have hxs : xs.map (·.1) = ds := by
        have := congrArg Prod.fst hx
        simpa using this
      refine ⟨fuel, fun i d hd => ?_⟩
      have hxl : xs.length = n := by simpa using Lib.mapM_length hm
      have hi : i < n := by
        have h1 := (List.getElem?_eq_some_iff.1 hd).1
        rw [← hxs, List.length_map] at h1
        omega
      obtain ⟨b, hb, hf⟩ := Lib.mapM_at hm i i (by simp [hi])
      have h2 : (xs.map (·.1))[i]? = some b.1 := by simp [hb]
      rw [hxs, hd] at h2
      cases h2
      exact ⟨b.2, hf⟩
    · cases h
theorem kds_laid : (Rows.laid_furrow_furrowref19_kinds : DataW Unit) = .agg (.agg [.lit (.string []), .lit (.string [])] :: kds.map fun k => .agg [.lit (.string k.word.data.toList), .lit (.string (lets k.args).data.toList)]) := by rfl
theorem Tryd.gKds : Tryd.prog.globalNamed "furrow/furrowref19.kinds" = some 0 := by kernel_rfl
theorem Tryd.gKdsT : (Tryd.prog.globals[0]?).map (·.type) = some 85 := by kernel_rfl
theorem str_of {s : ByteArray} {l : List UInt8} (h : l = s.data.toList) (t : ByteArray) (e : t.data.toList = l) : s = t := by
  have : s.data = t.data := Array.ext' (by rw [e, h])
  cases s; cases t; cases this; rfl
theorem kv_of {W : World} {r : List (String × DataW Unit)} (h : laidMet Tryd.prog (("furrow/furrowref19.kinds", Rows.laid_furrow_furrowref19_kinds) :: r) W) : KV W := by
  obtain ⟨ps, ⟨g0, t0, cs0, f0, p0, q0, hg0, ht0, hv0, hd0, _, e0⟩, _⟩ := h
  obtain rfl := Option.some.inj (Tryd.gKds.symm.trans hg0)
  obtain rfl := Option.some.inj (Tryd.gKdsT.symm.trans ht0)
  rw [kds_laid] at hd0
  obtain ⟨m, hrow⟩ := trod_arr Tryd.underlying85 (c := 2) (by kernel_rfl) hd0
  intro i k hk
  obtain ⟨q, h1⟩ := hrow (i + 1) _ (by rw [List.getElem?_cons_succ, List.getElem?_map, hk]; rfl)
  obtain ⟨m2, h2⟩ := trod_arr Tryd.underlying84 (c := 1) (by kernel_rfl) h1
  obtain ⟨q3, h3⟩ := h2 0 _ rfl
  obtain ⟨q4, h4⟩ := h2 1 _ rfl
  obtain ⟨s3, e3, x3, _⟩ := DataW.trod_string Tryd.underlying9 h3
  obtain ⟨s4, e4, x4, _⟩ := DataW.trod_string Tryd.underlying9 h4
  have d3 : k.word.data.toList = s3.data.toList := by injection x3 with x3 _; injection x3 with x3; injection x3
  have d4 : (lets k.args).data.toList = s4.data.toList := by injection x4 with x4 _; injection x4 with x4; injection x4
  obtain rfl : s3 = k.word := str_of d3 _ rfl
  obtain rfl : s4 = lets k.args := str_of d4 _ rfl
  have c3 := congrArg (·[0]?) e3
  have c4 := congrArg (·[0]?) e4
  simp [List.getElem?_drop] at c3 c4
  refine ⟨?_, ?_⟩
  · have := World.var?_cell hg0 hv0 ((i + 1) * 2)
    simpa [c3] using this
  · have := World.var?_cell hg0 hv0 ((i + 1) * 2 + 1)
    simpa [c4] using this
end Go.Proofs.YtngoifbflpeapabDoor
