import Derived.Test.YtendmohjodeelabD2
namespace Go.Proofs.Ytendmohjodeelab
open Go.RowKit Go.Maps Go.Great

section
variable {W w : World} {x bm y by_ : Nat} {S T : List Rw} {base : Nat} {vb : Value} {L : List De}
theorem CS.drewN (h : CS W w x bm y by_ S T base vb L) (m : Nat) : CS W (w.drewN m) x bm y by_ S T base vb L := h.grown (Keeps.drewN (fun _ => False) w m)
theorem cs_list0 (h : Hid (CS W w x bm y by_ S T base vb L)) (d : Int) (hM : lstS S d = []) :
    Calls Try.prog 12 #[.pointer (some ⟨x, 0, none⟩), .int .i64 d] w fun e w' => ∃ p c, e = .returned (.slice p 0 c) ∧ Hid (CS W w' x bm y by_ S T base vb L) :=
  (cs_list h d [] hM).mono fun _ _ ⟨p, c, he, h1, _⟩ => ⟨p, c, he, h1⟩
end

set_option maxHeartbeats 4000000 in
set_option maxRecDepth 100000 in
theorem clears_walk (w : World) (p : Option Addr) (cap : Nat) (l : List OpT) (hp : OpIn w p l) (hn : l.length < 3000000000000) (dir : Int) :
    Calls Try.prog 3 #[.slice p l.length cap, .int .i64 dir] w fun e w' => e = .returned (.bool true) ∧ Keeps (fun _ => False) w w' := by
  have h8 := ks_filled w p cap l hp (by omega)
  have ho := fillS_ok l
  have hlen := fillS_len l
  obtain ⟨d, hd⟩ : ∃ d, d = inoF dir := ⟨_, rfl⟩
  have h10a : ∀ W, Calls Try.prog 10 #[.int .i64 dir] W fun e w' => e = .returned (.int .i64 d) ∧ w' = W := fun W => by rw [hd]; exact ino_any dir W
  have hdb : 1 ≤ d ∧ d ≤ 256 := by rw [hd]; exact inoF_bd _
  have hwf : (Lit.int .i64 d).wf = true := wf64 (by omega) (by omega)
  clear hd
  generalize fillS l = S at *
  obtain ⟨L, hL⟩ : ∃ L, L = lstS S d := ⟨_, rfl⟩
  have HO : Hid (Rise S ∧ (∀ r ∈ S, OkR r) ∧ S.length < 3000000000000) := ⟨ho.1, ho.2, by omega⟩
  have hLl : L.length < 3000000000000 := by rw [hL, lst_len]; have := filt_le S (inDir d); omega
  have HL : Hid (lstS S d = L) := hL.symm
  have HN : Hid (((S.filter (inDir d)).length : Int) = (L.length : Int)) := by rw [hL, lst_len]; exact rfl
  have HZ : Hid ((((clrS S d).filter (inDir d)).length : Int) = 0) := by rw [clr_dir]; exact rfl
  clear ho hlen hL hp hn
  go_enter Try.func3, Try.ntmps3
  go_wp2_with (first
    | (go_at_call 15; refine (cs_leny H10 d _ HN.out).mono ?_; rintro e w11 ⟨rfl, H11⟩; clear H10)
    | (go_at_call 14; refine (cs_clear H9 d 0 (clrS S d) HZ.out (clr_clr S d)).mono ?_; rintro e w10 ⟨rfl, H10⟩; clear H9)
    | (go_at_call 12; refine (cs_list0 H8 d (clr_lst S d)).mono ?_; rintro e w9 ⟨p9, c9, rfl, H9⟩; clear H8)
    | (go_at_call 15; refine (cs_len H7 d 0 HZ.out).mono ?_; rintro e w8 ⟨rfl, H8⟩; clear H7)
    | (go_at_call 14; refine (cs_clear H6 d _ (clrS S d) HN.out rfl).mono ?_; rintro e w7 ⟨rfl, H7⟩; clear H6)
    | (go_at_call 13; refine (cs_copy H5).mono ?_; rintro e w6 ⟨y, by_, rfl, H6⟩; clear H5)
    | (go_at_call 11; refine (ks_copy H4 R4 (by omega)).mono ?_; rintro e w5 ⟨vb, rfl, H5⟩; obtain ⟨pb, cb, rfl⟩ := H5.out.row.dsl.shape; clear H4 R4)
    | (go_at_call 12; refine (ks_list H2 d L HL.out).mono ?_; rintro e w4 ⟨v4, rfl, H4, R4⟩; clear H2)
    | (go_at_call 10; refine (h10a _).mono ?_; rintro e w0 ⟨rfl, hw0⟩; subst w0; clear h10a)
    | (go_at_call 9; refine (ks_first H1).mono ?_; rintro e w2 ⟨rfl, H2⟩; clear H1)
    | (go_at_call 8; refine h8.mono ?_; rintro e w1 ⟨rfl, H1⟩; clear h8))
  have hpl : ∀ k : Int, Hid (((clrS S d).filter (toIno k)).length + (L.filter (isIn k)).length = (S.filter (toIno k)).length) := fun k => by have := clr_links S d k; rw [HL.out] at this; exact this
  have hfl : ∀ k : Int, (S.filter (toIno k)).length < 3000000000000 := fun k => by have := filt_le S (toIno k); have := HO.out.2.2; omega
  go_loopw [10] (fun c wr => ∃ k : Nat, 1 ≤ k ∧ k ≤ 257 ∧ c = .int .i64 k ∧ Hid (CS w wr (w.heap.size + 1) w.heap.size y by_ (clrS S d) S w4.heap.size (.slice pb L.length cb) L)) (fun c _ => 257 - (intOf c).toNat)
  case atStart => exact ⟨1, by omega, by omega, rfl, H11⟩
  case round =>
    clear H11
    obtain ⟨k, hk1, hk2, rfl, HR⟩ := hrel
    by_cases hlt : k ≤ 256
    · have hkl : (k : Int) ≤ 256 := by omega
      obtain ⟨a, ha⟩ : ∃ a : Nat, ((clrS S d).filter (toIno k)).length = a := ⟨_, rfl⟩
      have HA : Hid ((((clrS S d).filter (toIno k)).length : Int) = (a : Int)) := by rw [ha]; exact rfl
      have HB : Hid (((S.filter (toIno k)).length : Int) = (a : Int) + ((L.filter (isIn k)).length : Int)) := by have := (hpl k).out; rw [ha] at this; show _ = _; omega
      have hab : a + (L.filter (isIn k)).length < 3000000000000 := by have := (hpl k).out; have := hfl k; omega
      clear ha
      by_cases hkd : (k : Int) = d
      · subst hkd
        go_wp2
        have HR0 := HR
        clear HR
        go_loopw [11, 12] (fun o c wr2 => ∃ i n : Nat, i ≤ L.length ∧ c = .int .i64 i ∧ o = .int .i64 n ∧ Hid (n = ((L.take i).filter (isIn k)).length) ∧ Hid (CS w wr2 (w.heap.size + 1) w.heap.size y by_ (clrS S k) S w4.heap.size (.slice pb L.length cb) L)) (fun _ c _ => L.length - (intOf c).toNat)
        case atStart => exact ⟨0, 0, by omega, rfl, rfl, Hid.mk' rfl, HR0⟩
        case round =>
          clear HR0
          obtain ⟨i, n, hi, rfl, rfl, HCN, HR⟩ := hrel
          have hcl : n ≤ L.length := by have := cnt_le k L i; have := HCN.out; omega
          by_cases hil : i < L.length
          · have hil2 : (i : Int) < (L.length : Int) := by omega
            obtain ⟨g, o, cap2, e, c0, c1⟩ := HR.out.two hil rfl
            cases e
            have hcs := cnt_step k hil
            obtain ⟨q, hq⟩ : ∃ q, L.getD i dz = q := ⟨_, rfl⟩
            rw [hq] at c0 c1 hcs
            clear hq
            by_cases hqk : q.2 = (k : Int)
            · have hq1 : (q.2 == (k : Int)) = true := by simpa using hqk
              rw [if_pos hqk] at hcs
              have HC : Hid (n + 1 = ((L.take (i + 1)).filter (isIn k)).length) := by have := HCN.out; show _ = _; omega
              clear hcs
              go_wp2
              go_roundw
              case rel => exact ⟨i + 1, n + 1, by omega, by go_num, by go_num, HC, HR⟩
              case measure => simp [intOf]; omega
            · have hq1 : (q.2 == (k : Int)) = false := by simpa using hqk
              rw [if_neg hqk] at hcs
              have HC : Hid (n = ((L.take (i + 1)).filter (isIn k)).length) := by have := HCN.out; show _ = _; omega
              clear hcs
              go_wp2
              go_roundw
              case rel => exact ⟨i + 1, n, by omega, by go_num, rfl, HC, HR⟩
              case measure => simp [intOf]; omega
          · have hil2 : ¬ (i : Int) < (L.length : Int) := by omega
            have hie : (L.filter (isIn k)).length = n := by have := HCN.out; rw [List.take_of_length_le (by omega)] at this; omega
            rw [hie] at HB hab
            clear hie HCN
            go_wp2_with (first
              | (go_at_call 17; refine (cs_linksy H31 k _ HB.out).mono ?_; rintro e w32 ⟨rfl, H32⟩; clear H31)
              | (go_at_call 17; refine (cs_links HR k _ HA.out).mono ?_; rintro e w31 ⟨rfl, H31⟩; clear HR))
            all_goals
              go_roundw
              case rel => exact ⟨k + 1, by omega, by omega, by go_num, H32⟩
              case measure => simp [intOf]; omega
      · have hkd1 : ((k : Int) == d) = false := by simpa using hkd
        have HM : Hid (lstS (clrS S d) k = lstS S k) := clr_oth S d k hkd
        obtain ⟨M, hM⟩ : ∃ M, lstS S k = M := ⟨_, rfl⟩
        have HM2 : Hid (lstS S k = M) := hM
        have HM1 : Hid (lstS (clrS S d) k = M) := HM.out.trans hM
        have hMl : M.length < 4000000000000 := by rw [← hM, lst_len]; have := filt_le S (inDir k); have := HO.out.2.2; omega
        clear hM HM
        go_wp2_with (first
          | (go_at_call 16; refine (cs_same H22 D21 D22 hMl true (by simp)).mono ?_; rintro e w23 ⟨rfl, HR⟩; clear H22 D21 D22)
          | (go_at_call 12; refine (cs_listy H21 k M HM2.out D21).mono ?_; clear D21; rintro e w22 ⟨p22, c22, rfl, H22, D22, D21⟩; clear H21)
          | (go_at_call 12; refine (cs_list HR k M HM1.out).mono ?_; rintro e w21 ⟨p21, c21, rfl, H21, D21⟩; clear HR))
        have HR0 := HR
        clear HR
        go_loopw [11, 12] (fun o c wr2 => ∃ i n : Nat, i ≤ L.length ∧ c = .int .i64 i ∧ o = .int .i64 n ∧ Hid (n = ((L.take i).filter (isIn k)).length) ∧ Hid (CS w wr2 (w.heap.size + 1) w.heap.size y by_ (clrS S d) S w4.heap.size (.slice pb L.length cb) L)) (fun _ c _ => L.length - (intOf c).toNat)
        case atStart => exact ⟨0, 0, by omega, rfl, rfl, Hid.mk' rfl, HR0⟩
        case round =>
          clear HR0
          obtain ⟨i, n, hi, rfl, rfl, HCN, HR⟩ := hrel
          have hcl : n ≤ L.length := by have := cnt_le k L i; have := HCN.out; omega
          by_cases hil : i < L.length
          · have hil2 : (i : Int) < (L.length : Int) := by omega
            obtain ⟨g, o, cap2, e, c0, c1⟩ := HR.out.two hil rfl
            cases e
            have hcs := cnt_step k hil
            obtain ⟨q, hq⟩ : ∃ q, L.getD i dz = q := ⟨_, rfl⟩
            rw [hq] at c0 c1 hcs
            clear hq
            by_cases hqk : q.2 = (k : Int)
            · have hq1 : (q.2 == (k : Int)) = true := by simpa using hqk
              rw [if_pos hqk] at hcs
              have HC : Hid (n + 1 = ((L.take (i + 1)).filter (isIn k)).length) := by have := HCN.out; show _ = _; omega
              clear hcs
              go_wp2
              go_roundw
              case rel => exact ⟨i + 1, n + 1, by omega, by go_num, by go_num, HC, HR⟩
              case measure => simp [intOf]; omega
            · have hq1 : (q.2 == (k : Int)) = false := by simpa using hqk
              rw [if_neg hqk] at hcs
              have HC : Hid (n = ((L.take (i + 1)).filter (isIn k)).length) := by have := HCN.out; show _ = _; omega
              clear hcs
              go_wp2
              go_roundw
              case rel => exact ⟨i + 1, n, by omega, by go_num, rfl, HC, HR⟩
              case measure => simp [intOf]; omega
          · have hil2 : ¬ (i : Int) < (L.length : Int) := by omega
            have hie : (L.filter (isIn k)).length = n := by have := HCN.out; rw [List.take_of_length_le (by omega)] at this; omega
            rw [hie] at HB hab
            clear hie HCN
            go_wp2_with (first
              | (go_at_call 17; refine (cs_linksy H31 k _ HB.out).mono ?_; rintro e w32 ⟨rfl, H32⟩; clear H31)
              | (go_at_call 17; refine (cs_links HR k _ HA.out).mono ?_; rintro e w31 ⟨rfl, H31⟩; clear HR))
            all_goals
              go_roundw
              case rel => exact ⟨k + 1, by omega, by omega, by go_num, H32⟩
              case measure => simp [intOf]; omega
    · have hkl : ¬ (k : Int) ≤ 256 := by omega
      have hkl2 : 256 < (k : Int) := by omega
      go_wp2
      have HR0 := HR
      clear HR
      go_loopw [13] (fun c wr3 => ∃ (i : Nat) (R : List Rw), i ≤ L.length ∧ c = .int .i64 i ∧ Hid (RP S d i R) ∧ Hid (CS w wr3 (w.heap.size + 1) w.heap.size y by_ R S w4.heap.size (.slice pb L.length cb) L)) (fun c _ => L.length - (intOf c).toNat)
      case atStart => exact ⟨0, _, by omega, rfl, Hid.mk' (rp_zero HO.out.1 d), HR0⟩
      case round =>
        clear HR0
        obtain ⟨i, R, hi, rfl, HP, HR⟩ := hrel
        have hRl : R.length < 3000000000000 := by have := rp_len HP.out; have := HO.out.2.2; omega
        by_cases hil : i < L.length
        · have hil2 : (i : Int) < (L.length : Int) := by omega
          obtain ⟨g, o, cap2, e, c0, c1⟩ := HR.out.two hil rfl
          cases e
          obtain ⟨q, hq⟩ : ∃ q, L.getD i dz = q := ⟨_, rfl⟩
          have HS : Hid (getS R d q.1 = 0 ∧ putE R d q.1 q.2 = 0 ∧ RP S d (i + 1) (putS R d q.1 q.2)) := by
            have h := @rp_step S R d i HO.out.1 HO.out.2.1 HP.out (by rw [HL.out]; exact hil) q (by rw [HL.out]; exact hq)
            exact h
          have HQ : Hid (L.getD i dz = q) := hq
          have hpl2 : (putS R d q.1 q.2).length < 4000000000000 := by have := putS_len R d q.1 q.2; omega
          rw [hq] at c0 c1
          have hcells : ∀ (R' : List Rw) (ww : World), CS w ww (w.heap.size + 1) w.heap.size y by_ R' S w4.heap.size (.slice (some ⟨g, o, none⟩) L.length cb) L → ww.cell? ⟨g, o + i * 2, none⟩ = some (.string q.1) ∧ ww.cell? ⟨g, o + i * 2 + 1, none⟩ = some (.int .i64 q.2) := by
            intro R' ww h
            obtain ⟨g', o', cap', e, d0, d1⟩ := h.two hil rfl
            cases e
            rw [hq] at d0 d1
            exact ⟨d0, d1⟩
          have h18 : ∀ ww, Hid (CS w ww (w.heap.size + 1) w.heap.size y by_ R S w4.heap.size (.slice (some ⟨g, o, none⟩) L.length cb) L) → Calls Try.prog 18 #[.pointer (some ⟨w.heap.size + 1, 0, none⟩), .int .i64 d, .string q.1] ww fun e w' => e = .returned (.int .i64 0) ∧ Hid (CS w w' (w.heap.size + 1) w.heap.size y by_ R S w4.heap.size (.slice (some ⟨g, o, none⟩) L.length cb) L) ∧ w'.cell? ⟨g, o + i * 2, none⟩ = some (.string q.1) ∧ w'.cell? ⟨g, o + i * 2 + 1, none⟩ = some (.int .i64 q.2) := by
            intro ww h
            refine (cs_get h d hwf q.1 0 HS.out.1).mono ?_
            rintro e w' ⟨rfl, h'⟩
            exact ⟨rfl, h', hcells _ _ h'.out⟩
          have h19 : ∀ ww, Hid (CS w ww (w.heap.size + 1) w.heap.size y by_ R S w4.heap.size (.slice (some ⟨g, o, none⟩) L.length cb) L) → Calls Try.prog 19 #[.pointer (some ⟨w.heap.size + 1, 0, none⟩), .int .i64 d, .string q.1, .int .i64 q.2] ww fun e w' => e = .returned (.int .i64 0) ∧ Hid (CS w w' (w.heap.size + 1) w.heap.size y by_ (putS R d q.1 q.2) S w4.heap.size (.slice (some ⟨g, o, none⟩) L.length cb) L) ∧ w'.cell? ⟨g, o + i * 2, none⟩ = some (.string q.1) ∧ w'.cell? ⟨g, o + i * 2 + 1, none⟩ = some (.int .i64 q.2) := by
            intro ww h
            refine (cs_put h d q.1 q.2 0 _ HS.out.2.1 rfl hpl2).mono ?_
            rintro e w' ⟨rfl, h'⟩
            exact ⟨rfl, h', hcells _ _ h'.out⟩
          clear hq hcells
          go_wp2
          go_region_held3 (fun wx => wx.cell? ⟨g, o + i * 2, none⟩ = some (.string q.1) ∧ wx.cell? ⟨g, o + i * 2 + 1, none⟩ = some (.int .i64 q.2))
            (first | go_keep)
            (first
              | (go_at_call 18; (first | refine (h18 _ HR).mono ?_ | refine (h18 _ (Hid.mk' (HR.out.drewN _))).mono ?_); clear HR h18; rintro e w51 ⟨rfl, HR, x1, x2⟩)
              | (go_at_call 19; (first | refine (h19 _ HR).mono ?_ | refine (h19 _ (Hid.mk' (HR.out.drewN _))).mono ?_); clear HR h19; rintro e w52 ⟨rfl, HR, x1, x2⟩))
          all_goals
            go_wp2
            go_roundw
            case rel => exact ⟨i + 1, _, by omega, by go_num, Hid.mk' HS.out.2.2, HR⟩
            case measure => simp [intOf]; omega
        · have hil2 : ¬ (i : Int) < (L.length : Int) := by omega
          have HE : Hid (lstS R d = L) := by
            have h : RP S d (lstS S d).length R := by rw [HL.out, show L.length = i by omega]; exact HP.out
            exact (rp_end HO.out.1 h).trans HL.out
          go_wp2_with (first
            | (go_at_call 16; refine (cs_samek H43 D43 (by omega) true (by simp)).mono ?_; rintro e w44 ⟨rfl, H44⟩; clear H43 D43)
            | (go_at_call 12; refine (cs_listy H42 d L HL.out (v1 := .slice none 0 0) (L1 := []) (Hid.mk' (DSl.of_row (World.ownsRow_nil _ _ _ _ : World.ownsRow _ w.heap.size 33 2 _ 0 []) rfl))).mono ?_; rintro e w43 ⟨p43, c43, rfl, H43, D43, D44⟩; clear H42 D44)
            | (go_at_call 16; refine (cs_samek H41 D41 (by omega) true (by simp)).mono ?_; rintro e w42 ⟨rfl, H42⟩; clear H41 D41)
            | (go_at_call 12; refine (cs_list HR d L HE.out).mono ?_; rintro e w41 ⟨p41, c41, rfl, H41, D41⟩; clear HR))
          all_goals
            go_ret
            exact ⟨ret_bool (by simp), H44.out.ks.keep⟩


end Go.Proofs.Ytendmohjodeelab
