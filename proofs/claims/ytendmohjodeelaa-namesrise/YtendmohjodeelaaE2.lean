import Derived.Test.YtendmohjodeelaaE1
namespace Go.Proofs.Ytendmohjodeelaa
open Go.RowKit Go.Maps Go.Great Go.Sort Go.Shelf

theorem ks_keepl {W w w' : World} {x bm : Nat} {S : List Rw} {base : Nat} {vb : Value} {L : List De} (h : Hid (KS W w x bm S base vb L)) {v : Value} {M : List De} (hv : Hid (RowD w' w.heap.size v M)) (k : Hid (KS W w' x bm S base vb L)) : KS W w' x bm S w.heap.size v M :=
  ⟨k.out.ix, hv.out, h.out.ix.lt, k.out.keep, k.out.new, k.out.few⟩
theorem ks_listk {W w : World} {x bm : Nat} {S : List Rw} {base : Nat} {vb : Value} {L : List De} (h : Hid (KS W w x bm S base vb L)) (d : Int) (M : List De) (hM : lstS S d = M) :
    Calls Try.prog 11 #[.pointer (some ⟨x, 0, none⟩), .int .i64 d] w fun e w' => ∃ p c, e = .returned (.slice p M.length c) ∧ Hid (KS W w' x bm S w.heap.size (.slice p M.length c) M) := by
  refine (ks_list h d M hM).mono ?_
  rintro e w' ⟨v, rfl, h1, h2⟩
  obtain ⟨p, c, rfl⟩ := h2.out.dsl.shape
  exact ⟨p, c, rfl, ks_keepl h h2 h1⟩
theorem KS.two {W w : World} {x bm : Nat} {S : List Rw} {base : Nat} {vb : Value} {L : List De} (h : KS W w x bm S base vb L) {i : Nat} (hi : i < L.length) {v : Value} (hv : vb = v) : ∃ g o cap, v = .slice (some ⟨g, o, none⟩) L.length cap ∧ w.cell? ⟨g, o + i * 2, none⟩ = some (.string (L.getD i dz).1) ∧ w.cell? ⟨g, o + i * 2 + 1, none⟩ = some (.int .i64 (L.getD i dz).2) := by
  subst hv
  obtain ⟨g, o, cap, e, _, hc⟩ := h.row.dsl.pos (by omega)
  exact ⟨g, o, cap, e, (hc i hi).1, (hc i hi).2⟩
theorem KS.drewN {W w : World} {x bm : Nat} {S : List Rw} {base : Nat} {vb : Value} {L : List De} (h : KS W w x bm S base vb L) (m : Nat) : KS W (w.drewN m) x bm S base vb L := h.grown (Keeps.drewN (fun _ => False) w m)

set_option maxHeartbeats 4000000 in
set_option maxRecDepth 100000 in
theorem rise_walk (w : World) (p : Option Addr) (cap : Nat) (l : List OpT) (hp : OpIn w p l) (hn : l.length < 3000000000000) :
    Calls Try.prog 4 #[.slice p l.length cap] w fun e w' => e = .returned (.bool true) ∧ Keeps (fun _ => False) w w' := by
  have h10 := ks_filled w p cap l hp (by omega)
  have ho := fillS_ok l
  have hlen := fillS_len l
  have HP : Hid (OpIn w p l) := hp
  obtain ⟨S, hS⟩ : ∃ S, fillS l = S := ⟨_, rfl⟩
  have HF : Hid (fillS l = S) := hS
  rw [hS] at h10 ho hlen
  have HO : Hid (Rise S ∧ (∀ r ∈ S, OkR r) ∧ S.length < 3000000000000) := ⟨ho.1, ho.2, by omega⟩
  have hdl : ∀ k : Int, (S.filter (inDir k)).length < 3000000000000 := fun k => by have := filt_le S (inDir k); omega
  have hil : ∀ k : Int, (S.filter (toIno k)).length < 3000000000000 := fun k => by have := filt_le S (toIno k); omega
  have hsl : ∀ k : Int, (S.filter (dirLt k)).length < 3000000000000 := fun k => by have := filt_le S (dirLt k); omega
  have hsi : ∀ k : Int, (S.filter (inoLt k)).length < 3000000000000 := fun k => by have := filt_le S (inoLt k); omega
  clear ho hlen hp hS
  go_enter Try.func4, Try.ntmps4
  go_wp2_with (first
    | (go_at_call 9; refine (ks_first H1).mono ?_; rintro e w2 ⟨rfl, H2⟩; clear H1)
    | (go_at_call 10; refine h10.mono ?_; rintro e w1 ⟨rfl, H1⟩; clear h10))
  go_loopw [4, 5, 6] (fun sv lv c wr => ∃ k sm lk : Nat, 1 ≤ k ∧ k ≤ 257 ∧ c = .int .i64 k ∧ sv = .int .i64 sm ∧ lv = .int .i64 lk ∧ Hid (sm = (S.filter (dirLt k)).length ∧ lk = (S.filter (inoLt k)).length) ∧ ∃ base vb L, Hid (KS w wr (w.heap.size + 1) w.heap.size S base vb L)) (fun _ _ c _ => 257 - (intOf c).toNat)
  case atStart => exact ⟨1, 0, 0, by omega, by omega, rfl, rfl, rfl, Hid.mk' ⟨(dir_start HO.out.2.1).symm, (ino_start HO.out.2.1).symm⟩, _, _, _, H2⟩
  case round =>
    clear H2
    obtain ⟨k, sm, lk, hk1, hk2, rfl, rfl, rfl, HC, base, vb, L, HR⟩ := hrel
    have hsm : sm < 3000000000000 := by have := HC.out.1; have := hsl k; omega
    have hlk : lk < 3000000000000 := by have := HC.out.2; have := hsi k; omega
    by_cases hlt : k ≤ 256
    · have hkl : (k : Int) ≤ 256 := by omega
      have hwf : (Lit.int .i64 (k : Int)).wf = true := wf64 (by omega) (by omega)
      obtain ⟨M, hM⟩ : ∃ M, lstS S k = M := ⟨_, rfl⟩
      have HM : Hid (lstS S k = M) := hM
      have hMl : M.length < 3000000000000 := by rw [← hM, lst_len]; exact hdl k
      have HN : Hid (((S.filter (inDir k)).length : Int) = (M.length : Int)) := by rw [← hM, lst_len]; exact rfl
      obtain ⟨a, ha⟩ : ∃ a : Nat, (S.filter (toIno k)).length = a := ⟨_, rfl⟩
      have HA : Hid (((S.filter (toIno k)).length : Int) = (a : Int)) := by rw [ha]; exact rfl
      have hal : a < 3000000000000 := by rw [← ha]; exact hil k
      have HC2 : Hid (sm + M.length = (S.filter (dirLt (k + 1 : Nat))).length ∧ lk + a = (S.filter (inoLt (k + 1 : Nat))).length) := by
        have h1 := dir_step S k
        have h2 := ino_step S k
        have h3 : (S.filter (inDir k)).length = M.length := by rw [← hM, lst_len]
        rw [← HC.out.1, h3] at h1
        rw [← HC.out.2, ha] at h2
        exact ⟨h1, h2⟩
      clear hM ha HC
      go_wp2_with (first
        | (go_at_call 12; refine (ks_len H11 k _ HN.out).mono ?_; rintro e w12 ⟨rfl, H12⟩; clear H11)
        | (go_at_call 11; refine (ks_listk HR k M HM.out).mono ?_; rintro e w11 ⟨pv, cv, rfl, H11⟩; clear HR))
      obtain ⟨bb, hbb⟩ : ∃ b, wr.heap.size = b := ⟨_, rfl⟩
      rw [hbb] at H12
      have HR0 := H12
      clear H12 hbb
      go_loopw [8] (fun c wr2 => ∃ i : Nat, i ≤ M.length ∧ c = .int .i64 i ∧ Hid (KS w wr2 (w.heap.size + 1) w.heap.size S bb (.slice pv M.length cv) M)) (fun c _ => M.length - (intOf c).toNat)
      case atStart => exact ⟨0, by omega, rfl, HR0⟩
      case round =>
        clear HR0
        obtain ⟨i, hi, rfl, HR⟩ := hrel
        by_cases hlt2 : i < M.length
        · have hlt3 : (i : Int) < (M.length : Int) := by omega
          obtain ⟨g, o, cap2, e, c0, c1⟩ := HR.out.two hlt2 rfl
          cases e
          obtain ⟨q, hq⟩ : ∃ q, M.getD i dz = q := ⟨_, rfl⟩
          have HE : Hid (getS S k q.1 = q.2 ∧ 1 ≤ q.2 ∧ q.2 ≤ 256) := @lst_entry S HO.out.1 HO.out.2.1 k i (by rw [HM.out]; exact hlt2) q (by rw [HM.out]; exact hq)
          rw [hq] at c0 c1
          have hq1 : ¬ q.2 < 1 := by have := HE.out.2.1; omega
          have hq2 : ¬ 256 < q.2 := by have := HE.out.2.2; omega
          have hq3 : decide (q.2 < 1) = false := decide_eq_false hq1
          have hq4 : decide (256 < q.2) = false := decide_eq_false hq2
          have hq5 : 1 ≤ q.2 := HE.out.2.1
          have hq6 : q.2 ≤ 256 := HE.out.2.2
          by_cases h0 : i = 0
          · subst h0
            have c0' : wr.cell? ⟨g, o, none⟩ = some (.string q.1) := by simpa using c0
            have c1' : wr.cell? ⟨g, o + 1, none⟩ = some (.int .i64 q.2) := by simpa using c1
            clear c0 c1
            go_wp2
            go_quiet (fail)
            have HRn : ∀ m, Hid (KS w (wr.drewN m) (w.heap.size + 1) w.heap.size S bb (.slice (some ⟨g, o, none⟩) M.length cv) M) := fun m => Hid.mk' (HR.out.drewN m)
            clear HR
            have hcells : ∀ ww : World, KS w ww (w.heap.size + 1) w.heap.size S bb (.slice (some ⟨g, o, none⟩) M.length cv) M → ww.cell? ⟨g, o, none⟩ = some (.string q.1) ∧ ww.cell? ⟨g, o + 1, none⟩ = some (.int .i64 q.2) := by
              intro ww h
              obtain ⟨g', o', cap', e, d0, d1⟩ := h.two hlt2 rfl
              cases e
              rw [hq] at d0 d1
              exact ⟨by simpa using d0, by simpa using d1⟩
            have h13 : ∀ ww, Hid (KS w ww (w.heap.size + 1) w.heap.size S bb (.slice (some ⟨g, o, none⟩) M.length cv) M) → Calls Try.prog 13 #[.pointer (some ⟨w.heap.size + 1, 0, none⟩), .int .i64 k, .string q.1] ww fun e w' => e = .returned (.int .i64 q.2) ∧ Hid (KS w w' (w.heap.size + 1) w.heap.size S bb (.slice (some ⟨g, o, none⟩) M.length cv) M) ∧ w'.cell? ⟨g, o, none⟩ = some (.string q.1) ∧ w'.cell? ⟨g, o + 1, none⟩ = some (.int .i64 q.2) := by
              intro ww h
              refine (ks_get h k hwf q.1 q.2 HE.out.1).mono ?_
              rintro e w' ⟨rfl, h'⟩
              exact ⟨rfl, h', hcells _ h'.out⟩
            clear hq hcells
            go_wp2
            go_region_held3 (fun wx => wx.cell? ⟨g, o, none⟩ = some (.string q.1) ∧ wx.cell? ⟨g, o + 1, none⟩ = some (.int .i64 q.2))
              (first | go_keep)
              (first
                | (go_at_call 13; refine (h13 _ (HRn _)).mono ?_; clear HRn h13; rintro e w51 ⟨rfl, HR, x1, x2⟩))
            all_goals
              go_wp2
              go_roundw
              case rel => exact ⟨1, by omega, by first | rfl | go_num, HR⟩
              case measure => simp [intOf]; omega
          · obtain ⟨j, hj⟩ : ∃ j, j + 1 = i := ⟨i - 1, by omega⟩
            obtain ⟨g', o', cap', e, c2, _⟩ := HR.out.two (show j < M.length by omega) rfl
            cases e
            obtain ⟨q', hq'⟩ : ∃ q', M.getD j dz = q' := ⟨_, rfl⟩
            have hlb : Op.bytesLess q'.1.toList q.1.toList = true := by
              have := @lst_rises S HO.out.1 k j (by rw [HM.out]; omega)
              rw [HM.out, hj, hq, hq'] at this
              rw [less_blt]; exact this
            rw [hq'] at c2
            have h01 : (0 : Int) < (i : Int) := by omega
            have h02 : decide (0 < i) = true := decide_eq_true (by omega)
            have h04 : decide ((0 : Int) < (i : Int)) = true := decide_eq_true h01
            have hwj : IntKind.i64.wrap ((i : Int) - 1) = (j : Int) := by rw [show (i : Int) - 1 = (j : Int) by omega]; exact i64_id (by omega) (by omega)
            have hj0 : (0 : Int) ≤ (j : Int) := by omega
            have hj1 : (j : Int) < (M.length : Int) := by omega
            have hj2 : (j : Int) ≤ (M.length : Int) := by omega
            have hi0 : (0 : Int) ≤ (i : Int) := by omega
            clear hq' h0
            go_wp2
            go_region_held3 (fun wx => wx.cell? ⟨g, o + i * 2, none⟩ = some (.string q.1) ∧ wx.cell? ⟨g, o + i * 2 + 1, none⟩ = some (.int .i64 q.2) ∧ wx.cell? ⟨g, o + j * 2, none⟩ = some (.string q'.1))
              (first | go_keep)
              (first | fail)
            have hcells : ∀ ww : World, KS w ww (w.heap.size + 1) w.heap.size S bb (.slice (some ⟨g, o, none⟩) M.length cv) M → ww.cell? ⟨g, o + i * 2, none⟩ = some (.string q.1) ∧ ww.cell? ⟨g, o + i * 2 + 1, none⟩ = some (.int .i64 q.2) := by
              intro ww h
              obtain ⟨g', o', cap', e, d0, d1⟩ := h.two hlt2 rfl
              cases e
              rw [hq] at d0 d1
              exact ⟨d0, d1⟩
            have h13 : ∀ ww, Hid (KS w ww (w.heap.size + 1) w.heap.size S bb (.slice (some ⟨g, o, none⟩) M.length cv) M) → Calls Try.prog 13 #[.pointer (some ⟨w.heap.size + 1, 0, none⟩), .int .i64 k, .string q.1] ww fun e w' => e = .returned (.int .i64 q.2) ∧ Hid (KS w w' (w.heap.size + 1) w.heap.size S bb (.slice (some ⟨g, o, none⟩) M.length cv) M) ∧ w'.cell? ⟨g, o + i * 2, none⟩ = some (.string q.1) ∧ w'.cell? ⟨g, o + i * 2 + 1, none⟩ = some (.int .i64 q.2) := by
              intro ww h
              refine (ks_get h k hwf q.1 q.2 HE.out.1).mono ?_
              rintro e w' ⟨rfl, h'⟩
              exact ⟨rfl, h', hcells _ h'.out⟩
            clear hq hcells
            go_wp2
            go_region_held3 (fun wx => wx.cell? ⟨g, o + i * 2, none⟩ = some (.string q.1) ∧ wx.cell? ⟨g, o + i * 2 + 1, none⟩ = some (.int .i64 q.2))
              (first | go_keep)
              (first
                | (go_at_call 13; (first | refine (h13 _ HR).mono ?_ | refine (h13 _ (Hid.mk' (HR.out.drewN _))).mono ?_ | refine (h13 _ (Hid.mk' ((HR.out.drewN _).drewN _))).mono ?_); clear HR h13; rintro e w51 ⟨rfl, HR, x1, x2⟩))
            all_goals
              go_wp2
              go_roundw
              case rel => exact ⟨i + 1, by omega, by go_num, HR⟩
              case measure => simp [intOf]; omega
        · have hlt3 : ¬ (i : Int) < (M.length : Int) := by omega
          go_wp2_with (first
            | (go_at_call 14; refine (ks_links HR k _ HA.out).mono ?_; rintro e w21 ⟨rfl, H21⟩; clear HR))
          all_goals
            go_roundw
            case rel => exact ⟨k + 1, sm + M.length, lk + a, by omega, by omega, by go_num, by go_num, by go_num, HC2, _, _, _, H21⟩
            case measure => simp [intOf]; omega
    · have hkl : ¬ (k : Int) ≤ 256 := by omega
      have hkl2 : 256 < (k : Int) := by omega
      obtain rfl : sm = S.length := by have := HC.out.1; rw [show (k : Int) = 257 by omega, dir_end HO.out.2.1] at this; exact this
      obtain rfl : lk = S.length := by have := HC.out.2; rw [show (k : Int) = 257 by omega, ino_end HO.out.2.1] at this; exact this
      clear HC
      go_wp2
      go_loopw [9, 10] (fun mv iv wr => ∃ i n : Nat, i ≤ l.length ∧ n ≤ l.length ∧ iv = .int .i64 i ∧ mv = .int .i64 n ∧ Hid (n = (fillS (l.take i)).length) ∧ ∃ base vb L, Hid (KS w wr (w.heap.size + 1) w.heap.size S base vb L)) (fun _ iv _ => l.length - (intOf iv).toNat)
      case atStart => exact ⟨0, 0, by omega, by omega, rfl, rfl, Hid.mk' (by simp [fillS]), _, _, _, HR⟩
      case round =>
        clear HR
        obtain ⟨i, n, hi, hnl, rfl, rfl, HC, base, vb, L, HR⟩ := hrel
        by_cases h1 : i < l.length
        · have h1' : (i : Int) < (l.length : Int) := by omega
          obtain ⟨b, o, rfl, hb, hc⟩ := HP.out (by omega)
          have c4 := HR.out.keep.cell (hc i h1 4 _ rfl) (fun h => h)
          have HCC : Hid (∀ i, i < l.length → ∀ j u, (opCells (l.getD i opZ))[j]? = some u → w.cell? ⟨b, o + i * 6 + j, none⟩ = some u) := hc
          clear hc
          obtain ⟨t, ht⟩ : ∃ t, l.getD i opZ = t := ⟨_, rfl⟩
          have HT : Hid (l.getD i opZ = t) := ht
          rw [ht] at c4
          have h15 := good_any t.s
          cases hv : valid t.s with
          | false =>
            rw [hv] at h15
            have HC2 : Hid (n = (fillS (l.take (i + 1))).length) := Hid.mk' (by rw [fill_again h1 ht (Or.inl hv)]; exact HC.out)
            clear HC ht hv
            go_wp2_with (first
              | (go_at_call 15; refine (h15 _).mono ?_; rintro e w0 ⟨rfl, hw0⟩; subst w0; clear h15))
            all_goals
              go_roundw
              case rel => exact ⟨i + 1, n, by omega, by omega, by go_num, rfl, HC2, _, _, _, HR⟩
              case measure => simp [intOf]; omega
          | true =>
            rw [hv] at h15
            have HV : Hid (valid t.s = true) := hv
            clear ht hv
            go_wp2_with (first
              | (go_at_call 15; refine (h15 _).mono ?_; rintro e w0 ⟨rfl, hw0⟩; subst w0; clear h15))
            go_loopw [11, 12] (fun av kv wr2 => ∃ k : Nat, ∃ bb : Bool, k ≤ i ∧ kv = .int .i64 k ∧ av = .bool bb ∧ Hid (bb = (l.take k).any (sameK t)) ∧ Hid (KS w wr2 (w.heap.size + 1) w.heap.size S base vb L)) (fun _ kv _ => i - (intOf kv).toNat)
            case atStart => exact ⟨0, false, by omega, rfl, rfl, Hid.mk' rfl, HR⟩
            case round =>
              clear HR c4
              obtain ⟨k, bb, hk, rfl, rfl, HB, HR⟩ := hrel
              by_cases h2 : k < i
              · have h2' : (k : Int) < (i : Int) := by omega
                have h3' : (k : Int) < (l.length : Int) := by omega
                have hk0 : (0 : Int) ≤ (k : Int) := by omega
                have hi0 : (0 : Int) ≤ (i : Int) := by omega
                have hkl : k < l.length := by omega
                have d3 := HR.out.keep.cell (HCC.out k (by omega) 3 _ rfl) (fun h => h)
                have d4 := HR.out.keep.cell (HCC.out k (by omega) 4 _ rfl) (fun h => h)
                have e3 := HR.out.keep.cell (HCC.out i h1 3 _ rfl) (fun h => h)
                have e4 := HR.out.keep.cell (HCC.out i h1 4 _ rfl) (fun h => h)
                obtain ⟨u, hu⟩ : ∃ u, l.getD k opZ = u := ⟨_, rfl⟩
                rw [hu] at d3 d4
                rw [HT.out] at e3 e4
                have HB2 : Hid ((l.take (k + 1)).any (sameK t) = (bb || sameK t u)) := Hid.mk' (by rw [take_getD opZ hkl, List.any_append, hu, HB.out]; simp)
                clear HB hu
                obtain ⟨us, hus⟩ : ∃ us, u.s = us := ⟨_, rfl⟩
                obtain ⟨ts, hts⟩ : ∃ ts, t.s = ts := ⟨_, rfl⟩
                obtain ⟨ud, hud⟩ : ∃ ud, u.d = ud := ⟨_, rfl⟩
                obtain ⟨td, htd⟩ : ∃ td, t.d = td := ⟨_, rfl⟩
                have HK : Hid (sameK t u = (decide (us = ts) && decide (inoF ud = inoF td))) := Hid.mk' (by rw [← hus, ← hts, ← hud, ← htd]; rfl)
                rw [hus] at d4
                rw [hud] at d3
                rw [hts] at e4
                rw [htd] at e3
                clear hus hts hud htd
                have h16 := ino_any
                cases bb with
                | true =>
                  clear d3 d4 e3 e4 h16
                  go_wp2
                  go_quiet (fail)
                  go_wp2
                  go_roundw
                  case rel => exact ⟨k + 1, true, by omega, by go_num, rfl, Hid.mk' (by rw [HB2.out]; rfl), Hid.mk' (HR.out.drewN _)⟩
                  case measure => simp [intOf]; omega
                | false =>
                  by_cases hst : us = ts
                  · have hq1 : (us.toList == ts.toList) = true := by rw [beq_toList]; exact decide_eq_true hst
                    have HK2 : Hid (sameK t u = (inoF ud == inoF td)) := Hid.mk' (by rw [HK.out, decide_eq_true hst, Bool.true_and]; rfl)
                    clear HK hst
                    go_wp2
                    go_quiet (first | (go_at_call 16; exact Calls.quiet_of_same (h16 _ _)))
                    go_wp2
                    go_roundw
                    case rel => exact ⟨k + 1, _, by omega, by go_num, rfl, Hid.mk' (by rw [HB2.out, HK2.out]; rfl), Hid.mk' (HR.out.drewN _)⟩
                    case measure => simp [intOf]; omega
                  · have hq1 : (us.toList == ts.toList) = false := by rw [beq_toList]; exact decide_eq_false hst
                    have HK2 : Hid (sameK t u = false) := Hid.mk' (by rw [HK.out, decide_eq_false hst]; rfl)
                    clear HK hst
                    go_wp2
                    go_quiet (fail)
                    go_wp2
                    go_roundw
                    case rel => exact ⟨k + 1, false, by omega, by go_num, rfl, Hid.mk' (by rw [HB2.out, HK2.out]; rfl), Hid.mk' (HR.out.drewN _)⟩
                    case measure => simp [intOf]; omega
              · have h2' : ¬ (k : Int) < (i : Int) := by omega
                obtain rfl : k = i := by omega
                cases bb with
                | true =>
                  have HC2 : Hid (n = (fillS (l.take (k + 1))).length) := Hid.mk' (by rw [fill_again h1 HT.out (Or.inr HB.out.symm)]; exact HC.out)
                  clear HC HB
                  go_wp2
                  go_roundw
                  case rel => exact ⟨k + 1, n, by omega, by omega, by go_num, rfl, HC2, _, _, _, HR⟩
                  case measure => simp [intOf]; omega
                | false =>
                  have hff := fill_first h1 HT.out HV.out HB.out.symm
                  have HC2 : Hid (n + 1 = (fillS (l.take (k + 1))).length) := Hid.mk' (by rw [hff.1, HC.out])
                  have hn1 : n + 1 ≤ l.length := by
                    have h1 := HC2.out
                    have h2 := fillS_len (l.take (k + 1))
                    rw [List.length_take] at h2
                    omega
                  have HG : Hid (getS S (inoF t.d) t.s = inoF t.i) := Hid.mk' (by rw [← HF.out]; exact hff.2)
                  have c3 := HR.out.keep.cell (HCC.out k h1 3 _ rfl) (fun h => h)
                  have c4 := HR.out.keep.cell (HCC.out k h1 4 _ rfl) (fun h => h)
                  have c5 := HR.out.keep.cell (HCC.out k h1 5 _ rfl) (fun h => h)
                  rw [HT.out] at c3 c4 c5
                  have hk0 : (0 : Int) ≤ (k : Int) := by omega
                  clear HC HB hff
                  have h16 := ino_any
                  have h13 : ∀ nn, Calls Try.prog 13 #[.pointer (some ⟨w.heap.size + 1, 0, none⟩), .int .i64 (inoF t.d), .string t.s] (wr.drewN nn) fun e w' => e = .returned (.int .i64 (inoF t.i)) ∧ Hid (KS w w' (w.heap.size + 1) w.heap.size S base vb L) ∧ w'.cell? ⟨b, o + k * 6 + 3, none⟩ = some (.int .i64 t.d) ∧ w'.cell? ⟨b, o + k * 6 + 4, none⟩ = some (.string t.s) ∧ w'.cell? ⟨b, o + k * 6 + 5, none⟩ = some (.int .i64 t.i) := by
                    intro nn
                    refine (ks_get (Hid.mk' (HR.out.drewN nn)) (inoF t.d) (inoF_wf _) t.s _ HG.out).mono ?_
                    rintro e w' ⟨rfl, h'⟩
                    refine ⟨rfl, h', ?_, ?_, ?_⟩
                    · have := h'.out.keep.cell (HCC.out k h1 3 _ rfl) (fun h => h); rw [HT.out] at this; exact this
                    · have := h'.out.keep.cell (HCC.out k h1 4 _ rfl) (fun h => h); rw [HT.out] at this; exact this
                    · have := h'.out.keep.cell (HCC.out k h1 5 _ rfl) (fun h => h); rw [HT.out] at this; exact this
                  go_wp2
                  go_region_held3 (fun wx => wx.cell? ⟨b, o + k * 6 + 3, none⟩ = some (.int .i64 t.d) ∧ wx.cell? ⟨b, o + k * 6 + 4, none⟩ = some (.string t.s) ∧ wx.cell? ⟨b, o + k * 6 + 5, none⟩ = some (.int .i64 t.i))
                    (first | go_keep)
                    (first
                      | (go_at_call 13; refine (h13 _).mono ?_; rintro e w2 ⟨rfl, H2, x1, x2, x3⟩)
                      | (go_at_call 16; refine (h16 _ _).mono ?_; rintro e w2 ⟨rfl, hw2⟩; subst w2))
                  all_goals
                    go_wp2
                    go_roundw
                    case rel => exact ⟨k + 1, n + 1, by omega, by omega, by go_num, by go_num, HC2, _, _, _, H2⟩
                    case measure => simp [intOf]; omega
        · have h1' : ¬ (i : Int) < (l.length : Int) := by omega
          obtain rfl : n = S.length := by
            have := HC.out
            rw [List.take_of_length_le (by omega), HF.out] at this
            exact this
          have HD0 : Hid (((S.filter (inDir 0)).length : Int) = 0) := Hid.mk' (by rw [dir_none HO.out.2.1 0 (by omega)]; rfl)
          have HD1 : Hid (((S.filter (inDir 257)).length : Int) = 0) := Hid.mk' (by rw [dir_none HO.out.2.1 257 (by omega)]; rfl)
          have HI0 : Hid (((S.filter (toIno 0)).length : Int) = 0) := Hid.mk' (by rw [ino_none HO.out.2.1 0 (by omega)]; rfl)
          have HI1 : Hid (((S.filter (toIno (-1))).length : Int) = 0) := Hid.mk' (by rw [ino_none HO.out.2.1 (-1) (by omega)]; rfl)
          clear HC
          go_wp2_with (first
            | (go_at_call 14; refine (ks_links H33 (-1) _ HI1.out).mono ?_; rintro e w34 ⟨rfl, H34⟩; clear H33)
            | (go_at_call 14; refine (ks_links H32 0 _ HI0.out).mono ?_; rintro e w33 ⟨rfl, H33⟩; clear H32)
            | (go_at_call 12; refine (ks_len H31 257 _ HD1.out).mono ?_; rintro e w32 ⟨rfl, H32⟩; clear H31)
            | (go_at_call 12; refine (ks_len HR 0 _ HD0.out).mono ?_; rintro e w31 ⟨rfl, H31⟩; clear HR))
          all_goals go_ret
          all_goals first
            | exact ⟨rfl, H34.out.keep⟩
            | exact ⟨ret_bool (by simp), H34.out.keep⟩

end Go.Proofs.Ytendmohjodeelaa
