import Derived.Test.YtendmohjodeelaaE4
namespace Go.Proofs.Ytendmohjodeelaa
open Go.RowKit Go.Maps Go.Great Go.Sort Go.Shelf

theorem OrR.drewN {W w : World} {v : Value} {U : List OpT} (h : OrR W w v U) (n : Nat) : OrR W (w.drewN n) v U := h.grown (Keeps.drewN (fun _ => False) w n)
theorem OrR.start {W w : World} (k : Keeps (fun _ => False) W w) : OrR W w (.slice none ([] : List OpT).length 0) [] := ⟨⟨rfl, Or.inl ⟨rfl, rfl⟩⟩, k⟩
theorem any_step (l : List OpT) (t : OpT) {k : Nat} (h : k < l.length) : (l.take (k + 1)).any (sameK t) = ((l.take k).any (sameK t) || sameK t (l.getD k opZ)) := by
  rw [take_getD opZ h, List.any_append]; simp
theorem OrR.cells {W w : World} {p : Option Addr} {m c : Nat} {U : List OpT} (h : OrR W w (.slice p m c) U) (h0 : 0 < U.length) : ∃ g, p = some ⟨g, 0, none⟩ ∧ ∀ i, i < U.length → ∀ j u, (opCells (U.getD i opZ))[j]? = some u → w.cell? ⟨g, i * 6 + j, none⟩ = some u := by
  rcases h.1.2 with ⟨_, h0'⟩ | ⟨g, cap, cur, e, hg, hb, h1⟩
  · omega
  · cases e
    refine ⟨g, rfl, fun i hi j u hj => ?_⟩
    have hj6 : j < 6 := (List.getElem?_eq_some_iff.1 hj).1
    rw [World.ownsRow.cellAt h.1 (i * 6 + j) (by omega)]
    exact ocells_at U i hi j u hj

set_option maxHeartbeats 4000000 in
set_option maxRecDepth 100000 in
theorem order_walk (w : World) (p : Option Addr) (cap : Nat) (l : List OpT) (hp : OpIn w p l) (hn : l.length ≤ 2513169434916) :
    Calls Try.prog 5 #[.slice p l.length cap] w fun e w' => e = .returned (.bool true) ∧ Keeps (fun _ => False) w w' := by
  have h9 := first_any w
  have HP : Hid (OpIn w p l) := hp
  clear hp
  go_enter Try.func5, Try.ntmps5
  go_wp2_with (first
    | (go_at_call 9; refine h9.mono ?_; rintro e w1 ⟨rfl, h1⟩; have H1 : Hid (Keeps (fun _ => False) w w1) := h1; clear h1 h9))
  go_loopw [3, 4] (fun lv iv wr => ∃ (i : Nat) (U : List OpT) (pu : Option Addr) (cu : Nat), i ≤ l.length ∧ iv = .int .i64 i ∧ lv = .slice pu U.length cu ∧ Hid (U = uqL (l.take i)) ∧ Hid (OrR w wr (.slice pu U.length cu) U)) (fun _ iv _ => l.length - (intOf iv).toNat)
  case atStart => exact ⟨0, [], none, 0, by omega, rfl, rfl, Hid.mk' rfl, Hid.mk' (OrR.start H1.out)⟩
  case round =>
    clear H1
    obtain ⟨i, U, pu, cu, hi, rfl, rfl, HU, HR⟩ := hrel
    have hul : U.length ≤ i := by rw [HU.out]; exact (uq_unlike l i hi).2
    by_cases h1 : i < l.length
    · have h1' : (i : Int) < (l.length : Int) := by omega
      have hi0 : (0 : Int) ≤ (i : Int) := by omega
      obtain ⟨b, o, rfl, hb, hc⟩ := HP.out (by omega)
      have HCC : Hid (∀ i, i < l.length → ∀ j u, (opCells (l.getD i opZ))[j]? = some u → w.cell? ⟨b, o + i * 6 + j, none⟩ = some u) := hc
      clear hc
      obtain ⟨t, ht⟩ : ∃ t, l.getD i opZ = t := ⟨_, rfl⟩
      have HT : Hid (l.getD i opZ = t) := ht
      have HU2 : Hid (uqL (l.take (i + 1)) = uqStep U t) := Hid.mk' (by rw [uq_take h1, ht, HU.out])
      clear ht HU
      go_wp2
      go_loopw [5, 6] (fun av kv wr2 => ∃ k : Nat, ∃ bb : Bool, k ≤ U.length ∧ kv = .int .i64 k ∧ av = .bool bb ∧ Hid (bb = (U.take k).any (sameK t)) ∧ Hid (OrR w wr2 (.slice pu U.length cu) U)) (fun _ kv _ => U.length - (intOf kv).toNat)
      case atStart => exact ⟨0, false, by omega, rfl, rfl, Hid.mk' rfl, HR⟩
      case round =>
        clear HR
        obtain ⟨k, bb, hk, rfl, rfl, HB, HR⟩ := hrel
        by_cases h2 : k < U.length
        · have h2' : (k : Int) < (U.length : Int) := by omega
          have hk0 : (0 : Int) ≤ (k : Int) := by omega
          obtain ⟨g, rfl, hg⟩ := HR.out.cells (by omega)
          have d3 := hg k h2 3 _ rfl
          have d4 := hg k h2 4 _ rfl
          have e3 := HR.out.2.cell (HCC.out i h1 3 _ rfl) (fun h => h)
          have e4 := HR.out.2.cell (HCC.out i h1 4 _ rfl) (fun h => h)
          obtain ⟨u, hu⟩ : ∃ u, U.getD k opZ = u := ⟨_, rfl⟩
          rw [hu] at d3 d4
          rw [HT.out] at e3 e4
          have HB2 : Hid ((U.take (k + 1)).any (sameK t) = (bb || sameK t u)) := Hid.mk' (by rw [any_step U t h2, hu, HB.out])
          clear HB hu hg
          obtain ⟨us, hus⟩ : ∃ us, u.s = us := ⟨_, rfl⟩
          obtain ⟨ts, hts⟩ : ∃ ts, t.s = ts := ⟨_, rfl⟩
          obtain ⟨ud, hud⟩ : ∃ ud, u.d = ud := ⟨_, rfl⟩
          obtain ⟨td, htd⟩ : ∃ td, t.d = td := ⟨_, rfl⟩
          have HK : Hid (sameK t u = (decide (us = ts) && decide (inoF ud = inoF td))) := Hid.mk' (by rw [← hus, ← hts, ← hud, ← htd]; rfl)
          rw [hus] at d4
          rw [hud] at d3
          rw [hts] at e4
          rw [htd] at e3
          clear hus hts hud htd
          have h16 := ino_any
          cases bb with
          | true =>
            clear d3 d4 e3 e4 h16
            go_wp2
            go_quiet (fail)
            go_wp2
            go_roundw
            case rel => exact ⟨k + 1, true, by omega, by go_num, rfl, Hid.mk' (by rw [HB2.out]; rfl), Hid.mk' (HR.out.drewN _)⟩
            case measure => simp [intOf]; omega
          | false =>
            by_cases hst : us = ts
            · have hq1 : (us.toList == ts.toList) = true := by rw [beq_toList]; exact decide_eq_true hst
              have HK2 : Hid (sameK t u = (inoF ud == inoF td)) := Hid.mk' (by rw [HK.out, decide_eq_true hst, Bool.true_and]; rfl)
              clear HK hst
              go_wp2
              go_quiet (first | (go_at_call 16; exact Calls.quiet_of_same (h16 _ _)))
              go_wp2
              go_roundw
              case rel => exact ⟨k + 1, _, by omega, by go_num, rfl, Hid.mk' (by rw [HB2.out, HK2.out]; rfl), Hid.mk' (HR.out.drewN _)⟩
              case measure => simp [intOf]; omega
            · have hq1 : (us.toList == ts.toList) = false := by rw [beq_toList]; exact decide_eq_false hst
              have HK2 : Hid (sameK t u = false) := Hid.mk' (by rw [HK.out, decide_eq_false hst]; rfl)
              clear HK hst
              go_wp2
              go_quiet (fail)
              go_wp2
              go_roundw
              case rel => exact ⟨k + 1, false, by omega, by go_num, rfl, Hid.mk' (by rw [HB2.out, HK2.out]; rfl), Hid.mk' (HR.out.drewN _)⟩
              case measure => simp [intOf]; omega
        · have h2' : ¬ (k : Int) < (U.length : Int) := by omega
          have HB2 : Hid (U.any (sameK t) = bb) := Hid.mk' (by rw [HB.out, List.take_of_length_le (by omega)])
          clear HB
          cases bb with
          | true =>
            have HU3 : Hid (U = uqL (l.take (i + 1))) := Hid.mk' (by rw [HU2.out, uqStep, HB2.out]; rfl)
            clear HU2 HB2
            go_wp2
            go_roundw
            case rel => exact ⟨i + 1, U, pu, cu, by omega, by go_num, rfl, HU3, HR⟩
            case measure => simp [intOf]; omega
          | false =>
            have c0 := HR.out.2.cell (HCC.out i h1 0 _ rfl) (fun h => h)
            have c1 := HR.out.2.cell (HCC.out i h1 1 _ rfl) (fun h => h)
            have c2 := HR.out.2.cell (HCC.out i h1 2 _ rfl) (fun h => h)
            have c3 := HR.out.2.cell (HCC.out i h1 3 _ rfl) (fun h => h)
            have c4 := HR.out.2.cell (HCC.out i h1 4 _ rfl) (fun h => h)
            have c5 := HR.out.2.cell (HCC.out i h1 5 _ rfl) (fun h => h)
            rw [HT.out] at c0 c1 c2 c3 c4 c5
            rw [Nat.add_zero] at c0
            have h15 := good_any t.s
            cases hv : valid t.s with
            | false =>
              rw [hv] at h15
              have HU3 : Hid (U = uqL (l.take (i + 1))) := Hid.mk' (by rw [HU2.out, uqStep, HB2.out, hv]; rfl)
              clear HU2 HB2 hv c0 c1 c2 c3 c5
              go_wp2_with (first
                | (go_at_call 15; refine (h15 _).mono ?_; rintro e w0 ⟨rfl, hw0⟩; subst w0; clear h15))
              all_goals
                go_roundw
                case rel => exact ⟨i + 1, U, pu, cu, by omega, by go_num, rfl, HU3, HR⟩
                case measure => simp [intOf]; omega
            | true =>
              rw [hv] at h15
              have HU3 : Hid (U ++ [t] = uqL (l.take (i + 1))) := Hid.mk' (by rw [HU2.out, uqStep, HB2.out, hv]; rfl)
              have HRA : Hid (OrR w (wr.alloc (.cells #[.int .i64 t.k, .int .i64 t.a, .int .i64 t.b, .int .i64 t.d, .string t.s, .int .i64 t.i] 34)) (.slice pu U.length cu) U) := Hid.mk' ⟨HR.out.1.alloc _, HR.out.2.alloc _⟩
              clear HU2 HB2 hv
              go_wp2_with (first
                | (go_at_call 15; refine (h15 _).mono ?_; rintro e w0 ⟨rfl, hw0⟩; subst w0; clear h15)
                | (at_builtin; go_must (refine wpList_appo w _ rfl _ _ rfl _ U t rfl HRA wr.heap.size rfl _ rfl (heap_alloc_last wr _) (by omega) ?_); clear HRA; intro p3 c3' w3 HR3))
              all_goals
                go_roundw
                case rel => exact ⟨i + 1, U ++ [t], p3, c3', by omega, by go_num, by rw [List.length_append]; rfl, HU3, by rw [List.length_append]; exact HR3⟩
                case measure => simp [intOf]; omega
    · have h1' : ¬ (i : Int) < (l.length : Int) := by omega
      obtain ⟨wA, hwA⟩ : ∃ wA : World, wA = wr := ⟨wr, rfl⟩
      subst hwA
      have HUN : Hid (Unlike U) := Hid.mk' (by rw [HU.out]; exact (uq_unlike l i hi).1)
      clear HU
      obtain ⟨p2, c2, e2, hop⟩ := HR.out.1.opin
      cases e2
      have hul2 : U.length < 3000000000000 := by omega
      have h10 := ks_filled wA pu cu U hop hul2
      have HOP : Hid (OpIn wA pu U) := hop
      have HKW : Hid (Keeps (fun _ => False) w wA) := HR.out.2
      obtain ⟨S, hS⟩ : ∃ S, fillS U = S := ⟨_, rfl⟩
      have HF : Hid (fillS U = S) := hS
      rw [hS] at h10
      clear hop HR hS
      go_wp2_with (first
        | (go_at_call 17; refine (os_new H10).mono ?_; rintro e w17 ⟨rfl, H17⟩; clear H10)
        | (go_at_call 10; refine h10.mono ?_; rintro e w10 ⟨rfl, H10⟩; clear h10))
      obtain ⟨by_, hby⟩ : ∃ by_, w10.heap.size = by_ := ⟨_, rfl⟩
      obtain ⟨bm, hbm⟩ : ∃ bm, wA.heap.size = bm := ⟨_, rfl⟩
      rw [hby, hbm] at H17
      rw [hby, hbm]
      have H17' : Hid (OS wA w17 (bm + 1) bm (by_ + 1) by_ S (fillS (U.drop U.length).reverse)) := Hid.mk' (by rw [List.drop_length]; exact H17.out)
      clear H17 hby hbm
      go_loopw [9] (fun iv wx => ∃ (m : Nat) (z : Int), m ≤ U.length ∧ z + 1 = (m : Int) ∧ iv = .int .i64 z ∧ Hid (OS wA wx (bm + 1) bm (by_ + 1) by_ S (fillS (U.drop m).reverse))) (fun iv _ => (intOf iv + 1).toNat)
      case atStart => exact ⟨U.length, (U.length : Int) - 1, by omega, by omega, by first | rfl | go_num, H17'⟩
      case round =>
        clear H17'
        obtain ⟨m, z, hm, hz, rfl, HX⟩ := hrel
        by_cases h3 : m = 0
        · obtain rfl : z = -1 := by omega
          subst h3
          have HY : Hid (OS wA wr (bm + 1) bm (by_ + 1) by_ S S) := Hid.mk' (by have := HX.out; rw [List.drop_zero, fill_back HUN.out, HF.out] at this; exact this)
          clear HX
          go_wp2
          have HO : Hid (Rise S ∧ (∀ r ∈ S, OkR r) ∧ S.length = U.length) := by
            have := fillS_ok U
            rw [HF.out] at this
            exact ⟨this.1, this.2, by rw [← HF.out]; exact fill_count HUN.out⟩
          have hdl : ∀ k : Int, (S.filter (inDir k)).length < 3000000000000 := fun k => by have := filt_le S (inDir k); have := HO.out.2.2; omega
          have hsl : ∀ k : Int, (S.filter (dirLt k)).length < 3000000000000 := fun k => by have := filt_le S (dirLt k); have := HO.out.2.2; omega
          have HYr := HY
          clear HY
          go_loopw [11, 12] (fun sv c wr3 => ∃ k sm : Nat, 1 ≤ k ∧ k ≤ 257 ∧ c = .int .i64 k ∧ sv = .int .i64 sm ∧ Hid (sm = (S.filter (dirLt k)).length) ∧ Hid (OS wA wr3 (bm + 1) bm (by_ + 1) by_ S S)) (fun _ c _ => 257 - (intOf c).toNat)
          case atStart => exact ⟨1, 0, by omega, by omega, rfl, rfl, Hid.mk' (dir_start HO.out.2.1).symm, HYr⟩
          case round =>
            clear HYr
            obtain ⟨k, sm, hk1, hk2, rfl, rfl, HC, HR⟩ := hrel
            have hsm : sm < 3000000000000 := by have := HC.out; have := hsl k; omega
            by_cases hlt : k ≤ 256
            · have hkl : (k : Int) ≤ 256 := by omega
              obtain ⟨M, hM⟩ : ∃ M, lstS S k = M := ⟨_, rfl⟩
              have HM : Hid (lstS S k = M) := hM
              have hMl : M.length < 3000000000000 := by rw [← hM, lst_len]; exact hdl k
              obtain ⟨a, ha⟩ : ∃ a : Nat, (S.filter (toIno k)).length = a := ⟨_, rfl⟩
              have HA : Hid (((S.filter (toIno k)).length : Int) = (a : Int)) := by rw [ha]; exact rfl
              have HC2 : Hid (sm + M.length = (S.filter (dirLt (k + 1 : Nat))).length) := by
                have h1 := dir_step S k
                have h3 : (S.filter (inDir k)).length = M.length := by rw [← hM, lst_len]
                rw [← HC.out, h3] at h1
                exact h1
              clear hM ha HC
              go_wp2_with (first
                | (go_at_call 14; refine (os_linksy H24 k _ HA.out).mono ?_; rintro e w25 ⟨rfl, H25⟩; clear H24)
                | (go_at_call 14; refine (os_links H23 k _ HA.out).mono ?_; rintro e w24 ⟨rfl, H24⟩; clear H23)
                | (go_at_call 19; refine (os_same H22 D22 E22 (by omega) true (by simp)).mono ?_; rintro e w23 ⟨rfl, H23⟩; clear H22 D22 E22)
                | (go_at_call 11; refine (os_listy H21 k M HM.out D21).mono ?_; rintro e w22 ⟨p22, c22, rfl, H22, E22, D22⟩; clear H21 D21)
                | (go_at_call 11; refine (os_list H20 k M HM.out).mono ?_; rintro e w21 ⟨p21, c21, rfl, H21, D21⟩; clear H20)
                | (go_at_call 11; refine (os_list HR k M HM.out).mono ?_; rintro e w20 ⟨p20, c20, rfl, H20, D20⟩; clear HR D20))
              all_goals
                go_roundw
                case rel => exact ⟨k + 1, sm + M.length, by omega, by omega, by go_num, by go_num, HC2, H25⟩
                case measure => simp [intOf]; omega
            · have hkl : ¬ (k : Int) ≤ 256 := by omega
              have hkl2 : 256 < (k : Int) := by omega
              obtain rfl : sm = U.length := by have := HC.out; rw [show (k : Int) = 257 by omega, dir_end HO.out.2.1, HO.out.2.2] at this; exact this
              go_wp2
              go_ret
              first
                | exact ⟨rfl, HKW.out.trans HR.out.keep⟩
                | exact ⟨ret_bool (by simp), HKW.out.trans HR.out.keep⟩
        · obtain ⟨j, rfl⟩ : ∃ j, m = j + 1 := ⟨m - 1, by omega⟩
          obtain rfl : z = (j : Int) := by omega
          have hj0 : (0 : Int) ≤ (j : Int) := by omega
          have hj1 : (j : Int) < (U.length : Int) := by omega
          have hju : j < U.length := by omega
          obtain ⟨b, o, rfl, hb, hc⟩ := HOP.out (by omega)
          have HCC : Hid (∀ i, i < U.length → ∀ j u, (opCells (U.getD i opZ))[j]? = some u → wA.cell? ⟨b, o + i * 6 + j, none⟩ = some u) := hc
          clear hc
          obtain ⟨t, ht⟩ : ∃ t, U.getD j opZ = t := ⟨_, rfl⟩
          have HT : Hid (U.getD j opZ = t) := ht
          have HBK := Hid.mk' (back_step HUN.out hju ht)
          have c3 := HX.out.keep.cell (HCC.out j hju 3 _ rfl) (fun h => h)
          have c4 := HX.out.keep.cell (HCC.out j hju 4 _ rfl) (fun h => h)
          have c5 := HX.out.keep.cell (HCC.out j hju 5 _ rfl) (fun h => h)
          rw [ht] at c3 c4 c5
          clear ht
          have hTl : (fillS (U.drop j).reverse).length < 4000000000000 := by have := fillS_len (U.drop j).reverse; simp at this; omega
          have h16 := ino_any
          have h18 : ∀ nn, Calls Try.prog 18 #[.pointer (some ⟨by_ + 1, 0, none⟩), .int .i64 (inoF t.d), .string t.s, .int .i64 (inoF t.i)] (wr.drewN nn) fun e w' => e = .returned (.int .i64 0) ∧ Hid (OS wA w' (bm + 1) bm (by_ + 1) by_ S (fillS (U.drop j).reverse)) ∧ w'.cell? ⟨b, o + j * 6 + 3, none⟩ = some (.int .i64 t.d) ∧ w'.cell? ⟨b, o + j * 6 + 4, none⟩ = some (.string t.s) ∧ w'.cell? ⟨b, o + j * 6 + 5, none⟩ = some (.int .i64 t.i) := by
            intro nn
            refine (os_puty (Hid.mk' (HX.out.drewN nn)) (inoF t.d) t.s (inoF t.i) 0 _ HBK.out.1 HBK.out.2 hTl).mono ?_
            rintro e w' ⟨rfl, h'⟩
            refine ⟨rfl, h', ?_, ?_, ?_⟩
            · have := h'.out.keep.cell (HCC.out j hju 3 _ rfl) (fun h => h); rw [HT.out] at this; exact this
            · have := h'.out.keep.cell (HCC.out j hju 4 _ rfl) (fun h => h); rw [HT.out] at this; exact this
            · have := h'.out.keep.cell (HCC.out j hju 5 _ rfl) (fun h => h); rw [HT.out] at this; exact this
          clear HBK hTl
          go_wp2
          go_region_held3 (fun wx => wx.cell? ⟨b, o + j * 6 + 3, none⟩ = some (.int .i64 t.d) ∧ wx.cell? ⟨b, o + j * 6 + 4, none⟩ = some (.string t.s) ∧ wx.cell? ⟨b, o + j * 6 + 5, none⟩ = some (.int .i64 t.i))
            (first | go_keep)
            (first
              | (go_at_call 18; refine (h18 _).mono ?_; rintro e w2 ⟨rfl, H2, x1, x2, x3⟩)
              | (go_at_call 16; refine (h16 _ _).mono ?_; rintro e w2 ⟨rfl, hw2⟩; subst w2))
          all_goals
            go_wp2
            go_roundw
            case rel => exact ⟨j, (j : Int) - 1, by omega, by omega, by go_num, H2⟩
            case measure => first | (simp [intOf]; done) | (simp [intOf]; omega)

end Go.Proofs.Ytendmohjodeelaa
