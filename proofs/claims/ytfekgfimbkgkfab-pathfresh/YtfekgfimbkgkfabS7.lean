import Derived.Test.YtfekgfimbkgkfabS2
namespace Go.Proofs.Ytfekgfimbkgkfab
open Go.RowKit Go.Maps

set_option maxHeartbeats 4000000 in
set_option maxRecDepth 100000 in
theorem rclean_any (w : World) (v : Value) (p : List ByteArray) (sl : Bool) (h : Row w v p.length (strs p)) (hn : p.length < 8796093022000) :
    Calls Try.prog 39 #[.agg #[v, .bool sl]] w fun e w' => ∃ r, e = .returned (.agg #[r, .bool (clS p sl)]) ∧ Hid (w'.ownsRow w.heap.size 9 1 r (clP p).length (strs (clP p)) ∧ Keeps (fun _ => False) w w') := by
  obtain ⟨i0, hi, hz0, hz1, hz2⟩ := info_parts info9
  obtain ⟨n1, n2, n3, n4⟩ := two_blocks w (.cells #[v, .bool sl] 25) (.cells #[.slice none 0 0, .bool false] 25)
  have HR : Hid (Row w v p.length (strs p)) := h
  obtain ⟨ao, cap, rfl, _⟩ := h
  go_enter Try.func39, Try.ntmps39
  go_wp2
  have HN : Hid (ClI ((w.alloc (.cells #[.slice ao p.length cap, .bool sl] 25)).alloc (.cells #[.slice none 0 0, .bool false] 25)) ((w.alloc (.cells #[.slice ao p.length cap, .bool sl] 25)).alloc (.cells #[.slice none 0 0, .bool false] 25)) (w.heap.size + 2) p 0 (.slice none 0 0)) := ⟨World.ownsRow_nil _ _ _ _, Keeps.refl _ _⟩
  obtain ⟨W0, hW0⟩ : ∃ W0, W0 = (w.alloc (.cells #[.slice ao p.length cap, .bool sl] 25)).alloc (.cells #[.slice none 0 0, .bool false] 25) := ⟨_, rfl⟩
  rw [← hW0] at HN n1 n2 n3 n4
  have H0 : Hid (W0.heap[w.heap.size]? = some (.cells #[.slice ao p.length cap, .bool sl] 25) ∧ W0.heap[w.heap.size + 1]? = some (.cells #[.slice none 0 0, .bool false] 25) ∧ Keeps (fun _ => False) w W0 ∧ W0.heap.size = w.heap.size + 2) := ⟨n1, n2, n3, n4⟩
  clear n1 n2 n3 n4
  go_loopw [3, 4] (fun v3 i wr => ∃ k : Nat, k ≤ p.length ∧ i = .int .i64 k ∧ Hid (ClI W0 wr (w.heap.size + 2) p k v3)) (fun _ i _ => p.length - (intOf i).toNat)
  case atStart => exact ⟨0, Nat.zero_le _, rfl, by rw [← hW0]; exact HN⟩
  case round =>
    obtain ⟨k, hk, rfl, HI⟩ := hrel
    clear hW0 HN
    have hrl := clR_len (p.take k)
    rw [List.length_take] at hrl
    obtain ⟨x0, x1, _⟩ := cells2 (HI.out.2.at H0.out.1 id)
    by_cases h1 : k < p.length
    · obtain ⟨b, o, cap', e, hb, hc⟩ := HR.out.pos (by omega)
      cases e
      have h1' : (k : Int) < (p.length : Int) := by omega
      have c2 := (H0.out.2.2.1.trans HI.out.2).cell (hc k _ (strs_get h1)) id
      have HS : Hid (clR (p.take (k + 1)) = cl1 (clR (p.take k)) (p.getD k bz)) := by
        show _ = _
        rw [take_getD bz h1, clR_snoc]
      have hI := HI.out
      unfold ClI at hI
      generalize p.getD k bz = s at c2 HS
      generalize clR (p.take k) = acc at hI HS hrl
      have HJ : Hid (wr.ownsRow (w.heap.size + 2) 9 1 u3 acc.length (strs acc.reverse) ∧ Keeps (fun _ => False) W0 wr ∧ w.heap.size + 2 ≤ wr.heap.size) := ⟨hI.1, hI.2, by have := hI.2.size; rw [H0.out.2.2.2] at this; exact this⟩
      clear hc HI hI
      rcases Bool.eq_false_or_eq_true (isDot s) with hD | hD
      · have hD' : (s.toList == [46]) = true := hD
        have HN : Hid (ClI W0 wr (w.heap.size + 2) p (k + 1) u3) := by
          unfold ClI
          rw [HS.out, cl1, if_pos hD]; exact ⟨HJ.out.1, HJ.out.2.1⟩
        clear hD
        go_wp2
        go_roundw
        case rel => exact ⟨k + 1, by omega, by go_num, HN⟩
        case measure => simp [intOf]; omega
      · have hD' : (s.toList == [46]) = false := hD
        rcases Bool.eq_false_or_eq_true (isUp s) with hU | hU
        · have hU' : (s.toList == [46, 46]) = true := hU
          have HE : Hid (clR (p.take (k + 1)) = acc.tail) := HS.out.trans (by unfold cl1; rw [if_neg (by simp [hD]), if_pos hU])
          clear hD hU
          obtain ⟨va, vc, e3, hvc, _⟩ := Row.of_own HJ.out.1
          subst e3
          cases acc with
          | nil =>
            simp only [List.length_nil] at *
            go_wp2
            go_roundw
            case rel =>
              refine ⟨k + 1, by omega, by go_num, ?_⟩
              unfold ClI
              rw [HE.out]
              exact ⟨HJ.out.1, HJ.out.2.1⟩
            case measure => simp [intOf]; omega
          | cons q acc =>
            simp only [List.length_cons] at hvc hrl HJ ⊢
            have hpos : (0 : Int) < (acc.length : Int) + 1 := by omega
            have hvc' : ((acc.length : Int) + 1) ≤ (vc : Int) := by omega
            have hvc2 : (acc.length : Int) ≤ (vc : Int) := by omega
            have hal : acc.length < 8796093022000 := by omega
            clear hrl
            go_wp2
            go_roundw
            case rel =>
              refine ⟨k + 1, by omega, by go_num, ?_⟩
              unfold ClI
              rw [HE.out]
              have h3 := HJ.out.1
              rw [List.reverse_cons, show acc.length + 1 = acc.reverse.length + 1 by simp] at h3
              have h4 := own_cut h3
              rw [List.length_reverse] at h4
              exact ⟨by simpa using h4, HJ.out.2.1⟩
            case measure => simp [intOf]; omega
        · have hU' : (s.toList == [46, 46]) = false := hU
          have HE : Hid (clR (p.take (k + 1)) = s :: acc) := HS.out.trans (by unfold cl1; rw [if_neg (by simp [hD]), if_neg (by simp [hU])])
          clear hD hU
          go_wp2_with (first
            | (at_builtin; go_must (refine wpList_append_own_at _ rfl _ _ 23 rfl (w.heap.size + 2) 9 i0 (.string ⟨#[]⟩) 1 16 Try.underlying23 hi hz0 hz1 hz2 rfl (by decide) _ acc.length (strs acc.reverse) rfl (HJ.out.1.alloc _) ⟨wr.heap.size, 0, none⟩ 1 1 [.string s] rfl rfl (cell_one_new _ _ _) (by simp [Value.oneCell']) (by unfold maxLen; omega) (by omega) (by rw [World.size_alloc]; have := HJ.out.2.2; omega) ?_); intro v' w3 hown hgr _ _))
          go_roundw
          case rel =>
            refine ⟨k + 1, by omega, by go_num, ?_⟩
            unfold ClI
            rw [HE.out]
            refine ⟨?_, ?_⟩
            · have e : strs (s :: acc).reverse = strs acc.reverse ++ [.string s] := by simp [strs]
              rw [e]; exact hown
            · refine (HJ.out.2.1.alloc _).step hgr ?_
              intro k' hk'
              have := (HJ.out.1.lt k' hk').1
              rw [H0.out.2.2.2]
              exact Or.inr this
          case measure => simp [intOf]; omega
    · have h1' : ¬ (k : Int) < (p.length : Int) := by omega
      have hI := HI.out
      unfold ClI at hI
      have eP : p.take k = p := List.take_of_length_le (by omega)
      rw [eP] at hI hrl
      have HP : Hid (clP p = (clR p).reverse ∧ clS p sl = (!(clR p).isEmpty && (sl || !named p))) := ⟨rfl, by unfold clS clP; rw [List.isEmpty_reverse]⟩
      generalize clR p = acc at hI HP hrl
      obtain ⟨va, vc, e3, hvc, _⟩ := Row.of_own hI.1
      subst e3
      have hKW : Keeps (fun _ => False) w wr := H0.out.2.2.1.trans hI.2
      have hOW := hI.1
      have hBR := hI.2.at H0.out.2.1 id
      have HB0 : Hid (wr.heap[w.heap.size]? = some (.cells #[.slice ao p.length cap, .bool sl] 25) ∧ wr.heap[w.heap.size + 1]? = some (.cells #[.slice none 0 0, .bool false] 25) ∧ w.heap.size + 2 ≤ wr.heap.size) := ⟨hI.2.at H0.out.1 id, hBR, by have := hI.2.size; rw [H0.out.2.2.2] at this; exact this⟩
      clear hI HI eP
      cases acc with
      | nil =>
        simp only [List.length_nil, List.reverse_nil] at hvc hOW hrl
        have hA : Keeps (fun _ => False) wr (wr.alloc (.cells #[.slice va 0 vc, .bool sl] 25)) := (Keeps.refl _ wr).alloc _
        have hBA := hA.at hBR id
        obtain ⟨q0, q1, qf⟩ := cells2 hBA
        have f0 := qf 0
        have f1 := qf 1
        obtain ⟨d0, d1⟩ := set2c hBA (.slice none 0 0) (.bool false)
        obtain ⟨_, s2⟩ := set2 hBA (.slice none 0 0) (.bool false)
        have HE := Hid.mk' ((hKW.trans hA).then s2 (fun k hk => Or.inr (by omega)))
        clear qf s2 hOW hKW hBR hA hBA
        go_wp2
        refine bodyPost_ret (v := .agg #[.slice none 0 0, .bool false]) (by simp [results, Try.results39, go_sem, d0, d1]) rfl ?_
        obtain ⟨eP, eS⟩ := HP.out
        refine ⟨_, by rw [eS]; rfl, ?_⟩
        rw [eP]; exact ⟨World.ownsRow_nil _ _ _ _, HE.out⟩
      | cons q acc =>
        simp only [List.length_cons] at hvc hOW hrl ⊢
        have hpos : ¬ (acc.length : Int) + 1 = 0 := by omega
        have hp1 : 0 < p.length := by omega
        have hm : ((p.length : Int) - 1) = ((p.length - 1 : Nat) : Int) := by omega
        have hlt : p.length - 1 < p.length := by omega
        obtain ⟨b, o, cap', e, hb, hc⟩ := HR.out.pos hp1
        cases e
        have hA : Keeps (fun _ => False) wr (wr.alloc (.cells #[.slice va (acc.length + 1) vc, .bool sl] 25)) := (Keeps.refl _ wr).alloc _
        have c2 := (hKW.trans hA).cell (hc (p.length - 1) _ (strs_get hlt)) id
        have HNm : Hid (named p = (!isDot (p.getD (p.length - 1) bz) && !isUp (p.getD (p.length - 1) bz))) := by
          have e1 : lastP p = p.getD (p.length - 1) bz := by
            unfold lastP
            rw [List.getLastD_eq_getLast?, List.getLast?_eq_getElem?, List.getD_eq_getElem?_getD]; rfl
          have e2 : p.isEmpty = false := by cases p with
            | nil => exact absurd hp1 (by simp)
            | cons _ _ => rfl
          show named p = _
          unfold named
          rw [e1, e2]; rfl
        generalize p.getD (p.length - 1) bz = last at c2 HNm
        have hBq := heap_last wr (.cells #[.slice va (acc.length + 1) vc, .bool sl] 25)
        have hBR2 := hA.at HB0.out.2.1 id
        have hOA := own_grow hOW hA
        obtain ⟨y0, y1, _⟩ := cells2 (hA.at HB0.out.1 id)
        obtain ⟨z0, z1, zf⟩ := cells2 hBq
        have g1 := zf 1
        have HG : Hid (b < w.heap.size) := hb
        have HOW := Hid.mk' hOW
        clear hc hOW
        rcases Bool.eq_false_or_eq_true (isDot last) with hD | hD
        · have hD' : (last.toList == [46]) = true := hD
          have HDU : Hid ((!isDot last && !isUp last) = false) := by rw [hD]; rfl
          clear hD
          have hAt : Keeps (fun _ => False) wr (wr.alloc (.cells #[.slice va (acc.length + 1) vc, .bool true] 25)) := (Keeps.refl _ wr).alloc _
          have b2 := hAt.at HB0.out.2.1 id
          obtain ⟨u0, u1, _⟩ := cells2 (heap_last wr (.cells #[.slice va (acc.length + 1) vc, .bool true] 25))
          have k3 := own_grow HOW.out hAt
          have k4 := hKW.trans hAt
          clear hAt
          obtain ⟨_, _, yf⟩ := cells2 b2
          have f0 := yf 0
          have f1 := yf 1
          obtain ⟨d0, d1⟩ := set2c b2 (.slice va (acc.length + 1) vc) (.bool true)
          obtain ⟨_, s2⟩ := set2 b2 (.slice va (acc.length + 1) vc) (.bool true)
          have HE := Hid.mk' (And.intro (own_base (base' := w.heap.size) (own_keep k3 s2 (fun g hg hk => by have := (k3.lt g hg).1; omega)) (by omega)) (k4.then s2 (fun k hk => Or.inr (by omega))))
          clear yf s2 k3 k4 b2 hBR2 hOA hA hKW hBR hBq zf
          go_wp2
          refine bodyPost_ret (v := .agg #[.slice va (acc.length + 1) vc, .bool true]) (by simp [results, Try.results39, go_sem, d0, d1]) rfl ?_
          obtain ⟨eP, eS⟩ := HP.out
          refine ⟨_, by rw [eS, HNm.out, HDU.out]; cases sl <;> rfl, ?_⟩
          rw [eP, List.length_reverse]; exact HE.out
        · have hD' : (last.toList == [46]) = false := hD
          rcases Bool.eq_false_or_eq_true (isUp last) with hU | hU
          · have hU' : (last.toList == [46, 46]) = true := hU
            have HDU : Hid ((!isDot last && !isUp last) = false) := by rw [hD, hU]; rfl
            clear hD hU
            have hAt : Keeps (fun _ => False) wr (wr.alloc (.cells #[.slice va (acc.length + 1) vc, .bool true] 25)) := (Keeps.refl _ wr).alloc _
            have b2 := hAt.at HB0.out.2.1 id
            obtain ⟨u0, u1, _⟩ := cells2 (heap_last wr (.cells #[.slice va (acc.length + 1) vc, .bool true] 25))
            have k3 := own_grow HOW.out hAt
            have k4 := hKW.trans hAt
            clear hAt
            obtain ⟨_, _, yf⟩ := cells2 b2
            have f0 := yf 0
            have f1 := yf 1
            obtain ⟨d0, d1⟩ := set2c b2 (.slice va (acc.length + 1) vc) (.bool true)
            obtain ⟨_, s2⟩ := set2 b2 (.slice va (acc.length + 1) vc) (.bool true)
            have HE := Hid.mk' (And.intro (own_base (base' := w.heap.size) (own_keep k3 s2 (fun g hg hk => by have := (k3.lt g hg).1; omega)) (by omega)) (k4.then s2 (fun k hk => Or.inr (by omega))))
            clear yf s2 k3 k4 b2 hBR2 hOA hA hKW hBR hBq zf
            go_wp2
            refine bodyPost_ret (v := .agg #[.slice va (acc.length + 1) vc, .bool true]) (by simp [results, Try.results39, go_sem, d0, d1]) rfl ?_
            obtain ⟨eP, eS⟩ := HP.out
            refine ⟨_, by rw [eS, HNm.out, HDU.out]; cases sl <;> rfl, ?_⟩
            rw [eP, List.length_reverse]; exact HE.out
          · have hU' : (last.toList == [46, 46]) = false := hU
            have HDU : Hid ((!isDot last && !isUp last) = true) := by rw [hD, hU]; rfl
            clear hD hU
            have b2 := hBR2
            have k3 := hOA
            have k4 := hKW.trans hA
            obtain ⟨_, _, yf⟩ := cells2 b2
            have f0 := yf 0
            have f1 := yf 1
            obtain ⟨d0, d1⟩ := set2c b2 (.slice va (acc.length + 1) vc) (.bool sl)
            obtain ⟨_, s2⟩ := set2 b2 (.slice va (acc.length + 1) vc) (.bool sl)
            have HE := Hid.mk' (And.intro (own_base (base' := w.heap.size) (own_keep k3 s2 (fun g hg hk => by have := (k3.lt g hg).1; omega)) (by omega)) (k4.then s2 (fun k hk => Or.inr (by omega))))
            clear yf s2 k3 k4 b2 hBR2 hOA hA hKW hBR hBq zf
            go_wp2
            refine bodyPost_ret (v := .agg #[.slice va (acc.length + 1) vc, .bool sl]) (by simp [results, Try.results39, go_sem, d0, d1]) rfl ?_
            obtain ⟨eP, eS⟩ := HP.out
            refine ⟨_, by rw [eS, HNm.out, HDU.out]; cases sl <;> rfl, ?_⟩
            rw [eP, List.length_reverse]; exact HE.out
end Go.Proofs.Ytfekgfimbkgkfab
