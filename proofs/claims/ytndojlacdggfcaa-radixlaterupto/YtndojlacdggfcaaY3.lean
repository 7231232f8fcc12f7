import Derived.Test.YtndojlacdggfcaaY2
namespace Go.Proofs.Ytndojlacdggfcaa
open Go.RowKit Go.Maps Go.Shelf
attribute [local go_sem] Oper.semAt_some

set_option maxHeartbeats 80000000 in
set_option maxRecDepth 100000 in
theorem later_walk (w : World) (p : Option Addr) (cap : Nat) (l : List Put) (hp : PutsIn w p l) (pm : Option Addr) (capm : Nat) (lm : List Put) (hpm : PutsIn w pm lm) (lo : Int) (hsm : l.length + lm.length ≤ 3000000) :
    Calls Try.prog 3 #[.slice p l.length cap, .slice pm lm.length capm, .int .i64 lo] w fun e w' => e = .returned (.bool true) ∧ Keeps (fun _ => False) w w' := by
  have k1 : Keeps (fun _ => False) w ((w.alloc (.cells #[.int .i64 lo] 3)).alloc (.cells #[.bool false] 4)) := (Keeps.new w _).trans (Keeps.new _ _)
  obtain ⟨W1, hW1⟩ : ∃ W1, (w.alloc (.cells #[.int .i64 lo] 3)).alloc (.cells #[.bool false] 4) = W1 := ⟨_, rfl⟩
  have b5 : Boxed W1 w.heap.size 3 (.int .i64 lo) := by rw [← hW1]; exact (Boxed.new w 3 _).alloc _
  have b6 : Boxed W1 (w.heap.size + 1) 4 (.bool false) := by
    have := Boxed.new (w.alloc (.cells #[.int .i64 lo] 3)) 4 (.bool false)
    rw [World.size_alloc] at this
    rw [← hW1]; exact this
  have hs1 : W1.heap.size = w.heap.size + 2 := by rw [← hW1]; simp
  rw [hW1] at k1
  have h9 : Calls Try.prog 9 #[.slice p l.length cap] W1 fun e w' => e = .returned (.tuple #[.pointer (some ⟨w.heap.size + 2, 0, none⟩), .bool true]) ∧ Hid (TT w w' (w.heap.size + 2) (play (l.take 400)) [(w.heap.size + 1, 4, .bool false), (w.heap.size, 3, .int .i64 lo)] []) := by
    refine (grown_any W1 p l cap (hp.grown k1) (by unfold maxLen; omega)).mono ?_
    rintro e w' ⟨t, rfl, ht, k2, hT⟩
    rw [hs1] at ht
    subst ht
    refine ⟨rfl, hT, fun q hq => ?_, k1.trans k2, by omega, by simp⟩
    simp only [List.mem_cons, List.mem_nil_iff, or_false] at hq
    rcases hq with rfl | rfl
    · exact ⟨k2.at b6 id, by simp⟩
    · exact ⟨k2.at b5 id, Nat.le_refl _⟩
  have HP := Hid.mk' hp
  have HM := Hid.mk' hpm
  clear hp hpm k1 b5 b6
  refine (callsIn_wide (n := 9)).1 ?_
  refine callsIn_of_wp_marks Try.func3 rfl trivial ?_ rfl
  simp only [Try.ntmps3, List.size_toArray, List.length_cons, List.length_nil, Nat.reduceAdd, Nat.reduceSub, Array.replicate_succ, Array.replicate_zero, List.push_toArray, List.append_toArray, List.nil_append, List.cons_append]
  refine wpIn_wide.2 ?_
  go_upto_region 5 with (first
    | (go_at_call 10; refine (from_any _ _ _).mono ?_; rintro e w4 ⟨rfl, hw4⟩)
    | (go_at_call 9; refine h9.mono ?_; clear h9; rintro e w2 ⟨rfl, H2⟩; have c5 := ((H2.out.newb 23 (.pointer (some ⟨w.heap.size + 2, 0, none⟩))).bx (b := w.heap.size) (ty := 3) (v := .int .i64 lo) (by simp)).cell))
  obtain ⟨b7, hb7⟩ : ∃ b, w2.heap.size = b := ⟨_, rfl⟩
  have hb75 : w.heap.size + 2 < b7 := by have := H2.out.tree.lt; omega
  obtain ⟨W4, hW4⟩ : ∃ W, w4.alloc (.cells #[fnv b7] 27) = W := ⟨_, rfl⟩
  have H4 : Hid (TT w W4 (w.heap.size + 2) (play (l.take 400)) (lb0 (w.heap.size + 2) w.heap.size b7 lo) []) := Hid.mk' (by
    have h := ((H2.out.newb 23 (.pointer (some ⟨w.heap.size + 2, 0, none⟩))).newb 23 (.pointer (some ⟨w.heap.size + 2, 0, none⟩))).newb 3 (.int .i64 lo)
    rw [← hw4] at h
    have h := h.newb 27 (fnv b7)
    rw [hW4] at h
    rw [hw4] at h
    simp only [World.size_alloc, hb7] at h
    exact h)
  have hW4' : w4.alloc (.cells #[.func (.func 31) #[] #[.pointer (some ⟨b7 + 1, 0, none⟩), .pointer (some ⟨b7 + 1 + 1, 0, none⟩)]] 27) = W4 := hW4
  rw [← hw4]
  simp only [hb7, hW4']
  clear hW4 hW4' hw4 H2 c5 hb7 hW1 hs1
  iterate 7 go_step
  go_cut [] from 25 (fun wc => ∃ f : Nat → Int, Hid (l.length + lm.length ≤ 400 → f = play (l ++ lm)) ∧ Hid (TT w wc (w.heap.size + 2) f (lb0 (w.heap.size + 2) w.heap.size b7 lo) []))
  case first =>
    go_step
    go_loopw [10] (fun c wr => ∃ (i : Nat) (f : Nat → Int), i ≤ lm.length ∧ i ≤ 400 ∧ c = .int .i64 i ∧ Hid (f = laterF l lm i) ∧ Hid (TT w wr (w.heap.size + 2) f (lb0 (w.heap.size + 2) w.heap.size b7 lo) [])) (fun c _ => 400 - (intOf c).toNat)
    case atStart => exact ⟨0, _, by omega, by omega, rfl, Hid.mk' (by simp [laterF]), H4⟩
    case round =>
      clear H4
      obtain ⟨i, f, hi, hi4, rfl, HF, HR⟩ := hrel
      by_cases h1 : i < lm.length
      · by_cases h4 : i < 400
        · have h1' : (i : Int) < (lm.length : Int) := by omega
          have h4' : (i : Int) < 400 := by omega
          have hi0 : (0 : Int) ≤ (i : Int) := by omega
          obtain ⟨b, ob, rfl, hb, hc⟩ := HM.out (by omega)
          obtain ⟨q, hq⟩ : ∃ q, lm.getD i d0 = q := ⟨_, rfl⟩
          have HF2 : Hid (stepF f q = laterF l lm (i + 1)) := Hid.mk' (by rw [laterF_step l h1, hq, HF.out])
          have hcl : ∀ (ww : World) (g : Nat → Int), TT w ww (w.heap.size + 2) g (lb0 (w.heap.size + 2) w.heap.size b7 lo) [] → ww.cell? ⟨b, ob + i * 3, none⟩ = some (.bool q.1) ∧ ww.cell? ⟨b, ob + i * 3 + 1, none⟩ = some (.int .i64 q.2.1) ∧ ww.cell? ⟨b, ob + i * 3 + 2, none⟩ = some (.int .i64 q.2.2) ∧ ww.cell? ⟨b7, 0, none⟩ = some (.pointer (some ⟨w.heap.size + 2, 0, none⟩)) := fun ww g h => by
            obtain ⟨e0, e1, e2⟩ := hc i h1
            rw [hq] at e0 e1 e2
            exact ⟨h.keep.cell e0 id, h.keep.cell e1 id, h.keep.cell e2 id, (h.bx (b := b7) (ty := 23) (v := .pointer (some ⟨w.heap.size + 2, 0, none⟩)) (by simp [lb0])).cell⟩
          have HCL := Hid.mk' hcl
          obtain ⟨c0, c1, c2, c7⟩ := hcl wr f HR.out
          obtain ⟨qc, qo, qv⟩ := q
          simp only at c0 c1 c2
          clear hc hq hcl
          cases qc with
          | true =>
            have h11 : ∀ nn, Calls Try.prog 11 #[.pointer (some ⟨w.heap.size + 2, 0, none⟩), .int .i64 qo] (wr.drewN nn) fun e w' => ∃ v, e = .returned v ∧ Hid (TT w w' (w.heap.size + 2) (cutF f 0 qo) (lb0 (w.heap.size + 2) w.heap.size b7 lo) []) ∧ w'.cell? ⟨b, ob + i * 3 + 1, none⟩ = some (.int .i64 qo) ∧ w'.cell? ⟨b7, 0, none⟩ = some (.pointer (some ⟨w.heap.size + 2, 0, none⟩)) := by
              intro nn
              refine (tt_cut (Hid.mk' (HR.out.drewN nn)) qo).mono ?_
              rintro e w' ⟨v, rfl, h'⟩
              obtain ⟨_, x1, _, x3⟩ := HCL.out w' _ h'.out
              exact ⟨v, rfl, h', x1, x3⟩
            have H11 := Hid.mk' h11
            clear h11
            go_wp2
            go_region_held3 (fun wx => wx.cell? ⟨b, ob + i * 3 + 1, none⟩ = some (.int .i64 qo) ∧ wx.cell? ⟨b7, 0, none⟩ = some (.pointer (some ⟨w.heap.size + 2, 0, none⟩)))
              (first | go_keep)
              (first
                | (go_at_call 11; refine (H11.out _).mono ?_; rintro e w5 ⟨v5, rfl, H5, x1, x2⟩))
            all_goals
              go_wp2
              go_roundw
              case rel => exact ⟨i + 1, _, by omega, by omega, by go_num, HF2, H5⟩
              case measure => simp [intOf]; omega
          | false =>
            have h12 : ∀ nn, Calls Try.prog 12 #[.pointer (some ⟨w.heap.size + 2, 0, none⟩), .int .i64 qo, .int .i64 qv] (wr.drewN nn) fun e w' => ∃ v, e = .returned v ∧ Hid (TT w w' (w.heap.size + 2) (setF f qo qv) (lb0 (w.heap.size + 2) w.heap.size b7 lo) []) ∧ w'.cell? ⟨b, ob + i * 3 + 1, none⟩ = some (.int .i64 qo) ∧ w'.cell? ⟨b, ob + i * 3 + 2, none⟩ = some (.int .i64 qv) ∧ w'.cell? ⟨b7, 0, none⟩ = some (.pointer (some ⟨w.heap.size + 2, 0, none⟩)) := by
              intro nn
              refine (tt_set (Hid.mk' (HR.out.drewN nn)) qo qv).mono ?_
              rintro e w' ⟨v, rfl, h'⟩
              obtain ⟨_, x1, x2, x3⟩ := HCL.out w' _ h'.out
              exact ⟨v, rfl, h', x1, x2, x3⟩
            have H12 := Hid.mk' h12
            clear h12
            go_wp2
            go_region_held3 (fun wx => wx.cell? ⟨b, ob + i * 3 + 1, none⟩ = some (.int .i64 qo) ∧ wx.cell? ⟨b, ob + i * 3 + 2, none⟩ = some (.int .i64 qv) ∧ wx.cell? ⟨b7, 0, none⟩ = some (.pointer (some ⟨w.heap.size + 2, 0, none⟩)))
              (first | go_keep)
              (first
                | (go_at_call 12; refine (H12.out _).mono ?_; rintro e w5 ⟨v5, rfl, H5, x1, x2, x3⟩))
            all_goals
              go_wp2
              go_roundw
              case rel => exact ⟨i + 1, _, by omega, by omega, by go_num, HF2, H5⟩
              case measure => simp [intOf]; omega
        · have h1' : (i : Int) < (lm.length : Int) := by omega
          have h4' : ¬ (i : Int) < 400 := by omega
          go_wp2
          go_meet
          case rel => exact ⟨f, Hid.mk' (fun h => by omega), HR⟩
      · have h1' : ¬ (i : Int) < (lm.length : Int) := by omega
        go_wp2
        go_meet
        case rel => exact ⟨f, Hid.mk' (fun h => by rw [HF.out]; exact laterF_whole h (by omega)), HR⟩
  case rest =>
    obtain ⟨f, HFW, HR⟩ := hcut
    obtain ⟨i0, hi', hz0, hz1, hz2⟩ := info_parts info30P
    have hn0 : wc.ownsRow wc.heap.size 30 3 (.slice none 0 0) 0 [] := World.ownsRow_nil _ _ _ _
    have hns := (HP.out.grown HR.out.keep).news
    go_upto_region 15 with (first
      | (at_builtin; refine wpList_append_any _ rfl _ _ 22 rfl wc.heap.size 30 i0 _ 3 24 Try.underlying22 hi' hz0 hz1 hz2 rfl (by decide) _ (0 + l.length) ([] ++ pcells l) rfl G1.out.1 pm lm.length capm (pcells lm) rfl (pcells_len lm) G1.out.2.2 (pcells_one lm) (by unfold maxLen; omega) (by omega) G1.out.2.1.1 ?_; intro v2 w6 r6 g6; have G2 : Hid (TT w w6 (w.heap.size + 2) f (lb0 (w.heap.size + 2) w.heap.size b7 lo) [] ∧ World.ownsRow w6 wc.heap.size 30 3 v2 (l ++ lm).length (pcells (l ++ lm))) := Hid.mk' ⟨G1.out.2.1.2.row30 g6 G1.out.1 HR.out.keep.size (lb0_not30 _ _ _ _), by rw [List.length_append, pcells_append]; simpa using r6⟩; clear r6 g6 G1; obtain ⟨wh, hwh⟩ : ∃ wh, l ++ lm = wh := ⟨_, rfl⟩; have HWH : Hid (wh.length = l.length + lm.length) := Hid.mk' (by rw [← hwh, List.length_append]); rw [hwh] at G2 HFW; clear hwh; obtain ⟨pw, cw, e2, _⟩ := puts_of_row G2.out.2; subst e2)
      | (at_builtin; go_must (refine wpList_append_any _ rfl _ _ 22 rfl wc.heap.size 30 i0 _ 3 24 Try.underlying22 hi' hz0 hz1 hz2 rfl (by decide) _ 0 [] rfl hn0 p l.length cap (pcells l) rfl (pcells_len l) hns (pcells_one l) (by unfold maxLen; omega) (by omega) (Nat.le_refl _) ?_); intro v1 w5 r5 g5; have k5 : Keeps (fun _ => False) wc w5 := Keeps.of g5 (by intro k hk; cases hk); have G1 := Hid.mk' (And.intro r5 (And.intro (And.intro k5.size (HR.out.grown k5)) ((HM.out.grown (HR.out.keep.trans k5)).news))); clear r5 g5 k5 hn0 hns))
    obtain ⟨b12, hb12⟩ : ∃ b, w6.heap.size = b := ⟨_, rfl⟩
    obtain ⟨wb, hwb⟩ : ∃ b, wc.heap.size = b := ⟨_, rfl⟩
    have hb712 : b7 + 3 < b12 := by have := (G2.out.1.bx (b := b7 + 3) (ty := 27) (v := fnv b7) (by simp [lb0])).lt; omega
    have HW0 : Hid (TT w (w6.alloc (.cells #[.int .i64 0] 3)) (w.heap.size + 2) f ((b12, 3, .int .i64 ((0 : Nat) : Int)) :: lb0 (w.heap.size + 2) w.heap.size b7 lo) [] ∧ World.ownsRow (w6.alloc (.cells #[.int .i64 0] 3)) wb 30 3 (.slice pw wh.length cw) wh.length (pcells wh)) := Hid.mk' (by
      have h := G2.out.1.newb 3 (.int .i64 0)
      have h2 := G2.out.2
      rw [hb12] at h
      rw [hwb] at h2
      exact ⟨h, h2.alloc _⟩)
    obtain ⟨W7, hW7⟩ : ∃ W, w6.alloc (.cells #[.int .i64 0] 3) = W := ⟨_, rfl⟩
    rw [hW7] at HW0
    simp only [hb12, hW7]
    have HWL : Hid (∀ o : Nat, o < 512 → l.length + lm.length ≤ 400 → lastV wh (o : Int) = f o) := Hid.mk' (fun o ho h => by
      rw [lastV, List.take_of_length_le (by have := HWH.out; omega), HFW.out h, play_last _ _ ho])
    clear hW7 hb12 hwb G2 HR HFW hz0 hz1 hz2 hi'
    iterate 7 go_step
    go_cut [] from 25 (fun wd => Hid (TT w wd (w.heap.size + 2) f ((b12, 3, .int .i64 ((els f lo 0 512).length : Int)) :: lb0 (w.heap.size + 2) w.heap.size b7 lo) []))
    case first =>
      go_step
      go_loopw [13] (fun c wr => ∃ (i wt : Nat), i ≤ 512 ∧ c = .int .i64 i ∧ Hid (wt = (els f lo 0 i).length) ∧ Hid (TT w wr (w.heap.size + 2) f ((b12, 3, .int .i64 (wt : Int)) :: lb0 (w.heap.size + 2) w.heap.size b7 lo) [] ∧ World.ownsRow wr wb 30 3 (.slice pw wh.length cw) wh.length (pcells wh))) (fun c _ => 512 - (intOf c).toNat)
      case atStart => exact ⟨0, 0, by omega, rfl, Hid.mk' (by simp [els_zero]), HW0⟩
      case round =>
        clear HW0
        obtain ⟨j, wt, hj, rfl, HWT, HR⟩ := hrel
        have hwt : wt ≤ 512 := by have := els_len f lo 0 j; have := HWT.out; omega
        by_cases hj1 : j < 512
        · have hj2 : (j : Int) < 512 := by omega
          have hcl : ∀ (ww : World) (v : Nat), (TT w ww (w.heap.size + 2) f ((b12, 3, .int .i64 (v : Int)) :: lb0 (w.heap.size + 2) w.heap.size b7 lo) [] ∧ World.ownsRow ww wb 30 3 (.slice pw wh.length cw) wh.length (pcells wh)) → ww.cell? ⟨w.heap.size, 0, none⟩ = some (.int .i64 lo) ∧ ww.cell? ⟨b7, 0, none⟩ = some (.pointer (some ⟨w.heap.size + 2, 0, none⟩)) := fun ww v h => ⟨(h.1.bx (b := w.heap.size) (ty := 3) (v := .int .i64 lo) (by simp [lb0])).cell, (h.1.bx (b := b7) (ty := 23) (v := .pointer (some ⟨w.heap.size + 2, 0, none⟩)) (by simp [lb0])).cell⟩
          obtain ⟨x, hx⟩ : ∃ x, f j = x := ⟨_, rfl⟩
          have hgx : getF f (j : Int) = x := by rw [getF_natL f hj1]; exact hx
          have hg : ∀ (W : World) (v : Nat), Hid (TT w W (w.heap.size + 2) f ((b12, 3, .int .i64 (v : Int)) :: lb0 (w.heap.size + 2) w.heap.size b7 lo) [] ∧ World.ownsRow W wb 30 3 (.slice pw wh.length cw) wh.length (pcells wh)) → Calls Try.prog 13 #[.pointer (some ⟨w.heap.size + 2, 0, none⟩), .int .i64 (j : Int)] W fun e w' => e = .returned (.int .i64 x) ∧ Hid (TT w w' (w.heap.size + 2) f ((b12, 3, .int .i64 (v : Int)) :: lb0 (w.heap.size + 2) w.heap.size b7 lo) [] ∧ World.ownsRow w' wb 30 3 (.slice pw wh.length cw) wh.length (pcells wh)) ∧ w'.cell? ⟨w.heap.size, 0, none⟩ = some (.int .i64 lo) ∧ w'.cell? ⟨b7, 0, none⟩ = some (.pointer (some ⟨w.heap.size + 2, 0, none⟩)) := fun W v H => by
            refine (tt_get (Hid.mk' H.out.1) (j : Int) x hgx).mono ?_
            rintro e w' ⟨rfl, h'⟩
            have h2 : TT w w' (w.heap.size + 2) f ((b12, 3, .int .i64 (v : Int)) :: lb0 (w.heap.size + 2) w.heap.size b7 lo) [] ∧ World.ownsRow w' wb 30 3 (.slice pw wh.length cw) wh.length (pcells wh) := ⟨h'.out.1, ownsRow_keeps H.out.2 h'.out.2 (fun _ _ h => h)⟩
            exact ⟨rfl, h2, hcl w' v h2⟩
          have hl14 : ∀ (W : World) (v : Nat), Hid (TT w W (w.heap.size + 2) f ((b12, 3, .int .i64 (v : Int)) :: lb0 (w.heap.size + 2) w.heap.size b7 lo) [] ∧ World.ownsRow W wb 30 3 (.slice pw wh.length cw) wh.length (pcells wh)) → l.length + lm.length ≤ 400 → Calls Try.prog 14 #[.slice pw wh.length cw, .int .i64 (j : Int)] W fun e w' => e = .returned (.int .i64 x) ∧ w' = W := fun W v H h4 => by
            obtain ⟨pw', cw', e', hpw⟩ := puts_of_row H.out.2
            cases e'
            have := last_any W pw wh cw (j : Int) hpw (by have := HWH.out; unfold maxLen; omega)
            rw [HWL.out j hj1 h4, hx] at this
            exact this
          have HCL := Hid.mk' hcl
          have HG := Hid.mk' hg
          have HLA := Hid.mk' hl14
          obtain ⟨c5, c7⟩ := hcl wr wt HR.out
          have HE1 := Hid.mk' (els_step f lo hj1)
          rw [hx] at HE1
          clear hcl hg hl14 hgx hx
          by_cases hlo : lo ≤ (j : Int)
          · by_cases hx0 : x = 0
            · have hx1 : (x != 0) = false := by simpa using hx0
              by_cases h400 : l.length ≤ 400
              · have h400' : (l.length : Int) ≤ 400 := by omega
                by_cases hw400 : l.length + lm.length ≤ 400
                · have hw400' : (wh.length : Int) ≤ 400 := by have := HWH.out; omega
                  go_wp2_with (first
                    | (go_at_call 14; refine (HLA.out _ _ GS hw400).mono ?_; rintro e w0 ⟨rfl, hw0⟩; subst w0)
                    | (go_at_call 13; refine (HG.out _ _ G8).mono ?_; rintro e w11 ⟨rfl, GS, s1, s2⟩)
                    | (go_at_call 13; refine (HG.out _ _ HR).mono ?_; rintro e w8 ⟨rfl, G8, s3, s4⟩))
                  all_goals
                    go_roundw
                    case rel => exact ⟨j + 1, wt, by omega, by go_num, Hid.mk' (by have h1 := HE1.out; have h2 := HWT.out; rw [if_neg (fun h => h.2 hx0)] at h1; omega), GS⟩
                    case measure => simp [intOf]; omega
                · have hw400' : ¬ (wh.length : Int) ≤ 400 := by have := HWH.out; omega
                  go_wp2_with (first
                    | (go_at_call 13; refine (HG.out _ _ HR).mono ?_; rintro e w8 ⟨rfl, G8, s3, s4⟩))
                  all_goals
                    go_roundw
                    case rel => exact ⟨j + 1, wt, by omega, by go_num, Hid.mk' (by have h1 := HE1.out; have h2 := HWT.out; rw [if_neg (fun h => h.2 hx0)] at h1; omega), G8⟩
                    case measure => simp [intOf]; omega
              · have h400' : ¬ (l.length : Int) ≤ 400 := by omega
                go_wp2_with (first
                  | (go_at_call 13; refine (HG.out _ _ HR).mono ?_; rintro e w8 ⟨rfl, G8, s3, s4⟩))
                all_goals
                  go_roundw
                  case rel => exact ⟨j + 1, wt, by omega, by go_num, Hid.mk' (by have h1 := HE1.out; have h2 := HWT.out; rw [if_neg (fun h => h.2 hx0)] at h1; omega), G8⟩
                  case measure => simp [intOf]; omega
            · have hx1 : (x != 0) = true := by simpa using hx0
              by_cases h400 : l.length ≤ 400
              · have h400' : (l.length : Int) ≤ 400 := by omega
                by_cases hw400 : l.length + lm.length ≤ 400
                · have hw400' : (wh.length : Int) ≤ 400 := by have := HWH.out; omega
                  go_wp2_with (first
                    | (go_at_call 14; refine (HLA.out _ _ GS hw400).mono ?_; rintro e w0 ⟨rfl, hw0⟩; subst w0)
                    | (go_at_call 13; refine (HG.out _ _ G8).mono ?_; rintro e w11 ⟨rfl, GS, s1, s2⟩)
                    | (go_at_call 13; refine (HG.out _ _ HR).mono ?_; rintro e w8 ⟨rfl, G8', s3', s4'⟩; have d1 := (G8'.out.1.bx (b := b12) (ty := 3) (v := .int .i64 (wt : Int)) (by simp)).cell; have d2 := (G8'.out.1.bx (b := b12) (ty := 3) (v := .int .i64 (wt : Int)) (by simp)).frozen; have G8 : Hid (TT w (w8.setCell ⟨b12, 0, none⟩ (.int .i64 ((wt : Int) + 1))) (w.heap.size + 2) f ((b12, 3, .int .i64 ((wt + 1 : Nat) : Int)) :: lb0 (w.heap.size + 2) w.heap.size b7 lo) [] ∧ World.ownsRow (w8.setCell ⟨b12, 0, none⟩ (.int .i64 ((wt : Int) + 1))) wb 30 3 (.slice pw wh.length cw) wh.length (pcells wh)) := Hid.mk' (wantUp G8'.out hb712 hb75 (wt + 1)); clear G8' s3' s4'; generalize hWc : w8.setCell ⟨b12, 0, none⟩ (.int .i64 ((wt : Int) + 1)) = Wc at *; have s34 := HCL.out _ _ G8.out; obtain ⟨s3, s4⟩ := s34))
                  all_goals
                    go_roundw
                    case rel => exact ⟨j + 1, wt + 1, by omega, by go_num, Hid.mk' (by have h1 := HE1.out; have h2 := HWT.out; rw [if_pos ⟨hlo, hx0⟩] at h1; omega), GS⟩
                    case measure => simp [intOf]; omega
                · have hw400' : ¬ (wh.length : Int) ≤ 400 := by have := HWH.out; omega
                  go_wp2_with (first
                    | (go_at_call 13; refine (HG.out _ _ HR).mono ?_; rintro e w8 ⟨rfl, G8', s3', s4'⟩; have d1 := (G8'.out.1.bx (b := b12) (ty := 3) (v := .int .i64 (wt : Int)) (by simp)).cell; have d2 := (G8'.out.1.bx (b := b12) (ty := 3) (v := .int .i64 (wt : Int)) (by simp)).frozen; have G8 : Hid (TT w (w8.setCell ⟨b12, 0, none⟩ (.int .i64 ((wt : Int) + 1))) (w.heap.size + 2) f ((b12, 3, .int .i64 ((wt + 1 : Nat) : Int)) :: lb0 (w.heap.size + 2) w.heap.size b7 lo) [] ∧ World.ownsRow (w8.setCell ⟨b12, 0, none⟩ (.int .i64 ((wt : Int) + 1))) wb 30 3 (.slice pw wh.length cw) wh.length (pcells wh)) := Hid.mk' (wantUp G8'.out hb712 hb75 (wt + 1)); clear G8' s3' s4'; generalize hWc : w8.setCell ⟨b12, 0, none⟩ (.int .i64 ((wt : Int) + 1)) = Wc at *; have s34 := HCL.out _ _ G8.out; obtain ⟨s3, s4⟩ := s34))
                  all_goals
                    go_roundw
                    case rel => exact ⟨j + 1, wt + 1, by omega, by go_num, Hid.mk' (by have h1 := HE1.out; have h2 := HWT.out; rw [if_pos ⟨hlo, hx0⟩] at h1; omega), G8⟩
                    case measure => simp [intOf]; omega
              · have h400' : ¬ (l.length : Int) ≤ 400 := by omega
                go_wp2_with (first
                  | (go_at_call 13; refine (HG.out _ _ HR).mono ?_; rintro e w8 ⟨rfl, G8', s3', s4'⟩; have d1 := (G8'.out.1.bx (b := b12) (ty := 3) (v := .int .i64 (wt : Int)) (by simp)).cell; have d2 := (G8'.out.1.bx (b := b12) (ty := 3) (v := .int .i64 (wt : Int)) (by simp)).frozen; have G8 : Hid (TT w (w8.setCell ⟨b12, 0, none⟩ (.int .i64 ((wt : Int) + 1))) (w.heap.size + 2) f ((b12, 3, .int .i64 ((wt + 1 : Nat) : Int)) :: lb0 (w.heap.size + 2) w.heap.size b7 lo) [] ∧ World.ownsRow (w8.setCell ⟨b12, 0, none⟩ (.int .i64 ((wt : Int) + 1))) wb 30 3 (.slice pw wh.length cw) wh.length (pcells wh)) := Hid.mk' (wantUp G8'.out hb712 hb75 (wt + 1)); clear G8' s3' s4'; generalize hWc : w8.setCell ⟨b12, 0, none⟩ (.int .i64 ((wt : Int) + 1)) = Wc at *; have s34 := HCL.out _ _ G8.out; obtain ⟨s3, s4⟩ := s34))
                all_goals
                  go_roundw
                  case rel => exact ⟨j + 1, wt + 1, by omega, by go_num, Hid.mk' (by have h1 := HE1.out; have h2 := HWT.out; rw [if_pos ⟨hlo, hx0⟩] at h1; omega), G8⟩
                  case measure => simp [intOf]; omega
          · by_cases h400 : l.length ≤ 400
            · have h400' : (l.length : Int) ≤ 400 := by omega
              by_cases hw400 : l.length + lm.length ≤ 400
              · have hw400' : (wh.length : Int) ≤ 400 := by have := HWH.out; omega
                go_wp2_with (first
                  | (go_at_call 14; refine (HLA.out _ _ GS hw400).mono ?_; rintro e w0 ⟨rfl, hw0⟩; subst w0)
                  | (go_at_call 13; refine (HG.out _ _ HR).mono ?_; rintro e w11 ⟨rfl, GS, s1, s2⟩))
                all_goals
                  go_roundw
                  case rel => exact ⟨j + 1, wt, by omega, by go_num, Hid.mk' (by have h1 := HE1.out; have h2 := HWT.out; rw [if_neg (fun h => by have := h.1; omega)] at h1; omega), GS⟩
                  case measure => simp [intOf]; omega
              · have hw400' : ¬ (wh.length : Int) ≤ 400 := by have := HWH.out; omega
                go_wp2
                all_goals
                  go_roundw
                  case rel => exact ⟨j + 1, wt, by omega, by go_num, Hid.mk' (by have h1 := HE1.out; have h2 := HWT.out; rw [if_neg (fun h => by have := h.1; omega)] at h1; omega), HR⟩
                  case measure => simp [intOf]; omega
            · have h400' : ¬ (l.length : Int) ≤ 400 := by omega
              go_wp2
              all_goals
                go_roundw
                case rel => exact ⟨j + 1, wt, by omega, by go_num, Hid.mk' (by have h1 := HE1.out; have h2 := HWT.out; rw [if_neg (fun h => by have := h.1; omega)] at h1; omega), HR⟩
                case measure => simp [intOf]; omega
        · have hj2 : ¬ (j : Int) < 512 := by omega
          have hj5 : j = 512 := by omega
          have HRR : Hid (TT w wr (w.heap.size + 2) f ((b12, 3, .int .i64 ((els f lo 0 512).length : Int)) :: lb0 (w.heap.size + 2) w.heap.size b7 lo) []) := Hid.mk' (by have h := HR.out.1; rw [HWT.out, hj5] at h; exact h)
          clear hj5 HR HWT
          go_wp2
          go_meet
          case rel => exact HRR
    case rest =>
      obtain ⟨L, hL⟩ : ∃ L, els f lo 0 512 = L := ⟨_, rfl⟩
      have hLl := els_len f lo 0 512
      rw [hL] at hcut hLl
      have HL := Hid.mk' hL
      have HFL : Hid (∀ pre x, pre ++ [x] <+: L → lastO pre < (x.1.val : Int) ∧ lo ≤ (x.1.val : Int) ∧ x.2 = getF f (x.1.val : Int) ∧ x.2 ≠ 0) := Hid.mk' (fun pre x h => by
        rw [← hL] at h
        have h2 := lastO_lt h
        exact ⟨h2.1, h2.2.1, (els_mem_le h).2, h2.2.2.2⟩)
      clear hL HWL HWH HP HM
      have HB0 := Hid.mk' (hcut.out.newb 3 (.int .i64 0))
      have hbr : b12 < wc.heap.size := (hcut.out.bx (b := b12) (ty := 3) (v := .int .i64 (L.length : Int)) (by simp)).lt
      clear hcut
      go_wp2
      refine wp_loop_rounds 3 ?_
      rw [rounds_succ]
      obtain ⟨br0, hbr0⟩ : ∃ b, wc.heap.size = b := ⟨_, rfl⟩
      have hbb0 : b12 < br0 := by omega
      rw [hbr0] at HB0
      obtain ⟨WW0, hWW0⟩ : ∃ W, wc.alloc (.cells #[.int .i64 0] 3) = W := ⟨_, rfl⟩
      rw [hWW0] at HB0
      simp only [hbr0, hWW0]
      clear hWW0 hbr0
      obtain ⟨bl0, hbl0⟩ : ∃ b, WW0.heap.size = b := ⟨_, rfl⟩
      have hlt0 : br0 < bl0 := by have := (HB0.out.bx (b := br0) (ty := 3) (v := .int .i64 0) (List.Mem.head _)).lt; omega
      have hdd0 : ∀ k ∈ ([] : List Nat), k < bl0 := fun k hk => by have := heap_lt (HB0.out.nc k hk); omega
      have HDD0 := Hid.mk' hdd0
      obtain ⟨WL0, hWL0⟩ : ∃ W, (WW0.alloc (.cells #[.int .i64 0] 3)).alloc (.cells #[.int .i64 (-1)] 3) = W := ⟨_, rfl⟩
      have HN0 := (HB0.out.newb 3 (.int .i64 0)).newb 3 (.int .i64 (-1))
      rw [hWL0] at HN0
      have cF0 : WL0.cell? ⟨b7 + 1 + 1 + 1, 0, none⟩ = some (.func (.func 31) #[] #[.pointer (some ⟨b7 + 1, 0, none⟩), .pointer (some ⟨b7 + 1 + 1, 0, none⟩)]) := (HN0.bx (b := b7 + 3) (ty := 27) (v := fnv b7) (List.Mem.tail _ (List.Mem.tail _ (List.Mem.tail _ (List.Mem.tail _ (List.Mem.head _)))))).cell
      have HE0 : Hid ((IO w (w.heap.size + 2) w.heap.size b7 b12 br0 bl0 L.length lo 0 f []) [] WL0) := Hid.mk' (by
        have h := HN0
        simp only [World.size_alloc, hbl0] at h
        exact h)
      have hszL0 : WL0.heap.size = bl0 + 2 := by rw [← hWL0]; simp only [World.size_alloc, hbl0]
      have cr0 := (HB0.out.bx (b := br0) (ty := 3) (v := .int .i64 0) (List.Mem.head _)).cell
      clear HN0
      go_wp2
      try simp only [hbl0, hWL0]
      clear hWL0 hbl0 cF0 cr0 HB0
      have hE0 : TT w WL0 (w.heap.size + 2) f (obs (w.heap.size + 2) w.heap.size b7 b12 br0 bl0 lo L.length 0 (lastO []) (([] : List El).length : Int)) [] := HE0.out
      have hseq0 := from_stops 8 (b7 + 1) (b7 + 1 + 1) (w.heap.size + 2) lo f WL0 (hE0.bx (b := b7 + 1) (ty := 23) (v := .pointer (some ⟨w.heap.size + 2, 0, none⟩)) (List.Mem.tail _ (List.Mem.tail _ (List.Mem.tail _ (List.Mem.tail _ (List.Mem.tail _ (List.Mem.tail _ (List.Mem.head _)))))))).cell (hE0.bx (b := b7 + 1 + 1) (ty := 3) (v := .int .i64 lo) (List.Mem.tail _ (List.Mem.tail _ (List.Mem.tail _ (List.Mem.tail _ (List.Mem.tail _ (List.Mem.head _))))))).cell hE0.tree
      rw [HL.out] at hseq0
      clear hE0
      have HO0 : Hid (w.heap.size + 1 < b7 ∧ b7 + 3 < b12 ∧ b12 < br0 ∧ br0 < bl0) := Hid.mk' (by omega)
      refine wpIn_wide.1 (rangeFunc_h (n := 9) rfl (by decide) (gf := 31) (lb := #[.pointer (some ⟨b7 + 1, 0, none⟩), .pointer (some ⟨b7 + 1 + 1, 0, none⟩)]) rfl trivial (enters_of Try.func31 (by kernel_rfl) rfl)
        hseq0 (fun h k => h.trans k) KeepS.refl (keepS_b WL0) (Below.refl _ _) (fun _ => rfl)
        (IO w (w.heap.size + 2) w.heap.size b7 b12 br0 bl0 L.length lo 0 f []) (AmX L) (IO.own (by omega) (fun k hk => by have := hdd0 k hk; omega)) (amx_own L) HE0.out
        (fun x' t => (((t.setIfInBounds 112 (.int .i64 (x'.1.val : Int))).setIfInBounds 113 (.int .i64 x'.2)).setIfInBounds 17 (.int .i64 (x'.1.val : Int))).setIfInBounds 18 (.int .i64 x'.2))
        (fun c pre W hS hx => hx.2 hS) ?assign0 ?body0 ?done0)
      case assign0 =>
        intro r x' W K hK
        simp only [encs]
        gi_wp2
        simpa using hK
      case body0 =>
        rintro lr pre ⟨⟨xo, hxo⟩, xv⟩ W hlB hrec hI hpl
        simp only [List.setIfInBounds_toArray, List.set_cons_zero, List.set_cons_succ]
        have hbo := lastO_bd pre
        obtain ⟨la, hla⟩ : ∃ la, lastO pre = la := ⟨_, rfl⟩
        have HI : Hid (TT w W (w.heap.size + 2) f (obs (w.heap.size + 2) w.heap.size b7 b12 br0 bl0 lo L.length 0 la (pre.length : Int)) []) := Hid.mk' (by have h := hI; unfold IO at h; rw [hla] at h; exact h)
        obtain ⟨gx, hgx⟩ : ∃ g, getF f (xo : Int) = g := ⟨_, rfl⟩
        have HFX : Hid (pre ++ [((⟨xo, hxo⟩, xv) : El)] <+: L → la < (xo : Int) ∧ lo ≤ (xo : Int) ∧ xv = gx ∧ xv ≠ 0) := Hid.mk' (fun h => by have := HFL.out _ _ h; rw [hla] at this; simp only [hgx] at this; exact this)
        rw [hla] at hbo
        have HG : Hid (∀ m, CallsIn (Fence.wide.inRound lr) m Try.prog 13 #[.pointer (some ⟨w.heap.size + 2, 0, none⟩), .int .i64 (xo : Int)] W fun e w' => e = .returned (.int .i64 gx) ∧ Hid (TT w w' (w.heap.size + 2) f (obs (w.heap.size + 2) w.heap.size b7 b12 br0 bl0 lo L.length 0 la (pre.length : Int)) [] ∧ KrL WL0.heap.size W w')) := Hid.mk' (fun m => CallsIn.inRound lr (callsIn_wide.2 ((tt_get HI (xo : Int) gx hgx).mono fun e w' ⟨he, h'⟩ => ⟨he, h'.out.1, krl_keep h'.out.2⟩)))
        have ca := (HI.out.bx (b := bl0 + 1) (ty := 3) (v := .int .i64 la) (List.Mem.head _)).cell
        have cf := (HI.out.bx (b := w.heap.size) (ty := 3) (v := .int .i64 lo) (List.Mem.tail _ (List.Mem.tail _ (List.Mem.tail _ (List.Mem.tail _ (List.Mem.tail _ (List.Mem.tail _ (List.Mem.tail _ (List.Mem.tail _ (List.Mem.tail _ (List.Mem.head _))))))))))).cell
        have c7 := (HI.out.bx (b := b7) (ty := 23) (v := .pointer (some ⟨w.heap.size + 2, 0, none⟩)) (List.Mem.tail _ (List.Mem.tail _ (List.Mem.tail _ (List.Mem.tail _ (List.Mem.tail _ (List.Mem.tail _ (List.Mem.tail _ (List.Mem.head _))))))))).cell
        have c6 := (HI.out.bx (b := w.heap.size + 1) (ty := 4) (v := .bool false) (List.Mem.tail _ (List.Mem.tail _ (List.Mem.tail _ (List.Mem.tail _ (List.Mem.tail _ (List.Mem.tail _ (List.Mem.tail _ (List.Mem.tail _ (List.Mem.head _)))))))))).cell
        have f6 := (HI.out.bx (b := w.heap.size + 1) (ty := 4) (v := .bool false) (List.Mem.tail _ (List.Mem.tail _ (List.Mem.tail _ (List.Mem.tail _ (List.Mem.tail _ (List.Mem.tail _ (List.Mem.tail _ (List.Mem.tail _ (List.Mem.head _)))))))))).frozen
        clear hI hla hgx
        by_cases q1 : (xo : Int) ≤ la
        · gi_wp2_with (refine ⟨trivial, ?_⟩)
          exact ⟨(KeepsOthers.setCell _ _ _).from _, rfl, fun h => absurd (HFX.out h).1 (by omega)⟩
        by_cases q2 : (xo : Int) < lo
        · gi_wp2_with (refine ⟨trivial, ?_⟩)
          exact ⟨(KeepsOthers.setCell _ _ _).from _, rfl, fun h => absurd (HFX.out h).2.1 (by omega)⟩
        by_cases q3 : xv = 0
        · subst q3
          gi_wp2_with (refine ⟨trivial, ?_⟩)
          exact ⟨(KeepsOthers.setCell _ _ _).from _, rfl, fun h => absurd rfl (HFX.out h).2.2.2⟩
        have q3b : (xv == 0) = false := by simpa using q3
        by_cases q4 : xv ≠ gx
        · have q4b : (xv != gx) = true := by simpa using q4
          gi_wp2_with (first
            | (refine ⟨trivial, ?_⟩; (try refine ⟨fun h => (by cases h), ?_⟩); gi_at_call 13; refine (HG.out _).mono ?_; clear HG; rintro e w5 ⟨rfl, H5⟩; have s6 := (H5.out.1.bx (b := w.heap.size + 1) (ty := 4) (v := .bool false) (List.Mem.tail _ (List.Mem.tail _ (List.Mem.tail _ (List.Mem.tail _ (List.Mem.tail _ (List.Mem.tail _ (List.Mem.tail _ (List.Mem.tail _ (List.Mem.head _)))))))))).cell; have t6 := (H5.out.1.bx (b := w.heap.size + 1) (ty := 4) (v := .bool false) (List.Mem.tail _ (List.Mem.tail _ (List.Mem.tail _ (List.Mem.tail _ (List.Mem.tail _ (List.Mem.tail _ (List.Mem.tail _ (List.Mem.tail _ (List.Mem.head _)))))))))).frozen))
          exact ⟨H5.out.2.1.trans ((KeepsOthers.setCell _ _ _).from _), rfl, fun h => q4 (HFX.out h).2.2.1⟩
        replace q4 : xv = gx := Decidable.of_not_not q4
        subst q4
        have q4b : (xv != xv) = false := by simp
        by_cases hn : (pre.length : Int) ≠ 0
        · have hnb : ((pre.length : Int) == 0) = false := by simpa using hn
          gi_wp2_with (first
            | (refine ⟨trivial, ?_⟩; (try refine ⟨fun h => (by cases h), ?_⟩); gi_at_call 13; refine (HG.out _).mono ?_; clear HG ca cf c7 c6 f6; rintro e w5 ⟨rfl, H5⟩; have s1 := (H5.out.1.bx (b := bl0 + 1) (ty := 3) (v := .int .i64 la) (List.Mem.head _)).cell; have t1 := (H5.out.1.bx (b := bl0 + 1) (ty := 3) (v := .int .i64 la) (List.Mem.head _)).frozen; have H6 : Hid (TT w (w5.setCell ⟨bl0 + 1, 0, none⟩ (.int .i64 (xo : Int))) (w.heap.size + 2) f (obs (w.heap.size + 2) w.heap.size b7 b12 br0 bl0 lo L.length 0 (xo : Int) (pre.length : Int)) [] ∧ KrL WL0.heap.size W (w5.setCell ⟨bl0 + 1, 0, none⟩ (.int .i64 (xo : Int)))) := Hid.mk' ⟨H5.out.1.atL HO0.out (xo : Int), H5.out.2.trans (krl_box _ (H5.out.1.bx (b := bl0 + 1) (ty := 3) (v := .int .i64 la) (List.Mem.head _)))⟩; clear H5; generalize hW6 : w5.setCell ⟨bl0 + 1, 0, none⟩ (.int .i64 (xo : Int)) = W6 at *; have n0 := (H6.out.1.bx (b := bl0) (ty := 3) (v := .int .i64 (pre.length : Int)) (List.Mem.tail _ (List.Mem.head _))).cell; have n1 := (H6.out.1.bx (b := bl0) (ty := 3) (v := .int .i64 (pre.length : Int)) (List.Mem.tail _ (List.Mem.head _))).frozen; have r0 := (H6.out.1.bx (b := br0) (ty := 3) (v := .int .i64 0) (List.Mem.tail _ (List.Mem.tail _ (List.Mem.head _)))).cell))
          refine ⟨(H6.out.2.trans (krl_box _ (H6.out.1.bx (b := bl0) (ty := 3) (v := .int .i64 (pre.length : Int)) (List.Mem.tail _ (List.Mem.head _))))).1, (H6.out.2.trans (krl_box _ (H6.out.1.bx (b := bl0) (ty := 3) (v := .int .i64 (pre.length : Int)) (List.Mem.tail _ (List.Mem.head _)))) : KrL WL0.heap.size W _).2, ?_⟩
          unfold IO
          rw [lastO_snoc, List.length_append]
          exact H6.out.1.nL HO0.out _
        replace hn : (pre.length : Int) = 0 := Decidable.of_not_not hn
        have hnb : ((pre.length : Int) == 0) = true := by simpa using hn
        have HN := Hid.mk' hn
        clear hn
        gi_wp2_with (first
          | (refine ⟨trivial, ?_⟩; (try refine ⟨fun h => (by cases h), ?_⟩); gi_at_call 13; refine (HG.out _).mono ?_; clear HG ca cf c7 c6 f6; rintro e w5 ⟨rfl, H5⟩; have s1 := (H5.out.1.bx (b := bl0 + 1) (ty := 3) (v := .int .i64 la) (List.Mem.head _)).cell; have t1 := (H5.out.1.bx (b := bl0 + 1) (ty := 3) (v := .int .i64 la) (List.Mem.head _)).frozen; have H6 : Hid (TT w (w5.setCell ⟨bl0 + 1, 0, none⟩ (.int .i64 (xo : Int))) (w.heap.size + 2) f (obs (w.heap.size + 2) w.heap.size b7 b12 br0 bl0 lo L.length 0 (xo : Int) (pre.length : Int)) [] ∧ KrL WL0.heap.size W (w5.setCell ⟨bl0 + 1, 0, none⟩ (.int .i64 (xo : Int)))) := Hid.mk' ⟨H5.out.1.atL HO0.out (xo : Int), H5.out.2.trans (krl_box _ (H5.out.1.bx (b := bl0 + 1) (ty := 3) (v := .int .i64 la) (List.Mem.head _)))⟩; clear H5; generalize hW6 : w5.setCell ⟨bl0 + 1, 0, none⟩ (.int .i64 (xo : Int)) = W6 at *; have n0 := (H6.out.1.bx (b := bl0) (ty := 3) (v := .int .i64 (pre.length : Int)) (List.Mem.tail _ (List.Mem.head _))).cell; have n1 := (H6.out.1.bx (b := bl0) (ty := 3) (v := .int .i64 (pre.length : Int)) (List.Mem.tail _ (List.Mem.head _))).frozen; have r0 := (H6.out.1.bx (b := br0) (ty := 3) (v := .int .i64 0) (List.Mem.tail _ (List.Mem.tail _ (List.Mem.head _)))).cell; have cG : (W6.alloc (.cells #[.int .i64 0] 3)).cell? ⟨b7 + 1 + 1 + 1, 0, none⟩ = some (.func (.func 31) #[] #[.pointer (some ⟨b7 + 1, 0, none⟩), .pointer (some ⟨b7 + 1 + 1, 0, none⟩)]) := ((H6.out.1.newb 3 (.int .i64 0)).bx (b := b7 + 3) (ty := 27) (v := fnv b7) (List.Mem.tail _ (List.Mem.tail _ (List.Mem.tail _ (List.Mem.tail _ (List.Mem.tail _ (List.Mem.head _))))))).cell))
        obtain ⟨bi, hbi⟩ : ∃ b, W6.heap.size = b := ⟨_, rfl⟩
        obtain ⟨W8, hW8⟩ : ∃ W', W6.alloc (.cells #[.int .i64 0] 3) = W' := ⟨_, rfl⟩
        have H8 : Hid ((II w (w.heap.size + 2) w.heap.size b7 b12 br0 bl0 bi L.length lo 0 f [] W WL0.heap.size (xo : Int) (pre.length : Int)) [] W8) := Hid.mk' (by
          have h := H6.out.1.newb 3 (.int .i64 0)
          have k := H6.out.2.trans (krl_keep (Keeps.new W6 (.cells #[.int .i64 0] 3)))
          rw [hW8] at h k
          rw [hbi] at h
          exact ⟨h, k⟩)
        have hbi2 : bl0 + 1 < bi := by have := (H6.out.1.bx (b := bl0 + 1) (ty := 3) (v := .int .i64 (xo : Int)) (List.Mem.head _)).lt; omega
        have hsz8 : W8.heap.size = bi + 1 := by rw [← hW8, World.size_alloc, hbi]
        have HO8 : Hid (w.heap.size + 1 < b7 ∧ b7 + 3 < b12 ∧ b12 < br0 ∧ br0 < bl0 ∧ bl0 + 1 < bi) := Hid.mk' (by have := HO0.out; omega)
        simp only [hbi, hW8]
        clear hbi hW8 cG n0 n1 r0 s1 t1 hW6
        have h8 := H8.out.1
        have k8 := H8.out.2
        have hseqI := (from_stops 6 (b7 + 1) (b7 + 1 + 1) (w.heap.size + 2) lo f W8 (h8.bx (b := b7 + 1) (ty := 23) (v := .pointer (some ⟨w.heap.size + 2, 0, none⟩)) (List.Mem.tail _ (List.Mem.tail _ (List.Mem.tail _ (List.Mem.tail _ (List.Mem.tail _ (List.Mem.tail _ (List.Mem.tail _ (List.Mem.head _))))))))).cell (h8.bx (b := b7 + 1 + 1) (ty := 3) (v := .int .i64 lo) (List.Mem.tail _ (List.Mem.tail _ (List.Mem.tail _ (List.Mem.tail _ (List.Mem.tail _ (List.Mem.tail _ (List.Mem.head _)))))))).cell h8.tree).inRound lr
        rw [HL.out] at hseqI
        obtain ⟨rc, hrc⟩ := hrec
        have hl8 : W8.heap[lr]? = some (.loop rc) := k8.1.same _ _ hlB hrc rfl
        have hWs : W.heap.size ≤ W8.heap.size := k8.1.size
        have hws : w.heap.size ≤ W8.heap.size := h8.keep.size
        clear h8 k8
        refine rangeFunc_n rfl hl8 (by decide) (gf := 31) (lb := #[.pointer (some ⟨b7 + 1, 0, none⟩), .pointer (some ⟨b7 + 1 + 1, 0, none⟩)]) rfl trivial (enters_of Try.func31 (by kernel_rfl) rfl)
          hseqI (fun h k => h.trans k) KeepS.refl (keepS_b W8) (Below.refl _ _) (fun _ => rfl)
          (II w (w.heap.size + 2) w.heap.size b7 b12 br0 bl0 bi L.length lo 0 f [] W WL0.heap.size (xo : Int) (pre.length : Int)) (AmX L) (II.own hws hWs (fun k hk => by have := HDD0.out k hk; omega)) (amx_own L) H8.out
          (fun x' t => (((t.setIfInBounds 138 (.int .i64 (x'.1.val : Int))).setIfInBounds 139 (.int .i64 x'.2)).setIfInBounds 20 (.int .i64 (x'.1.val : Int))).setIfInBounds 21 (.int .i64 x'.2))
          (fun c pre W hS hx => hx.2 hS) ?assignI ?bodyI ?doneI
        case assignI =>
          intro r x' W K hK
          simp only [encs]
          gi_wp2
          simpa using hK
        case bodyI =>
          rintro l2 pre2 ⟨⟨yo, hyo⟩, yv⟩ W9 ⟨h9, k9⟩ hpl2
          simp only [List.setIfInBounds_toArray, List.set_cons_zero, List.set_cons_succ]
          obtain ⟨gy, hgy⟩ : ∃ g, getF f (yo : Int) = g := ⟨_, rfl⟩
          have HFY : Hid (pre2 ++ [((⟨yo, hyo⟩, yv) : El)] <+: L → lo ≤ (yo : Int) ∧ yv = gy) := Hid.mk' (fun h => by have := HFL.out _ _ h; simp only [hgy] at this; exact ⟨this.2.1, this.2.2.1⟩)
          have H9 : Hid (TT w W9 (w.heap.size + 2) f ((bi, 3, .int .i64 (pre2.length : Int)) :: (obs (w.heap.size + 2) w.heap.size b7 b12 br0 bl0 lo L.length 0 (xo : Int) (pre.length : Int))) []) := Hid.mk' h9
          have HG : Hid (∀ m, CallsIn ((Fence.wide.inRound lr).inRound l2) m Try.prog 13 #[.pointer (some ⟨w.heap.size + 2, 0, none⟩), .int .i64 (yo : Int)] W9 fun e w' => e = .returned (.int .i64 gy) ∧ Hid (TT w w' (w.heap.size + 2) f ((bi, 3, .int .i64 (pre2.length : Int)) :: (obs (w.heap.size + 2) w.heap.size b7 b12 br0 bl0 lo L.length 0 (xo : Int) (pre.length : Int))) [] ∧ Keeps (fun _ => False) W9 w')) := Hid.mk' (fun m => CallsIn.inRound l2 (CallsIn.inRound lr (callsIn_wide.2 ((tt_get H9 (yo : Int) gy hgy).mono fun e w' ⟨he, h'⟩ => ⟨he, h'⟩))))
          have HK9 := Hid.mk' k9
          have cf := (h9.bx (b := w.heap.size) (ty := 3) (v := .int .i64 lo) (List.Mem.tail _ (List.Mem.tail _ (List.Mem.tail _ (List.Mem.tail _ (List.Mem.tail _ (List.Mem.tail _ (List.Mem.tail _ (List.Mem.tail _ (List.Mem.tail _ (List.Mem.tail _ (List.Mem.head _)))))))))))).cell
          have c7 := (h9.bx (b := b7) (ty := 23) (v := .pointer (some ⟨w.heap.size + 2, 0, none⟩)) (List.Mem.tail _ (List.Mem.tail _ (List.Mem.tail _ (List.Mem.tail _ (List.Mem.tail _ (List.Mem.tail _ (List.Mem.tail _ (List.Mem.tail _ (List.Mem.head _)))))))))).cell
          have c6 := (h9.bx (b := w.heap.size + 1) (ty := 4) (v := .bool false) (List.Mem.tail _ (List.Mem.tail _ (List.Mem.tail _ (List.Mem.tail _ (List.Mem.tail _ (List.Mem.tail _ (List.Mem.tail _ (List.Mem.tail _ (List.Mem.tail _ (List.Mem.head _))))))))))).cell
          have f6 := (h9.bx (b := w.heap.size + 1) (ty := 4) (v := .bool false) (List.Mem.tail _ (List.Mem.tail _ (List.Mem.tail _ (List.Mem.tail _ (List.Mem.tail _ (List.Mem.tail _ (List.Mem.tail _ (List.Mem.tail _ (List.Mem.tail _ (List.Mem.head _))))))))))).frozen
          clear h9 k9 hgy
          by_cases p1 : (yo : Int) < lo
          · gi_wp2_with (refine ⟨trivial, ?_⟩)
            exact ⟨(KeepsOthers.setCell _ _ _).from _, rfl, fun h => absurd (HFY.out h).1 (by omega)⟩
          by_cases p2 : yv ≠ gy
          · have p2b : (yv != gy) = true := by simpa using p2
            gi_wp2_with (first
              | (refine ⟨trivial, ?_⟩; (try refine ⟨fun h => (by cases h), ?_⟩); gi_at_call 13; refine (HG.out _).mono ?_; clear HG; rintro e w9 ⟨rfl, HA⟩; have s6 := (HA.out.1.bx (b := w.heap.size + 1) (ty := 4) (v := .bool false) (List.Mem.tail _ (List.Mem.tail _ (List.Mem.tail _ (List.Mem.tail _ (List.Mem.tail _ (List.Mem.tail _ (List.Mem.tail _ (List.Mem.tail _ (List.Mem.tail _ (List.Mem.head _))))))))))).cell; have t6 := (HA.out.1.bx (b := w.heap.size + 1) (ty := 4) (v := .bool false) (List.Mem.tail _ (List.Mem.tail _ (List.Mem.tail _ (List.Mem.tail _ (List.Mem.tail _ (List.Mem.tail _ (List.Mem.tail _ (List.Mem.tail _ (List.Mem.tail _ (List.Mem.head _))))))))))).frozen))
            exact ⟨(krl_keep HA.out.2).1.trans ((KeepsOthers.setCell _ _ _).from _), rfl, fun h => p2 (HFY.out h).2⟩
          replace p2 : yv = gy := Decidable.of_not_not p2
          subst p2
          have p2b : (yv != yv) = false := by simp
          gi_wp2_with (first
            | (refine ⟨trivial, ?_⟩; (try refine ⟨fun h => (by cases h), ?_⟩); gi_at_call 13; refine (HG.out _).mono ?_; clear HG cf c7 c6 f6; rintro e w9 ⟨rfl, HA⟩; have s1 := (HA.out.1.bx (b := bi) (ty := 3) (v := .int .i64 (pre2.length : Int)) (List.Mem.head _)).cell; have t1 := (HA.out.1.bx (b := bi) (ty := 3) (v := .int .i64 (pre2.length : Int)) (List.Mem.head _)).frozen))
          have hk : ∀ B, KrL B W9 (w9.setCell ⟨bi, 0, none⟩ (.int .i64 ((pre2.length : Int) + 1))) := fun B => (krl_keep HA.out.2).trans (krl_box _ (HA.out.1.bx (b := bi) (ty := 3) (v := .int .i64 (pre2.length : Int)) (List.Mem.head _)))
          refine ⟨(hk _).1, (hk 0).2, ?_, HK9.out.trans (hk _)⟩
          rw [List.length_append]
          exact HA.out.1.inL HO8.out _
        case doneI =>
          rintro xs W10 hS hI10
          rw [show xs = L from hS] at hI10
          obtain ⟨h10, k10⟩ := hI10
          have i0 := (h10.bx (b := bi) (ty := 3) (v := .int .i64 (L.length : Int)) (List.Mem.head _)).cell
          have w0 := (h10.bx (b := b12) (ty := 3) (v := .int .i64 (L.length : Int)) (List.Mem.tail _ (List.Mem.tail _ (List.Mem.tail _ (List.Mem.tail _ (List.Mem.head _)))))).cell
          have n0 := (h10.bx (b := bl0) (ty := 3) (v := .int .i64 (pre.length : Int)) (List.Mem.tail _ (List.Mem.tail _ (List.Mem.head _)))).cell
          have n1 := (h10.bx (b := bl0) (ty := 3) (v := .int .i64 (pre.length : Int)) (List.Mem.tail _ (List.Mem.tail _ (List.Mem.head _)))).frozen
          have h11 := (h10.sub (bs' := (obs (w.heap.size + 2) w.heap.size b7 b12 br0 bl0 lo L.length 0 (xo : Int) (pre.length : Int))) (fun q hq => List.mem_cons_of_mem _ hq))
          have H11 := Hid.mk' (And.intro (h11.nL HO0.out ((pre.length : Int) + 1)) (k10.trans (krl_box (.int .i64 ((pre.length : Int) + 1)) (h11.bx (b := bl0) (ty := 3) (v := .int .i64 (pre.length : Int)) (List.Mem.tail _ (List.Mem.head _))))))
          clear h10 h11 k10
          simp only [Exit.inBlock, Exit.then]
          gi_wp2
          refine ⟨H11.out.2.1, H11.out.2.2, ?_⟩
          unfold IO
          rw [lastO_snoc, List.length_append]
          exact H11.out.1
      case done0 =>
        rintro D0 xs WR0 hDD0 hS hS0 hK0
        rw [show xs = L from hS] at hS0
        unfold IO at hS0
        have HF0 := Hid.mk' (hS0.addD hK0)
        have hDlt0 : bl0 + 2 ≤ D0 := by omega
        have cr := (HF0.out.bx (b := br0) (ty := 3) (v := .int .i64 0) (List.Mem.tail _ (List.Mem.tail _ (List.Mem.head _)))).cell
        have cn := (HF0.out.bx (b := bl0) (ty := 3) (v := .int .i64 (L.length : Int)) (List.Mem.tail _ (List.Mem.head _))).cell
        have cw := (HF0.out.bx (b := b12) (ty := 3) (v := .int .i64 (L.length : Int)) (List.Mem.tail _ (List.Mem.tail _ (List.Mem.tail _ (List.Mem.head _))))).cell
        have hbq1 : b12 < WR0.heap.size := (HF0.out.bx (b := b12) (ty := 3) (v := .int .i64 (L.length : Int)) (List.Mem.tail _ (List.Mem.tail _ (List.Mem.tail _ (List.Mem.head _))))).lt
        clear hS0 hK0 hDD0 HE0 hseq0 hszL0 hdd0 hS xs
        simp only [Exit.inBlock, Exit.then]
        go_wp2
        rw [rounds_succ]
        have HB1 : Hid (TT w (WR0.alloc (.cells #[.int .i64 1] 3)) (w.heap.size + 2) f ((WR0.heap.size, 3, .int .i64 1) :: (b12, 3, .int .i64 (L.length : Int)) :: lb0 (w.heap.size + 2) w.heap.size b7 lo) [D0]) := Hid.mk' (by
          have h := (HF0.out.sub (bs' := (b12, 3, .int .i64 (L.length : Int)) :: lb0 (w.heap.size + 2) w.heap.size b7 lo) (fun q hq => List.mem_cons_of_mem _ (List.mem_cons_of_mem _ (List.mem_cons_of_mem _ hq)))).newb 3 (.int .i64 1)
          exact h)
        clear HF0 cr cn cw
        obtain ⟨br1, hbr1⟩ : ∃ b, WR0.heap.size = b := ⟨_, rfl⟩
        have hbb1 : b12 < br1 := by omega
        rw [hbr1] at HB1
        obtain ⟨WW1, hWW1⟩ : ∃ W, WR0.alloc (.cells #[.int .i64 1] 3) = W := ⟨_, rfl⟩
        rw [hWW1] at HB1
        simp only [hbr1, hWW1]
        clear hWW1 hbr1
        obtain ⟨bl1, hbl1⟩ : ∃ b, WW1.heap.size = b := ⟨_, rfl⟩
        have hlt1 : br1 < bl1 := by have := (HB1.out.bx (b := br1) (ty := 3) (v := .int .i64 1) (List.Mem.head _)).lt; omega
        have hdd1 : ∀ k ∈ ([D0] : List Nat), k < bl1 := fun k hk => by have := heap_lt (HB1.out.nc k hk); omega
        have HDD1 := Hid.mk' hdd1
        obtain ⟨WL1, hWL1⟩ : ∃ W, (WW1.alloc (.cells #[.int .i64 0] 3)).alloc (.cells #[.int .i64 (-1)] 3) = W := ⟨_, rfl⟩
        have HN1 := (HB1.out.newb 3 (.int .i64 0)).newb 3 (.int .i64 (-1))
        rw [hWL1] at HN1
        have cF1 : WL1.cell? ⟨b7 + 1 + 1 + 1, 0, none⟩ = some (.func (.func 31) #[] #[.pointer (some ⟨b7 + 1, 0, none⟩), .pointer (some ⟨b7 + 1 + 1, 0, none⟩)]) := (HN1.bx (b := b7 + 3) (ty := 27) (v := fnv b7) (List.Mem.tail _ (List.Mem.tail _ (List.Mem.tail _ (List.Mem.tail _ (List.Mem.head _)))))).cell
        have HE1 : Hid ((IO w (w.heap.size + 2) w.heap.size b7 b12 br1 bl1 L.length lo 1 f [D0]) [] WL1) := Hid.mk' (by
          have h := HN1
          simp only [World.size_alloc, hbl1] at h
          exact h)
        have hszL1 : WL1.heap.size = bl1 + 2 := by rw [← hWL1]; simp only [World.size_alloc, hbl1]
        have cr1 := (HB1.out.bx (b := br1) (ty := 3) (v := .int .i64 1) (List.Mem.head _)).cell
        clear HN1
        go_wp2
        try simp only [hbl1, hWL1]
        clear hWL1 hbl1 cF1 cr1 HB1
        have hE1 : TT w WL1 (w.heap.size + 2) f (obs (w.heap.size + 2) w.heap.size b7 b12 br1 bl1 lo L.length 1 (lastO []) (([] : List El).length : Int)) [D0] := HE1.out
        have hseq1 := from_stops 8 (b7 + 1) (b7 + 1 + 1) (w.heap.size + 2) lo f WL1 (hE1.bx (b := b7 + 1) (ty := 23) (v := .pointer (some ⟨w.heap.size + 2, 0, none⟩)) (List.Mem.tail _ (List.Mem.tail _ (List.Mem.tail _ (List.Mem.tail _ (List.Mem.tail _ (List.Mem.tail _ (List.Mem.head _)))))))).cell (hE1.bx (b := b7 + 1 + 1) (ty := 3) (v := .int .i64 lo) (List.Mem.tail _ (List.Mem.tail _ (List.Mem.tail _ (List.Mem.tail _ (List.Mem.tail _ (List.Mem.head _))))))).cell hE1.tree
        rw [HL.out] at hseq1
        clear hE1
        have HO1 : Hid (w.heap.size + 1 < b7 ∧ b7 + 3 < b12 ∧ b12 < br1 ∧ br1 < bl1) := Hid.mk' (by omega)
        refine wpIn_wide.1 (rangeFunc_h (n := 9) rfl (by decide) (gf := 31) (lb := #[.pointer (some ⟨b7 + 1, 0, none⟩), .pointer (some ⟨b7 + 1 + 1, 0, none⟩)]) rfl trivial (enters_of Try.func31 (by kernel_rfl) rfl)
          hseq1 (fun h k => h.trans k) KeepS.refl (keepS_b WL1) (Below.refl _ _) (fun _ => rfl)
          (IO w (w.heap.size + 2) w.heap.size b7 b12 br1 bl1 L.length lo 1 f [D0]) (AmX L) (IO.own (by omega) (fun k hk => by have := hdd1 k hk; omega)) (amx_own L) HE1.out
          (fun x' t => (((t.setIfInBounds 112 (.int .i64 (x'.1.val : Int))).setIfInBounds 113 (.int .i64 x'.2)).setIfInBounds 17 (.int .i64 (x'.1.val : Int))).setIfInBounds 18 (.int .i64 x'.2))
          (fun c pre W hS hx => hx.2 hS) ?assign1 ?body1 ?done1)
        case assign1 =>
          intro r x' W K hK
          simp only [encs]
          gi_wp2
          simpa using hK
        case body1 =>
          rintro lr pre ⟨⟨xo, hxo⟩, xv⟩ W hlB hrec hI hpl
          simp only [List.setIfInBounds_toArray, List.set_cons_zero, List.set_cons_succ]
          have hbo := lastO_bd pre
          obtain ⟨la, hla⟩ : ∃ la, lastO pre = la := ⟨_, rfl⟩
          have HI : Hid (TT w W (w.heap.size + 2) f (obs (w.heap.size + 2) w.heap.size b7 b12 br1 bl1 lo L.length 1 la (pre.length : Int)) [D0]) := Hid.mk' (by have h := hI; unfold IO at h; rw [hla] at h; exact h)
          obtain ⟨gx, hgx⟩ : ∃ g, getF f (xo : Int) = g := ⟨_, rfl⟩
          have HFX : Hid (pre ++ [((⟨xo, hxo⟩, xv) : El)] <+: L → la < (xo : Int) ∧ lo ≤ (xo : Int) ∧ xv = gx ∧ xv ≠ 0) := Hid.mk' (fun h => by have := HFL.out _ _ h; rw [hla] at this; simp only [hgx] at this; exact this)
          rw [hla] at hbo
          have HG : Hid (∀ m, CallsIn (Fence.wide.inRound lr) m Try.prog 13 #[.pointer (some ⟨w.heap.size + 2, 0, none⟩), .int .i64 (xo : Int)] W fun e w' => e = .returned (.int .i64 gx) ∧ Hid (TT w w' (w.heap.size + 2) f (obs (w.heap.size + 2) w.heap.size b7 b12 br1 bl1 lo L.length 1 la (pre.length : Int)) [D0] ∧ KrL WL1.heap.size W w')) := Hid.mk' (fun m => CallsIn.inRound lr (callsIn_wide.2 ((tt_get HI (xo : Int) gx hgx).mono fun e w' ⟨he, h'⟩ => ⟨he, h'.out.1, krl_keep h'.out.2⟩)))
          have ca := (HI.out.bx (b := bl1 + 1) (ty := 3) (v := .int .i64 la) (List.Mem.head _)).cell
          have cf := (HI.out.bx (b := w.heap.size) (ty := 3) (v := .int .i64 lo) (List.Mem.tail _ (List.Mem.tail _ (List.Mem.tail _ (List.Mem.tail _ (List.Mem.tail _ (List.Mem.tail _ (List.Mem.tail _ (List.Mem.tail _ (List.Mem.tail _ (List.Mem.head _))))))))))).cell
          have c7 := (HI.out.bx (b := b7) (ty := 23) (v := .pointer (some ⟨w.heap.size + 2, 0, none⟩)) (List.Mem.tail _ (List.Mem.tail _ (List.Mem.tail _ (List.Mem.tail _ (List.Mem.tail _ (List.Mem.tail _ (List.Mem.tail _ (List.Mem.head _))))))))).cell
          have c6 := (HI.out.bx (b := w.heap.size + 1) (ty := 4) (v := .bool false) (List.Mem.tail _ (List.Mem.tail _ (List.Mem.tail _ (List.Mem.tail _ (List.Mem.tail _ (List.Mem.tail _ (List.Mem.tail _ (List.Mem.tail _ (List.Mem.head _)))))))))).cell
          have f6 := (HI.out.bx (b := w.heap.size + 1) (ty := 4) (v := .bool false) (List.Mem.tail _ (List.Mem.tail _ (List.Mem.tail _ (List.Mem.tail _ (List.Mem.tail _ (List.Mem.tail _ (List.Mem.tail _ (List.Mem.tail _ (List.Mem.head _)))))))))).frozen
          clear hI hla hgx
          by_cases q1 : (xo : Int) ≤ la
          · gi_wp2_with (refine ⟨trivial, ?_⟩)
            exact ⟨(KeepsOthers.setCell _ _ _).from _, rfl, fun h => absurd (HFX.out h).1 (by omega)⟩
          by_cases q2 : (xo : Int) < lo
          · gi_wp2_with (refine ⟨trivial, ?_⟩)
            exact ⟨(KeepsOthers.setCell _ _ _).from _, rfl, fun h => absurd (HFX.out h).2.1 (by omega)⟩
          by_cases q3 : xv = 0
          · subst q3
            gi_wp2_with (refine ⟨trivial, ?_⟩)
            exact ⟨(KeepsOthers.setCell _ _ _).from _, rfl, fun h => absurd rfl (HFX.out h).2.2.2⟩
          have q3b : (xv == 0) = false := by simpa using q3
          by_cases q4 : xv ≠ gx
          · have q4b : (xv != gx) = true := by simpa using q4
            gi_wp2_with (first
              | (refine ⟨trivial, ?_⟩; (try refine ⟨fun h => (by cases h), ?_⟩); gi_at_call 13; refine (HG.out _).mono ?_; clear HG; rintro e w5 ⟨rfl, H5⟩; have s6 := (H5.out.1.bx (b := w.heap.size + 1) (ty := 4) (v := .bool false) (List.Mem.tail _ (List.Mem.tail _ (List.Mem.tail _ (List.Mem.tail _ (List.Mem.tail _ (List.Mem.tail _ (List.Mem.tail _ (List.Mem.tail _ (List.Mem.head _)))))))))).cell; have t6 := (H5.out.1.bx (b := w.heap.size + 1) (ty := 4) (v := .bool false) (List.Mem.tail _ (List.Mem.tail _ (List.Mem.tail _ (List.Mem.tail _ (List.Mem.tail _ (List.Mem.tail _ (List.Mem.tail _ (List.Mem.tail _ (List.Mem.head _)))))))))).frozen))
            exact ⟨H5.out.2.1.trans ((KeepsOthers.setCell _ _ _).from _), rfl, fun h => q4 (HFX.out h).2.2.1⟩
          replace q4 : xv = gx := Decidable.of_not_not q4
          subst q4
          have q4b : (xv != xv) = false := by simp
          by_cases hn : (pre.length : Int) ≠ 1
          · have hnb : ((pre.length : Int) == 1) = false := by simpa using hn
            gi_wp2_with (first
              | (refine ⟨trivial, ?_⟩; (try refine ⟨fun h => (by cases h), ?_⟩); gi_at_call 13; refine (HG.out _).mono ?_; clear HG ca cf c7 c6 f6; rintro e w5 ⟨rfl, H5⟩; have s1 := (H5.out.1.bx (b := bl1 + 1) (ty := 3) (v := .int .i64 la) (List.Mem.head _)).cell; have t1 := (H5.out.1.bx (b := bl1 + 1) (ty := 3) (v := .int .i64 la) (List.Mem.head _)).frozen; have H6 : Hid (TT w (w5.setCell ⟨bl1 + 1, 0, none⟩ (.int .i64 (xo : Int))) (w.heap.size + 2) f (obs (w.heap.size + 2) w.heap.size b7 b12 br1 bl1 lo L.length 1 (xo : Int) (pre.length : Int)) [D0] ∧ KrL WL1.heap.size W (w5.setCell ⟨bl1 + 1, 0, none⟩ (.int .i64 (xo : Int)))) := Hid.mk' ⟨H5.out.1.atL HO1.out (xo : Int), H5.out.2.trans (krl_box _ (H5.out.1.bx (b := bl1 + 1) (ty := 3) (v := .int .i64 la) (List.Mem.head _)))⟩; clear H5; generalize hW6 : w5.setCell ⟨bl1 + 1, 0, none⟩ (.int .i64 (xo : Int)) = W6 at *; have n0 := (H6.out.1.bx (b := bl1) (ty := 3) (v := .int .i64 (pre.length : Int)) (List.Mem.tail _ (List.Mem.head _))).cell; have n1 := (H6.out.1.bx (b := bl1) (ty := 3) (v := .int .i64 (pre.length : Int)) (List.Mem.tail _ (List.Mem.head _))).frozen; have r0 := (H6.out.1.bx (b := br1) (ty := 3) (v := .int .i64 1) (List.Mem.tail _ (List.Mem.tail _ (List.Mem.head _)))).cell))
            refine ⟨(H6.out.2.trans (krl_box _ (H6.out.1.bx (b := bl1) (ty := 3) (v := .int .i64 (pre.length : Int)) (List.Mem.tail _ (List.Mem.head _))))).1, (H6.out.2.trans (krl_box _ (H6.out.1.bx (b := bl1) (ty := 3) (v := .int .i64 (pre.length : Int)) (List.Mem.tail _ (List.Mem.head _)))) : KrL WL1.heap.size W _).2, ?_⟩
            unfold IO
            rw [lastO_snoc, List.length_append]
            exact H6.out.1.nL HO1.out _
          replace hn : (pre.length : Int) = 1 := Decidable.of_not_not hn
          have hnb : ((pre.length : Int) == 1) = true := by simpa using hn
          have HN := Hid.mk' hn
          clear hn
          gi_wp2_with (first
            | (refine ⟨trivial, ?_⟩; (try refine ⟨fun h => (by cases h), ?_⟩); gi_at_call 13; refine (HG.out _).mono ?_; clear HG ca cf c7 c6 f6; rintro e w5 ⟨rfl, H5⟩; have s1 := (H5.out.1.bx (b := bl1 + 1) (ty := 3) (v := .int .i64 la) (List.Mem.head _)).cell; have t1 := (H5.out.1.bx (b := bl1 + 1) (ty := 3) (v := .int .i64 la) (List.Mem.head _)).frozen; have H6 : Hid (TT w (w5.setCell ⟨bl1 + 1, 0, none⟩ (.int .i64 (xo : Int))) (w.heap.size + 2) f (obs (w.heap.size + 2) w.heap.size b7 b12 br1 bl1 lo L.length 1 (xo : Int) (pre.length : Int)) [D0] ∧ KrL WL1.heap.size W (w5.setCell ⟨bl1 + 1, 0, none⟩ (.int .i64 (xo : Int)))) := Hid.mk' ⟨H5.out.1.atL HO1.out (xo : Int), H5.out.2.trans (krl_box _ (H5.out.1.bx (b := bl1 + 1) (ty := 3) (v := .int .i64 la) (List.Mem.head _)))⟩; clear H5; generalize hW6 : w5.setCell ⟨bl1 + 1, 0, none⟩ (.int .i64 (xo : Int)) = W6 at *; have n0 := (H6.out.1.bx (b := bl1) (ty := 3) (v := .int .i64 (pre.length : Int)) (List.Mem.tail _ (List.Mem.head _))).cell; have n1 := (H6.out.1.bx (b := bl1) (ty := 3) (v := .int .i64 (pre.length : Int)) (List.Mem.tail _ (List.Mem.head _))).frozen; have r0 := (H6.out.1.bx (b := br1) (ty := 3) (v := .int .i64 1) (List.Mem.tail _ (List.Mem.tail _ (List.Mem.head _)))).cell; have cG : (W6.alloc (.cells #[.int .i64 0] 3)).cell? ⟨b7 + 1 + 1 + 1, 0, none⟩ = some (.func (.func 31) #[] #[.pointer (some ⟨b7 + 1, 0, none⟩), .pointer (some ⟨b7 + 1 + 1, 0, none⟩)]) := ((H6.out.1.newb 3 (.int .i64 0)).bx (b := b7 + 3) (ty := 27) (v := fnv b7) (List.Mem.tail _ (List.Mem.tail _ (List.Mem.tail _ (List.Mem.tail _ (List.Mem.tail _ (List.Mem.head _))))))).cell))
          obtain ⟨bi, hbi⟩ : ∃ b, W6.heap.size = b := ⟨_, rfl⟩
          obtain ⟨W8, hW8⟩ : ∃ W', W6.alloc (.cells #[.int .i64 0] 3) = W' := ⟨_, rfl⟩
          have H8 : Hid ((II w (w.heap.size + 2) w.heap.size b7 b12 br1 bl1 bi L.length lo 1 f [D0] W WL1.heap.size (xo : Int) (pre.length : Int)) [] W8) := Hid.mk' (by
            have h := H6.out.1.newb 3 (.int .i64 0)
            have k := H6.out.2.trans (krl_keep (Keeps.new W6 (.cells #[.int .i64 0] 3)))
            rw [hW8] at h k
            rw [hbi] at h
            exact ⟨h, k⟩)
          have hbi2 : bl1 + 1 < bi := by have := (H6.out.1.bx (b := bl1 + 1) (ty := 3) (v := .int .i64 (xo : Int)) (List.Mem.head _)).lt; omega
          have hsz8 : W8.heap.size = bi + 1 := by rw [← hW8, World.size_alloc, hbi]
          have HO8 : Hid (w.heap.size + 1 < b7 ∧ b7 + 3 < b12 ∧ b12 < br1 ∧ br1 < bl1 ∧ bl1 + 1 < bi) := Hid.mk' (by have := HO1.out; omega)
          simp only [hbi, hW8]
          clear hbi hW8 cG n0 n1 r0 s1 t1 hW6
          have h8 := H8.out.1
          have k8 := H8.out.2
          have hseqI := (from_stops 6 (b7 + 1) (b7 + 1 + 1) (w.heap.size + 2) lo f W8 (h8.bx (b := b7 + 1) (ty := 23) (v := .pointer (some ⟨w.heap.size + 2, 0, none⟩)) (List.Mem.tail _ (List.Mem.tail _ (List.Mem.tail _ (List.Mem.tail _ (List.Mem.tail _ (List.Mem.tail _ (List.Mem.tail _ (List.Mem.head _))))))))).cell (h8.bx (b := b7 + 1 + 1) (ty := 3) (v := .int .i64 lo) (List.Mem.tail _ (List.Mem.tail _ (List.Mem.tail _ (List.Mem.tail _ (List.Mem.tail _ (List.Mem.tail _ (List.Mem.head _)))))))).cell h8.tree).inRound lr
          rw [HL.out] at hseqI
          obtain ⟨rc, hrc⟩ := hrec
          have hl8 : W8.heap[lr]? = some (.loop rc) := k8.1.same _ _ hlB hrc rfl
          have hWs : W.heap.size ≤ W8.heap.size := k8.1.size
          have hws : w.heap.size ≤ W8.heap.size := h8.keep.size
          clear h8 k8
          refine rangeFunc_n rfl hl8 (by decide) (gf := 31) (lb := #[.pointer (some ⟨b7 + 1, 0, none⟩), .pointer (some ⟨b7 + 1 + 1, 0, none⟩)]) rfl trivial (enters_of Try.func31 (by kernel_rfl) rfl)
            hseqI (fun h k => h.trans k) KeepS.refl (keepS_b W8) (Below.refl _ _) (fun _ => rfl)
            (II w (w.heap.size + 2) w.heap.size b7 b12 br1 bl1 bi L.length lo 1 f [D0] W WL1.heap.size (xo : Int) (pre.length : Int)) (AmX L) (II.own hws hWs (fun k hk => by have := HDD1.out k hk; omega)) (amx_own L) H8.out
            (fun x' t => (((t.setIfInBounds 138 (.int .i64 (x'.1.val : Int))).setIfInBounds 139 (.int .i64 x'.2)).setIfInBounds 20 (.int .i64 (x'.1.val : Int))).setIfInBounds 21 (.int .i64 x'.2))
            (fun c pre W hS hx => hx.2 hS) ?assignI ?bodyI ?doneI
          case assignI =>
            intro r x' W K hK
            simp only [encs]
            gi_wp2
            simpa using hK
          case bodyI =>
            rintro l2 pre2 ⟨⟨yo, hyo⟩, yv⟩ W9 ⟨h9, k9⟩ hpl2
            simp only [List.setIfInBounds_toArray, List.set_cons_zero, List.set_cons_succ]
            obtain ⟨gy, hgy⟩ : ∃ g, getF f (yo : Int) = g := ⟨_, rfl⟩
            have HFY : Hid (pre2 ++ [((⟨yo, hyo⟩, yv) : El)] <+: L → lo ≤ (yo : Int) ∧ yv = gy) := Hid.mk' (fun h => by have := HFL.out _ _ h; simp only [hgy] at this; exact ⟨this.2.1, this.2.2.1⟩)
            have H9 : Hid (TT w W9 (w.heap.size + 2) f ((bi, 3, .int .i64 (pre2.length : Int)) :: (obs (w.heap.size + 2) w.heap.size b7 b12 br1 bl1 lo L.length 1 (xo : Int) (pre.length : Int))) [D0]) := Hid.mk' h9
            have HG : Hid (∀ m, CallsIn ((Fence.wide.inRound lr).inRound l2) m Try.prog 13 #[.pointer (some ⟨w.heap.size + 2, 0, none⟩), .int .i64 (yo : Int)] W9 fun e w' => e = .returned (.int .i64 gy) ∧ Hid (TT w w' (w.heap.size + 2) f ((bi, 3, .int .i64 (pre2.length : Int)) :: (obs (w.heap.size + 2) w.heap.size b7 b12 br1 bl1 lo L.length 1 (xo : Int) (pre.length : Int))) [D0] ∧ Keeps (fun _ => False) W9 w')) := Hid.mk' (fun m => CallsIn.inRound l2 (CallsIn.inRound lr (callsIn_wide.2 ((tt_get H9 (yo : Int) gy hgy).mono fun e w' ⟨he, h'⟩ => ⟨he, h'⟩))))
            have HK9 := Hid.mk' k9
            have cf := (h9.bx (b := w.heap.size) (ty := 3) (v := .int .i64 lo) (List.Mem.tail _ (List.Mem.tail _ (List.Mem.tail _ (List.Mem.tail _ (List.Mem.tail _ (List.Mem.tail _ (List.Mem.tail _ (List.Mem.tail _ (List.Mem.tail _ (List.Mem.tail _ (List.Mem.head _)))))))))))).cell
            have c7 := (h9.bx (b := b7) (ty := 23) (v := .pointer (some ⟨w.heap.size + 2, 0, none⟩)) (List.Mem.tail _ (List.Mem.tail _ (List.Mem.tail _ (List.Mem.tail _ (List.Mem.tail _ (List.Mem.tail _ (List.Mem.tail _ (List.Mem.tail _ (List.Mem.head _)))))))))).cell
            have c6 := (h9.bx (b := w.heap.size + 1) (ty := 4) (v := .bool false) (List.Mem.tail _ (List.Mem.tail _ (List.Mem.tail _ (List.Mem.tail _ (List.Mem.tail _ (List.Mem.tail _ (List.Mem.tail _ (List.Mem.tail _ (List.Mem.tail _ (List.Mem.head _))))))))))).cell
            have f6 := (h9.bx (b := w.heap.size + 1) (ty := 4) (v := .bool false) (List.Mem.tail _ (List.Mem.tail _ (List.Mem.tail _ (List.Mem.tail _ (List.Mem.tail _ (List.Mem.tail _ (List.Mem.tail _ (List.Mem.tail _ (List.Mem.tail _ (List.Mem.head _))))))))))).frozen
            clear h9 k9 hgy
            by_cases p1 : (yo : Int) < lo
            · gi_wp2_with (refine ⟨trivial, ?_⟩)
              exact ⟨(KeepsOthers.setCell _ _ _).from _, rfl, fun h => absurd (HFY.out h).1 (by omega)⟩
            by_cases p2 : yv ≠ gy
            · have p2b : (yv != gy) = true := by simpa using p2
              gi_wp2_with (first
                | (refine ⟨trivial, ?_⟩; (try refine ⟨fun h => (by cases h), ?_⟩); gi_at_call 13; refine (HG.out _).mono ?_; clear HG; rintro e w9 ⟨rfl, HA⟩; have s6 := (HA.out.1.bx (b := w.heap.size + 1) (ty := 4) (v := .bool false) (List.Mem.tail _ (List.Mem.tail _ (List.Mem.tail _ (List.Mem.tail _ (List.Mem.tail _ (List.Mem.tail _ (List.Mem.tail _ (List.Mem.tail _ (List.Mem.tail _ (List.Mem.head _))))))))))).cell; have t6 := (HA.out.1.bx (b := w.heap.size + 1) (ty := 4) (v := .bool false) (List.Mem.tail _ (List.Mem.tail _ (List.Mem.tail _ (List.Mem.tail _ (List.Mem.tail _ (List.Mem.tail _ (List.Mem.tail _ (List.Mem.tail _ (List.Mem.tail _ (List.Mem.head _))))))))))).frozen))
              exact ⟨(krl_keep HA.out.2).1.trans ((KeepsOthers.setCell _ _ _).from _), rfl, fun h => p2 (HFY.out h).2⟩
            replace p2 : yv = gy := Decidable.of_not_not p2
            subst p2
            have p2b : (yv != yv) = false := by simp
            gi_wp2_with (first
              | (refine ⟨trivial, ?_⟩; (try refine ⟨fun h => (by cases h), ?_⟩); gi_at_call 13; refine (HG.out _).mono ?_; clear HG cf c7 c6 f6; rintro e w9 ⟨rfl, HA⟩; have s1 := (HA.out.1.bx (b := bi) (ty := 3) (v := .int .i64 (pre2.length : Int)) (List.Mem.head _)).cell; have t1 := (HA.out.1.bx (b := bi) (ty := 3) (v := .int .i64 (pre2.length : Int)) (List.Mem.head _)).frozen))
            have hk : ∀ B, KrL B W9 (w9.setCell ⟨bi, 0, none⟩ (.int .i64 ((pre2.length : Int) + 1))) := fun B => (krl_keep HA.out.2).trans (krl_box _ (HA.out.1.bx (b := bi) (ty := 3) (v := .int .i64 (pre2.length : Int)) (List.Mem.head _)))
            refine ⟨(hk _).1, (hk 0).2, ?_, HK9.out.trans (hk _)⟩
            rw [List.length_append]
            exact HA.out.1.inL HO8.out _
          case doneI =>
            rintro xs W10 hS hI10
            rw [show xs = L from hS] at hI10
            obtain ⟨h10, k10⟩ := hI10
            have i0 := (h10.bx (b := bi) (ty := 3) (v := .int .i64 (L.length : Int)) (List.Mem.head _)).cell
            have w0 := (h10.bx (b := b12) (ty := 3) (v := .int .i64 (L.length : Int)) (List.Mem.tail _ (List.Mem.tail _ (List.Mem.tail _ (List.Mem.tail _ (List.Mem.head _)))))).cell
            have n0 := (h10.bx (b := bl1) (ty := 3) (v := .int .i64 (pre.length : Int)) (List.Mem.tail _ (List.Mem.tail _ (List.Mem.head _)))).cell
            have n1 := (h10.bx (b := bl1) (ty := 3) (v := .int .i64 (pre.length : Int)) (List.Mem.tail _ (List.Mem.tail _ (List.Mem.head _)))).frozen
            have h11 := (h10.sub (bs' := (obs (w.heap.size + 2) w.heap.size b7 b12 br1 bl1 lo L.length 1 (xo : Int) (pre.length : Int))) (fun q hq => List.mem_cons_of_mem _ hq))
            have H11 := Hid.mk' (And.intro (h11.nL HO1.out ((pre.length : Int) + 1)) (k10.trans (krl_box (.int .i64 ((pre.length : Int) + 1)) (h11.bx (b := bl1) (ty := 3) (v := .int .i64 (pre.length : Int)) (List.Mem.tail _ (List.Mem.head _))))))
            clear h10 h11 k10
            simp only [Exit.inBlock, Exit.then]
            gi_wp2
            refine ⟨H11.out.2.1, H11.out.2.2, ?_⟩
            unfold IO
            rw [lastO_snoc, List.length_append]
            exact H11.out.1
        case done1 =>
          rintro D1 xs WR1 hDD1 hS hS1 hK1
          rw [show xs = L from hS] at hS1
          unfold IO at hS1
          have HF1 := Hid.mk' (hS1.addD hK1)
          have hDlt1 : bl1 + 2 ≤ D1 := by omega
          have cr := (HF1.out.bx (b := br1) (ty := 3) (v := .int .i64 1) (List.Mem.tail _ (List.Mem.tail _ (List.Mem.head _)))).cell
          have cn := (HF1.out.bx (b := bl1) (ty := 3) (v := .int .i64 (L.length : Int)) (List.Mem.tail _ (List.Mem.head _))).cell
          have cw := (HF1.out.bx (b := b12) (ty := 3) (v := .int .i64 (L.length : Int)) (List.Mem.tail _ (List.Mem.tail _ (List.Mem.tail _ (List.Mem.head _))))).cell
          have hbq2 : b12 < WR1.heap.size := (HF1.out.bx (b := b12) (ty := 3) (v := .int .i64 (L.length : Int)) (List.Mem.tail _ (List.Mem.tail _ (List.Mem.tail _ (List.Mem.head _))))).lt
          clear hS1 hK1 hDD1 HE1 hseq1 hszL1 hdd1 hS xs
          simp only [Exit.inBlock, Exit.then]
          go_wp2
          rw [rounds_succ]
          have HB2 : Hid (TT w (WR1.alloc (.cells #[.int .i64 2] 3)) (w.heap.size + 2) f ((WR1.heap.size, 3, .int .i64 2) :: (b12, 3, .int .i64 (L.length : Int)) :: lb0 (w.heap.size + 2) w.heap.size b7 lo) [D1, D0]) := Hid.mk' (by
            have h := (HF1.out.sub (bs' := (b12, 3, .int .i64 (L.length : Int)) :: lb0 (w.heap.size + 2) w.heap.size b7 lo) (fun q hq => List.mem_cons_of_mem _ (List.mem_cons_of_mem _ (List.mem_cons_of_mem _ hq)))).newb 3 (.int .i64 2)
            exact h)
          clear HF1 cr cn cw
          obtain ⟨br2, hbr2⟩ : ∃ b, WR1.heap.size = b := ⟨_, rfl⟩
          rw [hbr2] at HB2
          obtain ⟨WW2, hWW2⟩ : ∃ W, WR1.alloc (.cells #[.int .i64 2] 3) = W := ⟨_, rfl⟩
          rw [hWW2] at HB2
          simp only [hbr2, hWW2]
          clear hWW2 hbr2
          have cr2 := (HB2.out.bx (b := br2) (ty := 3) (v := .int .i64 2) (List.Mem.head _)).cell
          have c72 := (HB2.out.bx (b := b7) (ty := 23) (v := .pointer (some ⟨w.heap.size + 2, 0, none⟩)) (List.Mem.tail _ (List.Mem.tail _ (List.Mem.tail _ (List.Mem.tail _ (List.Mem.tail _ (List.Mem.head _))))))).cell
          obtain ⟨f3, hf3⟩ : ∃ g, setF f 511 7 = g := ⟨_, rfl⟩
          have h12 : Calls Try.prog 12 #[.pointer (some ⟨w.heap.size + 2, 0, none⟩), .int .i64 511, .int .i64 7] WW2 fun e w' => ∃ v, e = .returned v ∧ Hid (TT w w' (w.heap.size + 2) f3 (lb0 (w.heap.size + 2) w.heap.size b7 lo) [D1, D0]) := by
            rw [← hf3]
            exact (tt_set HB2 511 7).mono fun e w' ⟨v, he, h'⟩ => ⟨v, he, Hid.mk' (h'.out.sub (fun q hq => List.mem_cons_of_mem _ (List.mem_cons_of_mem _ hq)))⟩
          have HC3 : Hid (cnt7 (els f3 lo 0 512) = if lo ≤ 511 then 1 else 0) := Hid.mk' (by rw [← hf3]; exact cnt7_all f lo)
          clear HB2 hf3 HL HFL
          go_wp2_with (first
            | (go_at_call 12; refine h12.mono ?_; clear h12 cr2 c72; rintro e w30 ⟨v30, rfl, H30⟩; have cF : (w30.alloc (.cells #[.int .i64 0] 3)).cell? ⟨b7 + 1 + 1 + 1, 0, none⟩ = some (.func (.func 31) #[] #[.pointer (some ⟨b7 + 1, 0, none⟩), .pointer (some ⟨b7 + 1 + 1, 0, none⟩)]) := ((H30.out.newb 3 (.int .i64 0)).bx (b := b7 + 3) (ty := 27) (v := fnv b7) (List.Mem.tail _ (List.Mem.head _))).cell))
          obtain ⟨bn, hbn⟩ : ∃ b, w30.heap.size = b := ⟨_, rfl⟩
          obtain ⟨W31, hW31⟩ : ∃ W, w30.alloc (.cells #[.int .i64 0] 3) = W := ⟨_, rfl⟩
          have H31 : Hid (TT w W31 (w.heap.size + 2) f3 ((bn, 3, .int .i64 ((cnt7 [] : Nat) : Int)) :: lb0 (w.heap.size + 2) w.heap.size b7 lo) [D1, D0]) := Hid.mk' (by
            have h := H30.out.newb 3 (.int .i64 0)
            rw [hW31, hbn] at h
            exact h)
          have hbn7 : b7 + 3 < bn := by have := (H30.out.bx (b := b7 + 3) (ty := 27) (v := fnv b7) (List.Mem.head _)).lt; omega
          have hsz31 : W31.heap.size = bn + 1 := by rw [← hW31, World.size_alloc, hbn]
          have hddn : ∀ k ∈ ([D1, D0] : List Nat), k < bn := fun k hk => by have := heap_lt (H30.out.nc k hk); omega
          simp only [hbn, hW31]
          clear hW31 hbn cF H30
          obtain ⟨L3, hL3⟩ : ∃ L, els f3 lo 0 512 = L := ⟨_, rfl⟩
          rw [hL3] at HC3
          have hLl3 := els_len f3 lo 0 512
          rw [hL3] at hLl3
          have h31 := H31.out
          have hseq3 := from_stops 8 (b7 + 1) (b7 + 1 + 1) (w.heap.size + 2) lo f3 W31 (h31.bx (b := b7 + 1) (ty := 23) (v := .pointer (some ⟨w.heap.size + 2, 0, none⟩)) (List.Mem.tail _ (List.Mem.tail _ (List.Mem.tail _ (List.Mem.head _))))).cell (h31.bx (b := b7 + 1 + 1) (ty := 3) (v := .int .i64 lo) (List.Mem.tail _ (List.Mem.tail _ (List.Mem.head _)))).cell h31.tree
          rw [hL3] at hseq3
          clear h31 hL3
          refine wpIn_wide.1 (rangeFunc_h (n := 9) rfl (by decide) (gf := 31) (lb := #[.pointer (some ⟨b7 + 1, 0, none⟩), .pointer (some ⟨b7 + 1 + 1, 0, none⟩)]) rfl trivial (enters_of Try.func31 (by kernel_rfl) rfl)
            hseq3 (fun h k => h.trans k) KeepS.refl (keepS_b W31) (Below.refl _ _) (fun _ => rfl)
            (fun pre W => TT w W (w.heap.size + 2) f3 ((bn, 3, .int .i64 (cnt7 pre : Int)) :: lb0 (w.heap.size + 2) w.heap.size b7 lo) [D1, D0]) (fun _ _ _ => False) (fun _ _ _ _ hs hg hr => TT.own (by omega) (fun k hk => by have := hddn k hk; omega) hs hg hr) (fun _ _ _ _ _ hs _ _ => hs) H31.out
            (fun x' t => (((t.setIfInBounds 164 (.int .i64 (x'.1.val : Int))).setIfInBounds 165 (.int .i64 x'.2)).setIfInBounds 23 (.int .i64 (x'.1.val : Int))).setIfInBounds 24 (.int .i64 x'.2))
            (fun _ _ _ _ hx => hx) ?assign3 ?body3 ?done3)
          case assign3 =>
            intro r x' W K hK
            simp only [encs]
            gi_wp2
            simpa using hK
          case body3 =>
            rintro lr pre ⟨⟨xo, hxo⟩, xv⟩ W _ _ hI hpl
            simp only [List.setIfInBounds_toArray, List.set_cons_zero, List.set_cons_succ]
            have hc := cnt7_le pre
            obtain ⟨k, hk⟩ : ∃ k, cnt7 pre = k := ⟨_, rfl⟩
            have hsn := cnt7_snoc pre (⟨xo, hxo⟩, xv)
            rw [hk] at hc hI hsn
            have HI := Hid.mk' hI
            have c0 := (hI.bx (b := bn) (ty := 3) (v := .int .i64 (k : Int)) (List.Mem.head _)).cell
            have f0 := (hI.bx (b := bn) (ty := 3) (v := .int .i64 (k : Int)) (List.Mem.head _)).frozen
            have hk0 : (0 : Int) ≤ (k : Int) := by omega
            have hk1 : (k : Int) < 1000 := by omega
            clear hI hk hc hpl
            by_cases q1 : (xo : Int) ≠ 511
            · have q1b : ((xo : Int) == 511) = false := by simpa using q1
              have q1c : is7 ((⟨xo, hxo⟩, xv) : El) = false := by simp [is7]; omega
              have HSN : Hid (cnt7 (pre ++ [((⟨xo, hxo⟩, xv) : El)]) = k) := Hid.mk' (by rw [hsn, q1c]; rfl)
              clear hsn q1c
              gi_wp2
              exact ⟨KeepsFrom.refl _ _, KeepS.refl _, by dsimp only; rw [HSN.out]; exact HI.out⟩
            replace q1 : (xo : Int) = 511 := Decidable.of_not_not q1
            have q1b : ((xo : Int) == 511) = true := by simpa using q1
            have q1d : xo = 511 := by omega
            by_cases q2 : xv ≠ 7
            · have q2b : (xv == 7) = false := by simpa using q2
              have q1c : is7 ((⟨xo, hxo⟩, xv) : El) = false := by simp [is7]; intro _; exact q2
              have HSN : Hid (cnt7 (pre ++ [((⟨xo, hxo⟩, xv) : El)]) = k) := Hid.mk' (by rw [hsn, q1c]; rfl)
              clear hsn q1c q1 q1d q2
              gi_wp2
              exact ⟨KeepsFrom.refl _ _, KeepS.refl _, by dsimp only; rw [HSN.out]; exact HI.out⟩
            replace q2 : xv = 7 := Decidable.of_not_not q2
            have q2b : (xv == 7) = true := by simpa using q2
            have q1c : is7 ((⟨xo, hxo⟩, xv) : El) = true := by simp [is7, q1d, q2]
            have HSN : Hid (cnt7 (pre ++ [((⟨xo, hxo⟩, xv) : El)]) = k + 1) := Hid.mk' (by rw [hsn, q1c]; rfl)
            clear hsn q1c q1 q1d q2
            gi_wp2
            have hk : ∀ B, KrL B W (W.setCell ⟨bn, 0, none⟩ (.int .i64 ((k : Int) + 1))) := fun B => krl_box _ (HI.out.bx (b := bn) (ty := 3) (v := .int .i64 (k : Int)) (List.Mem.head _))
            refine ⟨(hk _).1, (hk 0).2, ?_⟩
            dsimp only
            rw [HSN.out]
            exact HI.out.nL2 (by omega) _
          case done3 =>
            rintro D2 xs WR2 hDD2 hS hS2 hK2
            rw [show xs = L3 from hS] at hS2
            have HF2 := Hid.mk' (hS2.addD hK2)
            obtain ⟨k, hk⟩ : ∃ k, cnt7 L3 = k := ⟨_, rfl⟩
            rw [hk] at HF2 HC3
            have cn := (HF2.out.bx (b := bn) (ty := 3) (v := .int .i64 (k : Int)) (List.Mem.head _)).cell
            have cf := (HF2.out.bx (b := w.heap.size) (ty := 3) (v := .int .i64 lo) (List.Mem.tail _ (List.Mem.tail _ (List.Mem.tail _ (List.Mem.tail _ (List.Mem.tail _ (List.Mem.tail _ (List.Mem.head _)))))))).cell
            have c6 := (HF2.out.bx (b := w.heap.size + 1) (ty := 4) (v := .bool false) (List.Mem.tail _ (List.Mem.tail _ (List.Mem.tail _ (List.Mem.tail _ (List.Mem.tail _ (List.Mem.head _))))))).cell
            have f6 := (HF2.out.bx (b := w.heap.size + 1) (ty := 4) (v := .bool false) (List.Mem.tail _ (List.Mem.tail _ (List.Mem.tail _ (List.Mem.tail _ (List.Mem.tail _ (List.Mem.head _))))))).frozen
            have g1 := HDD1.out D0 (List.Mem.head _)
            have g2 := hddn D0 (List.Mem.tail _ (List.Mem.head _))
            have g3 := hddn D1 (List.Mem.head _)
            have HT : Hid (w.heap.size + 1 < D0 ∧ w.heap.size + 1 < D1 ∧ w.heap.size + 1 < D2 ∧ D0 < D1 ∧ D1 < D2) := Hid.mk' (by omega)
            have hB : k = 1 ∨ k = 0 ∧ 511 < lo := by have := HC3.out; split at this <;> omega
            clear hS2 hK2 hDD2 hS xs g1 g2 g3 hk HC3 H31 hseq3 hsz31 hddn hDlt0 hDlt1
            simp only [Exit.inBlock, Exit.then]
            rcases hB with rfl | ⟨rfl, hlo⟩
            all_goals
              go_wp2
              have hE := HF2.out.set (b := w.heap.size + 1) (ty := 4) (v := .bool false) (.bool true) (List.Mem.tail _ (List.Mem.tail _ (List.Mem.tail _ (List.Mem.tail _ (List.Mem.tail _ (List.Mem.head _)))))) (by decide) (by decide) (bs' := [(w.heap.size + 1, 4, .bool true)]) (by intro q hq; left; simpa using hq)
              have e0 := hE.nc D0 (List.Mem.tail _ (List.Mem.tail _ (List.Mem.head _)))
              have e1 := hE.nc D1 (List.Mem.tail _ (List.Mem.head _))
              have e2 := hE.nc D2 (List.Mem.head _)
              have hbx := hE.bx (b := w.heap.size + 1) (ty := 4) (v := .bool true) (List.Mem.head _)
              obtain ⟨z0, z1, z2, z3, z4⟩ := HT.out
              refine ⟨by simp, .inl ⟨_, _, rfl, run_takeDeferred e2, ?_⟩⟩
              have e1' := (World.putObj_heap_other (o := .deferred none) (show D1 ≠ D2 by omega)).trans e1
              have e0' := (World.putObj_heap_other (o := .deferred none) (show D0 ≠ D2 by omega)).trans e0
              have hbx1 : Boxed _ (w.heap.size + 1) 4 (.bool true) := (World.putObj_heap_other (o := .deferred none) (show w.heap.size + 1 ≠ D2 by omega)).trans hbx
              refine ⟨by simp, .inl ⟨_, _, rfl, run_takeDeferred e1', ?_⟩⟩
              have e0'' := (World.putObj_heap_other (o := .deferred none) (show D0 ≠ D1 by omega)).trans e0'
              have hbx2 : Boxed _ (w.heap.size + 1) 4 (.bool true) := (World.putObj_heap_other (o := .deferred none) (show w.heap.size + 1 ≠ D1 by omega)).trans hbx1
              refine ⟨by simp, .inl ⟨_, _, rfl, run_takeDeferred e0'', ?_⟩⟩
              have hbx3 : Boxed _ (w.heap.size + 1) 4 (.bool true) := (World.putObj_heap_other (o := .deferred none) (show w.heap.size + 1 ≠ D0 by omega)).trans hbx2
              exact ⟨_, results_box6 rfl _ _ (w.heap.size + 1) _ rfl hbx3, rfl, ((hE.keep.step (grownBy_putObj' _ D2 _) (by rintro k hk'; cases hk'; right; omega)).step (grownBy_putObj' _ D1 _) (by rintro k hk'; cases hk'; right; omega)).step (grownBy_putObj' _ D0 _) (by rintro k hk'; cases hk'; right; omega)⟩

end Go.Proofs.Ytndojlacdggfcaa
