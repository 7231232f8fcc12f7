import Derived.Test.YtndojlacdggfcaaV5
namespace Go.Proofs.Ytndojlacdggfcaa
open Go.RowKit

theorem els_cell {W : World} {g : Nat → Int} {lo : Int} {a : Option Addr} {c m : Nat} (h : ∃ base, W.ownsRow base 9 1 (.slice a (els g lo 0 512).length c) (els g lo 0 512).length ((els g lo 0 512).map (fun z => .string (TX z.2)))) (hm : m < 512) (hx : lo ≤ (m : Int)) (h0 : ¬ g m = 0) :
    ∃ gb, a = some ⟨gb, 0, none⟩ ∧ (els g lo 0 m).length < (els g lo 0 512).length ∧ W.cell? ⟨gb, (els g lo 0 m).length, none⟩ = some (.string (TX (g m))) := by
  obtain ⟨base, h⟩ := h
  have e1 : els g lo 0 512 = els g lo 0 m ++ ((⟨m, hm⟩, g m) :: els g lo (m + 1) (511 - m)) := by
    have h1 := els_add g lo 0 m (1 + (511 - m))
    rw [show m + (1 + (511 - m)) = 512 by omega, els_add, Nat.zero_add, els_one hm hx h0] at h1
    exact h1
  have hlt : (els g lo 0 m).length < (els g lo 0 512).length := by rw [e1]; simp
  rcases h.2 with ⟨_, h2⟩ | ⟨gb, c', cur, h1, _⟩
  · omega
  · cases h1
    refine ⟨gb, rfl, hlt, ?_⟩
    have := h.cells (g := gb) rfl (els g lo 0 m).length (.string (TX (g m))) (by rw [List.getElem?_map, e1, List.getElem?_append_right (Nat.le_refl _), Nat.sub_self]; rfl)
    have hadd : (⟨gb, 0, none⟩ : Addr).add (els g lo 0 m).length = ⟨gb, (els g lo 0 m).length, none⟩ := by unfold Addr.add; split <;> simp_all
    rwa [hadd] at this

set_option maxRecDepth 100000 in
set_option maxHeartbeats 16000000 in
theorem texts_walk (w : World) (p : Option Addr) (l : List Put) (cap : Nat) (hp : PutsIn w p l) (hl : l.length ≤ maxLen) (hcap : l.length ≤ cap) (hcm : cap ≤ 9223372036854775807) (hv : ∀ q ∈ l, -9223372036854775808 ≤ q.2.2 ∧ q.2.2 ≤ 9223372036854775807) :
    Calls Try.prog 7 #[.slice p l.length cap] w fun e w' => e = .returned (.bool true) ∧ Keeps (fun _ => False) w w' := by
  have hml : l.length ≤ 9223372036854775807 := by omega
  have hbd0 : -9223372036854775808 ≤ (0 : Int) ∧ (0 : Int) ≤ 9223372036854775807 := by omega
  have hgr : Calls Try.prog 9 #[.slice p l.length cap] w fun e w' => ∃ t, e = .returned (.tuple #[.pointer (some ⟨t, 0, none⟩), .bool true]) ∧ Hid (t = w.heap.size ∧ Keeps (fun _ => False) w w' ∧ TreeAt w' t (play (l.take 400))) := grown_any w p l cap hp hl
  have hNew : ∀ W, Calls Try.prog 23 #[] W fun e w' => ∃ u, e = .returned (.pointer (some ⟨u, 0, none⟩)) ∧ Hid (u = W.heap.size ∧ Keeps (fun _ => False) W w' ∧ TreeAtS w' u (TXf (play []))) := fun W =>
    (new_anyS W).mono fun e w' ⟨he, hw⟩ => ⟨_, he, rfl, by rw [hw]; exact Keeps.new W _, by rw [hw]; exact new_treeS W⟩
  have hLast : ∀ W (i : Nat) (o : Int), i ≤ l.length → i ≤ 400 → Keeps (fun _ => False) w W → Calls Try.prog 14 #[.slice p i cap, .int .i64 o] W fun e w' => e = .returned (.int .i64 (lastW (l.take i) o)) ∧ W = w' := fun W i o hi h4 hk => by
    have := last_any W p (l.take i) cap o ((hp.grown hk).take i hi) (by rw [List.length_take]; omega)
    rw [List.length_take, Nat.min_eq_left hi, lastV_take h4] at this
    exact this.mono fun e w' ⟨h1, h2⟩ => ⟨h1, h2.symm⟩
  have hLb : ∀ (i : Nat) (o : Int), -9223372036854775808 ≤ lastW (l.take i) o ∧ lastW (l.take i) o ≤ 9223372036854775807 := fun i o => lastW_bound (fun v => -9223372036854775808 ≤ v ∧ v ≤ 9223372036854775807) hbd0 _ _ fun q hq => hv q (List.mem_of_mem_take hq)
  have hPb : ∀ (i o : Nat), o < 512 → -9223372036854775808 ≤ play (l.take i) o ∧ play (l.take i) o ≤ 9223372036854775807 := fun i o ho => by rw [play_last _ o ho]; exact hLb i o
  have HP := Hid.mk' hp
  have HV := Hid.mk' hv
  clear hp hl hv
  go_enter Try.func7, Try.ntmps7
  go_wp2_with (first
    | (go_at_call 23; refine (hNew w1).mono ?_; rintro e w2 ⟨u, rfl, H2⟩)
    | (go_at_call 9; refine hgr.mono ?_; rintro e w1 ⟨t, rfl, H1⟩))
  have HS0 : Hid (Keeps (fun _ => False) w w2 ∧ TreeAt w2 t (play (l.take 400)) ∧ TreeAtS w2 u (TXf (play (l.take 0))) ∧ w.heap.size ≤ u) :=
    ⟨H1.out.2.1.trans H2.out.2.1, H1.out.2.2.keep H2.out.2.1, H2.out.2.2, by have h1 := H1.out.2.1.size; have h2 := H2.out.1; omega⟩
  clear hgr hNew H1 H2
  go_loopw [6] (fun i wr => ∃ k : Nat, k ≤ l.length ∧ k ≤ 400 ∧ i = .int .i64 k ∧ Hid (Keeps (fun _ => False) w wr ∧ TreeAt wr t (play (l.take 400)) ∧ TreeAtS wr u (TXf (play (l.take k))))) (fun i _ => 400 - (intOf i).toNat)
  case atStart => exact ⟨0, by omega, by omega, rfl, HS0.out.1, HS0.out.2.1, HS0.out.2.2.1⟩
  case round =>
    obtain ⟨k, hk, hk4, rfl, H3⟩ := hrel
    by_cases h1 : k < l.length
    · by_cases h2 : k < 400
      · obtain ⟨b, o, rfl, hb, hc⟩ := HP.out (by omega)
        have h1' : (k : Int) < (l.length : Int) := by omega
        have h2' : (k : Int) < 400 := by omega
        have hd1 : decide ((k : Int) < (l.length : Int)) = true := by simpa using h1
        have hq := HV.out (l.getD k d0) (by rw [List.getD_eq_getElem?_getD, List.getElem?_eq_getElem h1]; exact List.getElem_mem h1)
        have ht := play_snoc (l.take k) (l.getD k d0)
        rw [← take_getD d0 h1] at ht
        have HC : Hid (∀ W, Keeps (fun _ => False) w W → W.cell? ⟨b, o + k * 3, none⟩ = some (.bool (l.getD k d0).1) ∧ W.cell? ⟨b, o + k * 3 + 1, none⟩ = some (.int .i64 (l.getD k d0).2.1) ∧ W.cell? ⟨b, o + k * 3 + 2, none⟩ = some (.int .i64 (l.getD k d0).2.2)) := fun W hkw => ⟨hkw.cell (hc k h1).1 id, hkw.cell (hc k h1).2.1 id, hkw.cell (hc k h1).2.2 id⟩
        generalize l.getD k d0 = q at *
        obtain ⟨qc, x, y⟩ := q
        simp only at HC hq
        obtain ⟨c0, c1, c2⟩ := HC.out wr H3.out.1
        have HT := Hid.mk' ht
        clear hc ht
        cases qc with
        | true =>
          have hCut : Calls Try.prog 26 #[.pointer (some ⟨u, 0, none⟩), .int .i64 x] wr fun e w' => ∃ a c, e = .returned (.slice a (els (play (l.take k)) x 0 512).length c) ∧ Hid (Keeps (fun _ => False) w w' ∧ TreeAt w' t (play (l.take 400)) ∧ TreeAtS w' u (TXf (play (l.take (k + 1)))) ∧ ∃ base, w'.ownsRow base 9 1 (.slice a (els (play (l.take k)) x 0 512).length c) (els (play (l.take k)) x 0 512).length ((els (play (l.take k)) x 0 512).map (fun z => .string (TX z.2)))) ∧ w'.cell? ⟨b, o + k * 3 + 1, none⟩ = some (.int .i64 x) :=
            (cut_anyS wr u x _ H3.out.2.2).mono fun e w' ⟨s, he, hks, hTs, hrow⟩ => by
              rw [TXf_len, TXf_vals] at hrow
              rw [TXf_cut] at hTs
              have hkk : Keeps (fun _ => False) w w' := H3.out.1.then hks (by rintro c rfl; right; exact HS0.out.2.2.2)
              obtain ⟨a, c, rfl⟩ : ∃ a c, s = .slice a (els (play (l.take k)) x 0 512).length c := by
                rcases hrow.2 with ⟨h1, h2⟩ | ⟨gb, c, _, h1, _⟩
                · exact ⟨none, 0, by rw [h1, h2]⟩
                · exact ⟨_, c, h1⟩
              exact ⟨a, c, he, ⟨hkk, H3.out.2.1.besideS H3.out.2.2 hks, by rw [HT.out]; exact hTs, _, hrow⟩, (HC.out w' hkk).2.1⟩
          have hEl := els_len (play (l.take k)) x 0 512
          obtain ⟨g, hg⟩ : ∃ g, play (l.take k) = g := ⟨_, rfl⟩
          have hgl : ∀ n : Nat, n < 512 → lastW (l.take k) (n : Int) = g n := fun n hn => by rw [← hg, play_last _ n hn]
          have hgb : ∀ n : Nat, n < 512 → -9223372036854775808 ≤ g n ∧ g n ≤ 9223372036854775807 := fun n hn => by rw [← hg]; exact hPb k n hn
          rw [hg] at hCut hEl
          have hkc : (k : Int) ≤ (cap : Int) := by omega
          clear hg hPb hLb
          go_wp2_with (first | (go_at_call 26; refine hCut.mono ?_; rintro e w4 ⟨a4, c4, rfl, H4, z1⟩))
          have hL : ∀ W (n : Nat), n < 512 → Keeps (fun _ => False) w W → Calls Try.prog 14 #[.slice (some ⟨b, o, none⟩) k cap, .int .i64 (n : Int)] W fun e w' => e = .returned (.int .i64 (g n)) ∧ W = w' := fun W n hn hkw => by rw [← hgl n hn]; exact hLast W k n (by omega) (by omega) hkw
          have HGB := Hid.mk' hgb
          have HRW := Hid.mk' H4.out.2.2.2
          clear hLast hgl hgb hCut
          go_loopw [11, 12] (fun n i wx => ∃ m : Nat, m ≤ 512 ∧ i = .int .i64 m ∧ n = .int .i64 ((els g x 0 m).length : Int) ∧ Hid (Keeps (fun _ => False) w4 wx)) (fun _ i _ => 512 - (intOf i).toNat)
          case atStart => exact ⟨0, by omega, rfl, rfl, Keeps.refl _ _⟩
          case round =>
            obtain ⟨m, hm, rfl, rfl, H5⟩ := hrel
            have z1' := H5.out.cell z1 id
            by_cases hm5 : m < 512
            · have hm5' : (m : Int) < 512 := by omega
              have hs := els_succ g x m hm5
              have hln := els_len g x 0 m
              have hkw : Keeps (fun _ => False) w wr := H4.out.1.trans H5.out
              have hLm : ∀ n, Calls Try.prog 14 #[.slice (some ⟨b, o, none⟩) k cap, .int .i64 (m : Int)] (wr.drewN n) fun e w' => e = .returned (.int .i64 (g m)) ∧ wr.drewN n = w' := fun n => hL (wr.drewN n) m hm5 (hkw.trans (Keeps.drewN _ _ n))
              have hLm0 := hL wr m hm5 hkw
              by_cases hx : x ≤ (m : Int)
              · by_cases h0 : g m = 0
                · rw [if_neg (by simp [h0])] at hs
                  rw [h0] at hLm hLm0
                  have HS := Hid.mk' hs
                  clear hs hL hkw
                  go_wp2_with (first | (go_at_call 14; refine hLm0.mono ?_; rintro e w6 ⟨rfl, hw⟩; subst hw))
                  go_roundw
                  case rel => exact ⟨m + 1, by omega, by go_num, by rw [HS.out]; rfl, H5⟩
                  case measure => simp [intOf]; omega
                · rw [if_pos ⟨hx, h0⟩] at hs
                  have h0b : (g m == 0) = false := by simpa using h0
                  have h0c : (g m != 0) = true := by simpa using h0
                  obtain ⟨gb, hgb, hrl, hcl⟩ := els_cell HRW.out hm5 hx h0
                  cases hgb
                  have hcl' := H5.out.cell hcl id
                  have hlt : ((els g x 0 m).length : Int) < ((els g x 0 512).length : Int) := by omega
                  have hTm : ∀ n, Calls Try.prog 25 #[.int .i64 (g m)] (wr.drewN n) fun e w' => e = .returned (.string (TX (g m))) ∧ Hid (Keeps (fun _ => False) w4 w') ∧ w'.cell? ⟨gb, (els g x 0 m).length, none⟩ = some (.string (TX (g m))) := fun n => (text_any (wr.drewN n) (g m) (HGB.out m hm5)).mono fun e w' ⟨h1, h2'⟩ => by
                    have h2 := (Keeps.drewN (fun _ => False) wr n).trans h2'
                    exact ⟨h1, H5.out.trans h2, h2.cell hcl' id⟩
                  have HS := Hid.mk' hs
                  clear hs hL hkw hcl
                  generalize g m = gm at *
                  generalize TX gm = sm at *
                  have hnl : ¬ (els g x 0 512).length ≤ (els g x 0 m).length := by omega
                  have hnl2 : decide ((els g x 0 512).length ≤ (els g x 0 m).length) = false := by simpa using hnl
                  have hnl3 : decide (((els g x 0 512).length : Int) ≤ ((els g x 0 m).length : Int)) = false := by simpa using hnl
                  generalize (els g x 0 m).length = N at *
                  go_wp2_with (first | (go_at_call 14; refine hLm0.mono ?_; rintro e w6 ⟨rfl, hw⟩; subst hw))
                  first
                    | go_region_held3 (fun wx => wx.cell? ⟨gb, N, none⟩ = some (.string sm))
                        (first | go_keep)
                        (first
                          | (go_at_call 25; refine (hTm _).mono ?_; rintro e w6 ⟨rfl, H6, z3⟩)
                          | (go_at_call 14; refine (hLm _).mono ?_; rintro e w6 ⟨rfl, hw⟩; subst hw))
                    | fail
                  all_goals
                    go_wp2
                    go_roundw
                    case rel => exact ⟨m + 1, by omega, by go_num, by rw [HS.out]; go_num, H6⟩
                    case measure => simp [intOf]; omega
              · rw [if_neg (by omega)] at hs
                have HS := Hid.mk' hs
                clear hs hL hLm hLm0 hkw
                go_wp2
                go_roundw
                case rel => exact ⟨m + 1, by omega, by go_num, by rw [HS.out]; rfl, H5⟩
                case measure => simp [intOf]; omega
            · obtain rfl : m = 512 := by omega
              have hm5' : ¬ ((512 : Nat) : Int) < 512 := by omega
              have HF : Hid (Keeps (fun _ => False) w wr ∧ TreeAt wr t (play (l.take 400)) ∧ TreeAtS wr u (TXf (play (l.take (k + 1))))) := ⟨H4.out.1.trans H5.out, H4.out.2.1.keep H5.out, by obtain ⟨p', v', hu', hs'⟩ := H4.out.2.2.1; exact ⟨p', v', H5.out.at hu' id, hs'.keep H5.out.none_nodesS⟩⟩
              clear hL
              go_wp2
              go_roundw
              case rel => exact ⟨k + 1, by omega, by omega, by go_num, HF⟩
              case measure => simp [intOf]; omega
        | false =>
          have hTx : ∀ n, Calls Try.prog 25 #[.int .i64 y] (wr.drewN n) fun e w' => e = .returned (.string (TX y)) ∧ ∃ wt, w' = wt ∧ Hid (Keeps (fun _ => False) wr wt) ∧ wt.cell? ⟨b, o + k * 3 + 1, none⟩ = some (.int .i64 x) ∧ wt.cell? ⟨b, o + k * 3 + 2, none⟩ = some (.int .i64 y) ∧
              (Calls Try.prog 24 #[.pointer (some ⟨u, 0, none⟩), .int .i64 x, .string (TX y)] wt fun e w' => e = .returned (.tuple #[.string (TX (getF (play (l.take k)) x)), .int .i64 (errF x)]) ∧ Hid (Keeps (fun _ => False) w w' ∧ TreeAt w' t (play (l.take 400)) ∧ TreeAtS w' u (TXf (play (l.take (k + 1))))) ∧ w'.cell? ⟨b, o + k * 3 + 1, none⟩ = some (.int .i64 x) ∧ w'.cell? ⟨b, o + k * 3 + 2, none⟩ = some (.int .i64 y)) := fun n => by
            have hkn := Keeps.drewN (fun _ => False) wr n
            refine (text_any (wr.drewN n) y hq).mono fun e w' ⟨h1, h2⟩ => ⟨h1, w', rfl, hkn.trans h2, ?_⟩
            have hk2 := hkn.trans h2
            obtain ⟨_, q1, q2⟩ := HC.out w' (H3.out.1.trans hk2)
            refine ⟨q1, q2, ?_⟩
            have hU := H3.out.2.2
            obtain ⟨p', v', hu', hs'⟩ := hU
            have hU' : TreeAtS w' u (TXf (play (l.take k))) := ⟨p', v', hk2.at hu' id, hs'.keep hk2.none_nodesS⟩
            refine (set_anyS w' u _ x (TX y) hU').mono fun e w'' ⟨he, hks, hTs⟩ => ?_
            rw [TXf_get] at he
            rw [TXf_set] at hTs
            have hkk : Keeps (fun _ => False) w w'' := (H3.out.1.trans hk2).then hks (by rintro c rfl; right; exact HS0.out.2.2.2)
            obtain ⟨_, r1, r2⟩ := HC.out w'' hkk
            exact ⟨he, ⟨hkk, (H3.out.2.1.keep hk2).besideS hU' hks, by rw [HT.out]; exact hTs⟩, r1, r2⟩
          have hcase : (0 ≤ x ∧ x < 512 ∧ errF x = 0) ∨ (x < 0 ∧ errF x = 70) ∨ (0 ≤ x ∧ 512 ≤ x ∧ errF x = 70) := by
            unfold errF isOff
            by_cases h0 : 0 ≤ x
            · by_cases h5 : x < 512
              · left; exact ⟨h0, h5, by simp [h0, h5]⟩
              · right; right; exact ⟨h0, by omega, by simp [h5]⟩
            · right; left; exact ⟨by omega, by simp [h0]⟩
          go_wp2
          go_region_held3 (fun wx => wx.cell? ⟨b, o + k * 3 + 1, none⟩ = some (.int .i64 x) ∧ wx.cell? ⟨b, o + k * 3 + 2, none⟩ = some (.int .i64 y))
            (first | go_keep)
            (first
              | (go_at_call 24; refine hSet.mono ?_; rintro e w5 ⟨rfl, H5, z1, z2⟩)
              | (go_at_call 25; refine (hTx _).mono ?_; rintro e w' ⟨rfl, w4, hw, H4, y1, y2, hSet⟩; subst hw))
          all_goals
            have hLs : ∀ n, Calls Try.prog 14 #[.slice (some ⟨b, o, none⟩) k cap, .int .i64 x] (w5.drewN n) fun e w' => e = .returned (.int .i64 (lastW (l.take k) x)) ∧ w5.drewN n = w' := fun n => hLast (w5.drewN n) k x (by omega) (by omega) (H5.out.1.trans (Keeps.drewN _ _ n))
            have hTs : ∀ n, Calls Try.prog 25 #[.int .i64 (lastW (l.take k) x)] (w5.drewN n) fun e w' => e = .returned (.string (TX (lastW (l.take k) x))) ∧ Hid (Keeps (fun _ => False) w w' ∧ TreeAt w' t (play (l.take 400)) ∧ TreeAtS w' u (TXf (play (l.take (k + 1))))) ∧ w'.cell? ⟨b, o + k * 3 + 1, none⟩ = some (.int .i64 x) := fun n => (text_any (w5.drewN n) (lastW (l.take k) x) (hLb k x)).mono fun e w' ⟨h1, h2'⟩ => by
              have h2 := (Keeps.drewN (fun _ => False) w5 n).trans h2'
              exact ⟨h1, ⟨H5.out.1.trans h2, H5.out.2.1.keep h2, by obtain ⟨p', v', hu', hs'⟩ := H5.out.2.2; exact ⟨p', v', h2.at hu' id, hs'.keep h2.none_nodesS⟩⟩, h2.cell z1 id⟩
            have hkc : (k : Int) ≤ (cap : Int) := by omega
            rcases hcase with ⟨g0, g1, he⟩ | ⟨g0, he⟩ | ⟨g0, g1, he⟩
            · have hgl : getF (play (l.take k)) x = lastW (l.take k) x := by
                obtain ⟨n, rfl⟩ := Int.eq_ofNat_of_zero_le g0
                rw [getF_nat _ (by omega), play_last _ n (by omega)]
              rw [hgl, he]
              clear hTx he hgl hLast hLb hPb
              generalize lastW (l.take k) x = lw at hLs hTs ⊢
              generalize TX lw = sl at hTs ⊢
              go_wp2
              first
                | go_region_held (fun wx => wx.cell? ⟨b, o + k * 3 + 1, none⟩ = some (.int .i64 x))
                    (first | go_keep)
                    (first
                      | (go_at_call 25; refine (hTs _).mono ?_; rintro e w6 ⟨rfl, H6, z3⟩)
                      | (go_at_call 14; refine (hLs _).mono ?_; rintro e w6 ⟨rfl, hw⟩; subst hw))
                | fail
              all_goals
                go_wp2
                go_roundw
                case rel => exact ⟨k + 1, by omega, by omega, by go_num, H6⟩
                case measure => simp [intOf]; omega
            · rw [he]
              clear hTx he hLast hLb hPb
              generalize lastW (l.take k) x = lw at hLs hTs ⊢
              generalize TX lw = sl at hTs ⊢
              generalize TX (getF (play (l.take k)) x) = sa
              rcases Bool.eq_false_or_eq_true (sa.toList == sl.toList) with hB | hB
              all_goals
                go_wp2
                first
                  | go_region_held (fun wx => wx.cell? ⟨b, o + k * 3 + 1, none⟩ = some (.int .i64 x))
                      (first | go_keep)
                      (first
                        | (go_at_call 25; refine (hTs _).mono ?_; rintro e w6 ⟨rfl, H6, z3⟩)
                        | (go_at_call 14; refine (hLs _).mono ?_; rintro e w6 ⟨rfl, hw⟩; subst hw))
                  | fail
                all_goals
                  go_wp2
                  go_roundw
                  case rel => exact ⟨k + 1, by omega, by omega, by go_num, H6⟩
                  case measure => simp [intOf]; omega
            · have g1' : ¬ x < 512 := by omega
              have g1'' : decide (x < 512) = false := by simpa using g1'
              rw [he]
              clear hTx he hLast hLb hPb
              generalize lastW (l.take k) x = lw at hLs hTs ⊢
              generalize TX lw = sl at hTs ⊢
              generalize TX (getF (play (l.take k)) x) = sa
              rcases Bool.eq_false_or_eq_true (sa.toList == sl.toList) with hB | hB
              all_goals
                go_wp2
                first
                  | go_region_held (fun wx => wx.cell? ⟨b, o + k * 3 + 1, none⟩ = some (.int .i64 x))
                      (first | go_keep)
                      (first
                        | (go_at_call 25; refine (hTs _).mono ?_; rintro e w6 ⟨rfl, H6, z3⟩)
                        | (go_at_call 14; refine (hLs _).mono ?_; rintro e w6 ⟨rfl, hw⟩; subst hw))
                  | fail
                all_goals
                  go_wp2
                  go_roundw
                  case rel => exact ⟨k + 1, by omega, by omega, by go_num, H6⟩
                  case measure => simp [intOf]; omega
      · obtain rfl : k = 400 := by omega
        have h1' : (((400 : Nat) : Int)) < (l.length : Int) := by omega
        have HE := Hid.mk' (show l.take 400 = l.take 400 by rfl)
        have HF : Hid (Keeps (fun _ => False) w wr ∧ TreeAt wr t (play (l.take 400)) ∧ TreeAtS wr u (TXf (play (l.take 400)))) := ⟨H3.out.1, H3.out.2.1, by rw [← HE.out]; exact H3.out.2.2⟩
        have hb4 := hPb 400
        obtain ⟨W3, hW3⟩ : ∃ W3, W3 = wr := ⟨_, rfl⟩
        subst hW3
        generalize play (l.take 400) = G at HF hb4
        have hGu : ∀ W, Hid (Keeps (fun _ => False) W3 W) → ∀ m : Nat, m < 512 → Calls Try.prog 27 #[.pointer (some ⟨u, 0, none⟩), .int .i64 (m : Int)] W fun e w' => e = .returned (.string (TX (G m))) ∧ Hid (Keeps (fun _ => False) W3 w') := fun W h m hm => by
          have hU : TreeAtS W u (TXf G) := by obtain ⟨p', v', hu', hs'⟩ := HF.out.2.2; exact ⟨p', v', h.out.at hu' id, hs'.keep h.out.none_nodesS⟩
          have := get_anyS W u (TXf G) (m : Int) hU
          rw [TXf_get, getF_nat G hm] at this
          exact this.mono fun e w' ⟨h1, h2⟩ => ⟨h1, h.out.trans h2⟩
        have hGt : ∀ W, Hid (Keeps (fun _ => False) W3 W) → ∀ m : Nat, m < 512 → Calls Try.prog 13 #[.pointer (some ⟨t, 0, none⟩), .int .i64 (m : Int)] W fun e w' => e = .returned (.int .i64 (G m)) ∧ Hid (Keeps (fun _ => False) W3 w') := fun W h m hm => by
          have := get_any W t G (m : Int) (HF.out.2.1.keep h.out)
          rw [getF_nat G hm] at this
          exact this.mono fun e w' ⟨h1, h2⟩ => ⟨h1, h.out.trans h2⟩
        have hTx : ∀ W, Hid (Keeps (fun _ => False) W3 W) → ∀ m : Nat, m < 512 → Calls Try.prog 25 #[.int .i64 (G m)] W fun e w' => e = .returned (.string (TX (G m))) ∧ Hid (Keeps (fun _ => False) W3 w') := fun W h m hm => (text_any W (G m) (hb4 m hm)).mono fun e w' ⟨h1, h2⟩ => ⟨h1, h.out.trans h2⟩
        clear hLast hLb hPb hb4
        go_wp2
        go_loopw [13] (fun i wx => ∃ m : Nat, m ≤ 512 ∧ i = .int .i64 m ∧ Hid (Keeps (fun _ => False) W3 wx)) (fun i _ => 512 - (intOf i).toNat)
        case atStart => exact ⟨0, by omega, rfl, Keeps.refl _ _⟩
        case round =>
          obtain ⟨m, hm, rfl, H7⟩ := hrel
          by_cases hm5 : m < 512
          · have hm5' : (m : Int) < 512 := by omega
            have gu := hGu wr H7 m hm5
            have gt := fun W h => hGt W h m hm5
            have tx := fun W h => hTx W h m hm5
            clear hGu hGt hTx
            generalize G m = gm at gu gt tx
            generalize TX gm = sm at gu tx
            go_wp2_with (first
              | (go_at_call 25; refine (tx w9 H9).mono ?_; rintro e w10 ⟨rfl, H10⟩)
              | (go_at_call 13; refine (gt w8 H8).mono ?_; rintro e w9 ⟨rfl, H9⟩)
              | (go_at_call 27; refine gu.mono ?_; rintro e w8 ⟨rfl, H8⟩))
            go_roundw
            case rel => exact ⟨m + 1, by omega, by go_num, H10⟩
            case measure => simp [intOf]; omega
          · have hm5' : ¬ (m : Int) < 512 := by omega
            have lu : Calls Try.prog 28 #[.pointer (some ⟨u, 0, none⟩)] wr fun e w' => e = .returned (.int .i64 ((els G 0 0 512).length : Int)) ∧ Hid (Keeps (fun _ => False) W3 w') := by
              have hU : TreeAtS wr u (TXf G) := by obtain ⟨p', v', hu', hs'⟩ := HF.out.2.2; exact ⟨p', v', H7.out.at hu' id, hs'.keep H7.out.none_nodesS⟩
              have := len_anyS wr u (TXf G) hU
              rw [TXf_len] at this
              exact this.mono fun e w' ⟨h1, h2⟩ => ⟨h1, H7.out.trans h2⟩
            have lt := fun W (h : Hid (Keeps (fun _ => False) W3 W)) => (len_any W t G (HF.out.2.1.keep h.out)).mono (R' := fun e w' => e = .returned (.int .i64 ((els G 0 0 512).length : Int)) ∧ Hid (Keeps (fun _ => False) W3 w')) (fun e w' ⟨h1, h2⟩ => ⟨h1, h.out.trans h2⟩)
            clear hGu hGt hTx
            go_wp2_with (first
              | (go_at_call 22; refine (lt w8 H8).mono ?_; rintro e w9 ⟨rfl, H9⟩)
              | (go_at_call 28; refine lu.mono ?_; rintro e w8 ⟨rfl, H8⟩))
            go_ret
            exact ⟨ret_bool (by simp), HF.out.1.trans H9.out⟩
    · have h1' : ¬ (k : Int) < (l.length : Int) := by omega
      have hd1 : decide ((k : Int) < (l.length : Int)) = false := by simpa using h1
      have HE := Hid.mk' (show l.take k = l.take 400 by rw [List.take_of_length_le (by omega), List.take_of_length_le (by omega)])
      have HF : Hid (Keeps (fun _ => False) w wr ∧ TreeAt wr t (play (l.take 400)) ∧ TreeAtS wr u (TXf (play (l.take 400)))) := ⟨H3.out.1, H3.out.2.1, by rw [← HE.out]; exact H3.out.2.2⟩
      have hb4 := hPb 400
      obtain ⟨W3, hW3⟩ : ∃ W3, W3 = wr := ⟨_, rfl⟩
      subst hW3
      generalize play (l.take 400) = G at HF hb4
      have hGu : ∀ W, Hid (Keeps (fun _ => False) W3 W) → ∀ m : Nat, m < 512 → Calls Try.prog 27 #[.pointer (some ⟨u, 0, none⟩), .int .i64 (m : Int)] W fun e w' => e = .returned (.string (TX (G m))) ∧ Hid (Keeps (fun _ => False) W3 w') := fun W h m hm => by
        have hU : TreeAtS W u (TXf G) := by obtain ⟨p', v', hu', hs'⟩ := HF.out.2.2; exact ⟨p', v', h.out.at hu' id, hs'.keep h.out.none_nodesS⟩
        have := get_anyS W u (TXf G) (m : Int) hU
        rw [TXf_get, getF_nat G hm] at this
        exact this.mono fun e w' ⟨h1, h2⟩ => ⟨h1, h.out.trans h2⟩
      have hGt : ∀ W, Hid (Keeps (fun _ => False) W3 W) → ∀ m : Nat, m < 512 → Calls Try.prog 13 #[.pointer (some ⟨t, 0, none⟩), .int .i64 (m : Int)] W fun e w' => e = .returned (.int .i64 (G m)) ∧ Hid (Keeps (fun _ => False) W3 w') := fun W h m hm => by
        have := get_any W t G (m : Int) (HF.out.2.1.keep h.out)
        rw [getF_nat G hm] at this
        exact this.mono fun e w' ⟨h1, h2⟩ => ⟨h1, h.out.trans h2⟩
      have hTx : ∀ W, Hid (Keeps (fun _ => False) W3 W) → ∀ m : Nat, m < 512 → Calls Try.prog 25 #[.int .i64 (G m)] W fun e w' => e = .returned (.string (TX (G m))) ∧ Hid (Keeps (fun _ => False) W3 w') := fun W h m hm => (text_any W (G m) (hb4 m hm)).mono fun e w' ⟨h1, h2⟩ => ⟨h1, h.out.trans h2⟩
      clear hLast hLb hPb hb4
      go_wp2
      go_loopw [13] (fun i wx => ∃ m : Nat, m ≤ 512 ∧ i = .int .i64 m ∧ Hid (Keeps (fun _ => False) W3 wx)) (fun i _ => 512 - (intOf i).toNat)
      case atStart => exact ⟨0, by omega, rfl, Keeps.refl _ _⟩
      case round =>
        obtain ⟨m, hm, rfl, H7⟩ := hrel
        by_cases hm5 : m < 512
        · have hm5' : (m : Int) < 512 := by omega
          have gu := hGu wr H7 m hm5
          have gt := fun W h => hGt W h m hm5
          have tx := fun W h => hTx W h m hm5
          clear hGu hGt hTx
          generalize G m = gm at gu gt tx
          generalize TX gm = sm at gu tx
          go_wp2_with (first
            | (go_at_call 25; refine (tx w9 H9).mono ?_; rintro e w10 ⟨rfl, H10⟩)
            | (go_at_call 13; refine (gt w8 H8).mono ?_; rintro e w9 ⟨rfl, H9⟩)
            | (go_at_call 27; refine gu.mono ?_; rintro e w8 ⟨rfl, H8⟩))
          go_roundw
          case rel => exact ⟨m + 1, by omega, by go_num, H10⟩
          case measure => simp [intOf]; omega
        · have hm5' : ¬ (m : Int) < 512 := by omega
          have lu : Calls Try.prog 28 #[.pointer (some ⟨u, 0, none⟩)] wr fun e w' => e = .returned (.int .i64 ((els G 0 0 512).length : Int)) ∧ Hid (Keeps (fun _ => False) W3 w') := by
            have hU : TreeAtS wr u (TXf G) := by obtain ⟨p', v', hu', hs'⟩ := HF.out.2.2; exact ⟨p', v', H7.out.at hu' id, hs'.keep H7.out.none_nodesS⟩
            have := len_anyS wr u (TXf G) hU
            rw [TXf_len] at this
            exact this.mono fun e w' ⟨h1, h2⟩ => ⟨h1, H7.out.trans h2⟩
          have lt := fun W (h : Hid (Keeps (fun _ => False) W3 W)) => (len_any W t G (HF.out.2.1.keep h.out)).mono (R' := fun e w' => e = .returned (.int .i64 ((els G 0 0 512).length : Int)) ∧ Hid (Keeps (fun _ => False) W3 w')) (fun e w' ⟨h1, h2⟩ => ⟨h1, h.out.trans h2⟩)
          clear hGu hGt hTx
          go_wp2_with (first
            | (go_at_call 22; refine (lt w8 H8).mono ?_; rintro e w9 ⟨rfl, H9⟩)
            | (go_at_call 28; refine lu.mono ?_; rintro e w8 ⟨rfl, H8⟩))
          go_ret
          exact ⟨ret_bool (by simp), HF.out.1.trans H9.out⟩

end Go.Proofs.Ytndojlacdggfcaa
