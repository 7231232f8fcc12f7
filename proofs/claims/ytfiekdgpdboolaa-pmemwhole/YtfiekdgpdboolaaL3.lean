import Derived.Test.YtfiekdgpdboolaaL2
namespace Go.Proofs.Ytfiekdgpdboolaa
open Go.RowKit Go.Maps
attribute [local go_sem ↓] Go.wp_at_zero Go.wp_at_succ

theorem wordOf_q (a : Int) (n m : Nat) (hm : n = 8 * m) (h0 : 0 < m) : ∃ q : Nat, q < m ∧ wordOf a n = 8 * (q : Int) := by
  have h2 := Int.emod_lt_of_pos a (show (0 : Int) < (n : Int) / 8 by omega)
  have h3 := Int.emod_nonneg a (show ((n : Int) / 8) ≠ 0 by omega)
  refine ⟨(a % ((n : Int) / 8)).toNat, by omega, ?_⟩
  unfold wordOf
  omega

theorem take_getD (l : List Note3) (k j : Nat) (h : j < k) : (l.take k).getD j (0, 0, 0) = l.getD j (0, 0, 0) := by
  simp only [List.getD_eq_getElem?_getD, List.getElem?_take_of_lt h]

set_option maxHeartbeats 4000000 in
set_option maxRecDepth 20000 in
theorem whole_walk (w : World) (pages : Int) (p cp : Option Addr) (cap ccap : Nat) (l : List Note3) (cs : List Int) (hN : NotesAt w p l)
    (hcs : 0 < cs.length → ∃ cb co, cp = some ⟨cb, co, none⟩ ∧ cb < w.heap.size ∧ ∀ i, i < cs.length → w.cell? ⟨cb, co + i, none⟩ = some (.int .i64 (cs.getD i 0))) (hl1 : l.length ≤ maxLen) (hl3 : cs.length ≤ maxLen) :
    Calls Try.prog 3 #[.int .i64 pages, .slice p l.length cap, .slice cp cs.length ccap] w fun e w' => e = .returned (.bool true) ∧ Below w.heap.size w w' := by
  obtain ⟨n, hn⟩ : ∃ n, n = sizeOf8 pages := ⟨_, rfl⟩
  have hsz := sizeOf8_le pages
  have hsize := size_any pages
  rw [← hn] at hsz hsize
  obtain ⟨m, hm⟩ : ∃ m, n = 8 * m := ⟨n / 8, by omega⟩
  obtain ⟨i0, hi, hz0, hz1, hz2⟩ := info_parts info30
  have HN := Hid.mk' hN
  have HCS := Hid.mk' hcs
  have HL1 := Hid.mk' hl1
  have HL3 := Hid.mk' hl3
  have HM := Hid.mk' hm
  have HI8 := Hid.mk' hz2
  have hm8 : (n : Int) / 8 = m := by omega
  have hmb : m ≤ 512 := by omega
  unfold maxLen at hl1
  clear hn hN hcs hl3 hm hz2
  go_enter Try.func3, Try.ntmps3
  go_wp2_with (first
    | (go_at_call 9; refine (hsize _).mono ?_; rintro e w' ⟨rfl, hw⟩; subst w')
    | (go_at_call 10; refine (made_yes n _ hsz.2.1 (by omega) hsz.2.2).mono ?_; rintro e w1 ⟨rfl, hw1⟩
       have HG1 := Hid.mk' (going_made _ _ n hsz.1 hw1)
       clear hw1))
  go_loopw [10] (fun i wr => ∃ k : Nat, k ≤ l.length ∧ k ≤ 400 ∧ i = .int .i64 k ∧ Hid (∃ S, Going w w.heap.size (w.heap.size + 2) n S wr ∧ S.steps = k ∧ Follows n (l.take k) S))
    (fun i _ => 400 - (intOf i).toNat)
  case atStart => exact ⟨0, by omega, by omega, rfl, _, HG1.out, rfl, by simpa using follows_start n⟩
  case round =>
    obtain ⟨k, hk1, hk2, rfl, hrel⟩ := hrel
    obtain ⟨S, hgo, hst, hfo⟩ := hrel
    have HGO := Hid.mk' hgo
    obtain ⟨⟨F, L, hdev, hF⟩, hkp, hlen, harm, hBs⟩ := hgo
    by_cases hlt : k < l.length ∧ k < 400
    · obtain ⟨hlt1, hlt2⟩ := hlt
      obtain ⟨b, o, rfl, hb, hc⟩ := (HN.out.kept hkp (fun i hi => hi)) (by omega)
      obtain ⟨e1, e2, e3, e4⟩ := hc k hlt1
      have hi1 : (k : Int) < (l.length : Int) := by omega
      have hi2 : (k : Int) < 400 := by omega
      have hnote := note_dev wr F (w.heap.size + 2) n S L (l.getD k (0, 0, 0)).1 (l.getD k (0, 0, 0)).2.1 (l.getD k (0, 0, 0)).2.2 hdev hlen hsz.2.2 hsz.2.1 e4 (by omega) (by rw [harm]; simp)
      have HF := Hid.mk' hF
      have HST := Hid.mk' hst
      have HFO : Hid (Follows n (l.take (k + 1)) (S.note (l.getD k (0, 0, 0)).1 (l.getD k (0, 0, 0)).2.1 (l.getD k (0, 0, 0)).2.2 n)) := by
        show Follows _ _ _
        rw [take_snoc3 l k hlt1]
        exact follows_note hdev hlen _ _ hfo
      generalize l.getD k (0, 0, 0) = nt at *
      clear hc hdev hkp hlen harm hBs hst e4 hF HG1 hfo
      go_wp2_with (first
        | (go_at_call 11; refine hnote.mono ?_; rintro e w4 ⟨rfl, hx⟩; have HX := Hid.mk' hx; clear hx))
      go_roundw
      case rel =>
        refine ⟨k + 1, by omega, by omega, by go_num, _, HGO.out.next F HF.out HX.out (note_len _ _ _ _ _) (note_armed _ _ _ _ _), ?_, HFO.out⟩
        rw [note_steps, HST.out]; rfl
      case measure => simp [intOf]; omega
    · have hcut : ((k : Int) < (l.length : Int) ∧ ¬ (k : Int) < 400) ∨ ¬ (k : Int) < (l.length : Int) := by omega
      have htk : l.take k = l.take 400 := by
        by_cases h4 : k = 400
        · rw [h4]
        · rw [List.take_of_length_le (by omega), List.take_of_length_le (by omega)]
      rw [htk] at hfo
      have hcr := crash_dev wr F (w.heap.size + 2) S L hdev (by omega) (by omega) cp ccap cs HL3.out (fun h0 => by
        obtain ⟨cb, co, q1, q2, q3⟩ := HCS.out h0
        exact ⟨cb, co, q1, Nat.lt_of_lt_of_le q2 hkp.size, fun i hi => hkp.cell (q3 i hi) (by simp; omega)⟩)
      rw [hlen] at hcr
      have HD := Hid.mk' (show DevAt wr F (w.heap.size + 2) S L ∧ Keeps (fun k => w.heap.size ≤ k) w wr ∧ S.old.length = n ∧ Follows n (l.take 400) S ∧ S.steps ≤ 400 from ⟨hdev, hkp, hlen, hfo, by omega⟩)
      clear hlt htk hdev hF hkp hlen harm hBs hst hfo HGO HG1
      rcases hcut with ⟨hi1, hi2⟩ | hi1
      all_goals
        go_wp2_with (first
          | (go_at_call 12; refine hcr.mono ?_; rintro e w2 ⟨ks, hR, rfl, hb2, hk2⟩
             clear hcr
             have hd2 := HD.out.1.kept hk2 (by simp)
             have hvw := view_dev w2 F (w.heap.size + 2) S L hd2 (by have := HD.out.2.2.2.2; omega)
             rw [HD.out.2.2.1] at hvw
             have HB2 := Hid.mk' (show w2.heap[wr.heap.size]? = some (.cells (u8s (S.crash ks cs)).toArray 5 (0, 0)) ∧ Keeps (fun _ => False) wr w2 ∧ Rising S ks from ⟨hb2, hk2, hR⟩)
             clear hR hb2 hk2 hd2)
          | (go_at_call 13; refine hvw.mono ?_; rintro e w3 ⟨rfl, hb3, hk3⟩
             clear hvw
             have HB3 := Hid.mk' (show w3.heap[w2.heap.size]? = some (.cells (u8s S.view).toArray 5 (0, 0)) ∧ Keeps (fun _ => False) w2 w3 from ⟨hb3, hk3⟩)
             clear hb3 hk3)
          | (at_make; go_must (refine wpList_make_row _ rfl _ _ 36 rfl 30 i0 (.int .u64 0) Try.underlying36 hi hz0 hz1 rfl .i64 .i64 m rfl rfl (by have := HI8.out; rw [this]; omega) (by omega) ?_); rw [made_list]))
        have HK3 : Hid (Keeps (fun k => w.heap.size ≤ k) w w3) := (HD.out.2.1.trans (HB2.out.2.1.mono (by simp))).trans (HB3.out.2.mono (by simp))
        have HN3 : Hid (NotesAt w3 p l) := HN.out.kept HK3.out (fun i hi => hi)
        go_loopw [15] (fun i wx => ∃ k : Nat, k ≤ l.length ∧ k ≤ 400 ∧ i = .int .i64 k ∧ Hid (wx.heap[w3.heap.size]? = some (.cells (u64s (lastRow n m (l.take k))).toArray 30 (0, 0)) ∧ Keeps (fun _ => False) w3 wx))
          (fun i _ => 400 - (intOf i).toNat)
        case atStart =>
          refine ⟨0, by omega, by omega, rfl, ?_, Keeps.of (World.grownBy_alloc w3 _ none) (by simp)⟩
          have e0 : u64s (lastRow n m (l.take 0)) = List.replicate m (.int .u64 0) := by
            have : l.take 0 = [] := rfl
            rw [this, lastRow_start]; simp [u64s]
          rw [e0]
          simpa using (MapKept.heap_alloc w3 (.cells (List.replicate m (.int .u64 0)).toArray 30)).1
        case round =>
          obtain ⟨k2, hk1', hk2', rfl, hrel⟩ := hrel
          by_cases hlt : k2 < l.length ∧ k2 < 400
          · obtain ⟨hlt1, hlt2⟩ := hlt
            obtain ⟨b, o, rfl, hb, hc⟩ := (HN3.out.kept hrel.2 (by simp)) (by omega)
            obtain ⟨e1, e2, e3, e4⟩ := hc k2 hlt1
            have j1 : (k2 : Int) < (l.length : Int) := by omega
            have j2 : (k2 : Int) < 400 := by omega
            have j0 : (0 : Int) ≤ (k2 : Int) := by omega
            have htk := take_snoc3 l k2 hlt1
            obtain ⟨q, hq1, hq2⟩ := wordOf_q (l.getD k2 (0, 0, 0)).2.1 n m HM.out (by omega)
            have hwd := word_any (l.getD k2 (0, 0, 0)).2.1 n
            generalize l.getD k2 (0, 0, 0) = nt at *
            have HR := Hid.mk' (show _ ∧ l.take (k2 + 1) = l.take k2 ++ [nt] ∧ wordOf nt.2.1 n = 8 * (q : Int) from ⟨hrel, htk, hq2⟩)
            have qb1 : (0 : Int) ≤ (q : Int) := by omega
            have qb2 : (q : Int) < (m : Int) := by omega
            have hlr : (lastRow n m (l.take k2)).length = m := by simp [lastRow]
            have hfz : wr.frozen? ⟨w3.heap.size, q, none⟩ = false := by simp [World.frozen?, hrel.1]
            obtain ⟨y, hcl⟩ : ∃ y, wr.cell? ⟨w3.heap.size, q, none⟩ = some (.int .u64 y) := by
              refine ⟨(lastRow n m (l.take k2)).getD q 0, ?_⟩
              simp [World.cell?, hrel.1, u64s, List.getD_eq_getElem?_getD, show q < (lastRow n m (l.take k2)).length by omega]
            clear hc hrel htk hlr e4
            by_cases hkd : nt.1 = 1
            · have hkb : (nt.1 == 1) = true := by simp [hkd]
              have HKD := Hid.mk' hkd
              have hwd2 := fun w => hwd w (by omega) (by omega)
              obtain ⟨W, hW⟩ : ∃ W, W = wordOf nt.2.1 n := ⟨_, rfl⟩
              rw [← hW] at hwd2
              have hW0 : 0 ≤ W := by omega
              have hW1 : W ≤ 4096 := by omega
              have hW8 : W / 8 = (q : Int) := by omega
              have hWt : W.tdiv 8 = (q : Int) := by rw [Int.tdiv_eq_ediv_of_nonneg hW0]; exact hW8
              have hW9 : IntKind.i64.wrap (q : Int) = (q : Int) := wrap_id qb1 (by omega)
              clear hkd hwd hq2 hq1 hW
              go_upto_region 20 with fail
              have HT : Hid (∀ wx, wx.heap = (wr.setCell ⟨w3.heap.size, q, none⟩ (.int .u64 nt.2.2)).heap → wx.os = wr.os → wx.tape = wr.tape → wx.output = wr.output → Hid (wx.heap[w3.heap.size]? = some (.cells (u64s (lastRow n m (l.take (k2 + 1)))).toArray 30 (0, 0)) ∧ Keeps (fun _ => False) w3 wx)) := by
                intro wx hx1 hx2 hx3 hx4
                obtain ⟨⟨r1, r2⟩, r3, r4⟩ := HR.out
                constructor
                · rw [hx1]
                  have := setCell_block (a := ⟨w3.heap.size, q, none⟩) (v := .int .u64 nt.2.2) r1 rfl
                  rw [r3, ← lastRow_store n m _ nt q HKD.out r4]
                  simpa [u64s] using this
                · have := r2.step (grownBy_setCell wr ⟨w3.heap.size, q, none⟩ (.int .u64 nt.2.2)) (by rintro i e; cases e; exact Or.inr (Nat.le_refl _))
                  exact ⟨hx2.trans r2.os, hx3.trans r2.tape, hx4.trans r2.output, by rw [hx1]; exact this.size, fun i hi hx => by rw [hx1]; exact this.block i hi hx⟩
              go_region_with ((go_at_call 14; refine (hwd2 _).mono ?_; rintro e w' ⟨rfl, hw⟩; subst w'))
              all_goals
                go_wp2
                go_roundw
                case rel => exact ⟨k2 + 1, by omega, by omega, by go_num, HT.out _ rfl rfl rfl rfl⟩
                case measure => simp [intOf]; omega
            · have hkb : (nt.1 == 1) = false := by simp [hkd]
              have HKD := Hid.mk' hkd
              clear hkd hwd hq2 hq1
              go_wp2
              go_roundw
              case rel =>
                obtain ⟨⟨r1, r2⟩, r3, r4⟩ := HR.out
                refine ⟨k2 + 1, by omega, by omega, by go_num, ?_, r2⟩
                rw [r3, lastRow_other n m _ nt HKD.out]
                exact r1
              case measure => simp [intOf]; omega
          · have hcut2 : ((k2 : Int) < (l.length : Int) ∧ ¬ (k2 : Int) < 400) ∨ ¬ (k2 : Int) < (l.length : Int) := by omega
            have htk2 : l.take k2 = l.take 400 := by
              by_cases h4 : k2 = 400
              · rw [h4]
              · rw [List.take_of_length_le (by omega), List.take_of_length_le (by omega)]
            obtain ⟨r1, r2⟩ := hrel
            rw [htk2] at r1
            have hi2 := HB2.out.1
            have hi3 := (HB3.out.2.block _ (heap_lt hi2) (by simp)).trans hi2
            have hi4 := (r2.block _ (heap_lt hi3) (by simp)).trans hi3
            have hv4 := (r2.block _ (heap_lt HB3.out.1) (by simp)).trans HB3.out.1
            obtain ⟨img, himg⟩ : ∃ img, img = S.crash ks cs := ⟨_, rfl⟩
            have hil : img.length = n := by rw [himg, (crash_len HD.out.1 ks cs HB2.out.2.2).1]; exact HD.out.2.2.1
            have hib : ∀ b ∈ img, 0 ≤ b ∧ b ≤ 255 := by rw [himg]; exact (crash_len HD.out.1 ks cs HB2.out.2.2).2
            have hvl : S.view.length = n := by rw [St.view, viewTo_len]; exact HD.out.2.2.1
            have hvb : ∀ b ∈ S.view, 0 ≤ b ∧ b ≤ 255 := viewTo_byts HD.out.1 _
            rw [← himg] at hi4
            have HA8 : Hid (∀ A : Nat, A + 8 ≤ n → Calls Try.prog 15 #[.slice (some ⟨_, 0, none⟩) n n, .int .i64 A] wr fun e w' => e = .returned (.tuple #[.int .u64 (wordAt img A), .bool true]) ∧ w' = wr) :=
              fun A hA => at8_any _ n A img wr (fun i hi => cells_u8 hi4 i (by omega)) hib hA (by omega)
            have HV8 : Hid (∀ A : Nat, A + 8 ≤ n → Calls Try.prog 15 #[.slice (some ⟨w2.heap.size, 0, none⟩) n n, .int .i64 A] wr fun e w' => e = .returned (.tuple #[.int .u64 (wordAt S.view A), .bool true]) ∧ w' = wr) :=
              fun A hA => at8_any _ n A S.view wr (fun i hi => cells_u8 hv4 i (by omega)) hvb hA (by omega)
            have HLA : Hid (∀ j, j < m → wr.cell? ⟨w3.heap.size, j, none⟩ = some (.int .u64 (lastOf n (l.take 400) (8 * (j : Int))))) := fun j hj => by
              simp [World.cell?, r1, u64s, lastRow, hj]
            have HVL : Hid (∀ A : Nat, A % 8 = 0 → A + 8 ≤ n → wordAt S.view A = lastOf n (l.take 400) A) := fun A h1 h2 => view_last HD.out.1 _ HD.out.2.2.2.1 HD.out.2.2.1 A h1 h2
            have HCH : Hid (∀ A : Nat, A % 8 = 0 → A + 8 ≤ n → wordAt img A = 0 ∨ wordAt img A ∈ hist n (l.take 400) A) := fun A h1 h2 => by rw [himg]; exact crash_hist HD.out.1 _ HD.out.2.2.2.1 A h1 h2 ks cs HB2.out.2.2
            have HNR : Hid (NotesAt wr p l) := HN3.out.kept r2 (by simp)
            have HKW : Hid (Keeps (fun k => w.heap.size ≤ k) w wr) := HK3.out.trans (r2.mono (by simp))
            clear hlt htk2 r1 r2 hi2 hi3 hi4 hv4 himg hil hib hvl hvb
            rcases hcut2 with ⟨j1, j2⟩ | j1
            all_goals
              go_wp2
              go_loop [16] (fun i => ∃ j : Nat, j ≤ m ∧ i = .int .i64 ((8 * j : Nat) : Int)) (fun i => n - (intOf i).toNat)
              case atStart => exact ⟨0, by omega, rfl⟩
              case round =>
                obtain ⟨j, hj, rfl⟩ := hrel
                have hmn := HM.out
                obtain ⟨A, hA⟩ : ∃ A : Nat, A = 8 * j := ⟨_, rfl⟩
                rw [← hA]
                by_cases hlt : j < m
                · have hA1 : (A : Int) < (n : Int) := by omega
                  have hA2 : (A : Int) / 8 = (j : Int) := by omega
                  have hA3 : (0 : Int) ≤ (j : Int) := by omega
                  have hA4 : (j : Int) < (m : Int) := by omega
                  have h8i := HA8.out A (by omega)
                  have h8v := HV8.out A (by omega)
                  rw [HVL.out A (by omega) (by omega)] at h8v
                  have hcl := HLA.out j hlt
                  have eA : (8 * (j : Int)) = (A : Int) := by omega
                  rw [eA] at hcl
                  have hch := HCH.out A (by omega) (by omega)
                  have HAJ := Hid.mk' (show A = 8 * j ∧ j < m from ⟨hA, hlt⟩)
                  generalize lastOf n (l.take 400) (A : Int) = X at *
                  generalize wordAt img A = Y at *
                  by_cases hY : Y = 0
                  · have hYb : (Y != 0) = false := by simp [hY]
                    clear hY hch hA eA hlt hmn
                    go_wp2_with (first
                      | (go_at_call 15; refine h8i.mono ?_; rintro e w' ⟨rfl, hw⟩; subst w'; clear h8i)
                      | (go_at_call 15; refine h8v.mono ?_; rintro e w' ⟨rfl, hw⟩; subst w'; clear h8v))
                    go_round
                    case rel => exact ⟨j + 1, by have := HAJ.out; omega, by have := HAJ.out.1; congr 1; omega⟩
                    case measure => have := HAJ.out; have h2 := HM.out; simp [intOf]; omega
                  · have hYb : (Y != 0) = true := by simp [hY]
                    obtain ⟨jj, q1, q2, q3, q4⟩ := hist_mem (hch.resolve_left hY)
                    have q5 : jj < 400 ∧ jj < l.length := by simp at q1; omega
                    rw [take_getD l 400 jj q5.1] at q2 q3 q4
                    have hsto := stored_yes wr p cap n l A Y HNR.out HL1.out (by omega) (by omega) jj q5.2 q5.1 q2 q3 q4
                    clear hY hch hA eA hlt hmn q1 q2 q3 q4 q5
                    go_wp2_with (first
                      | (go_at_call 15; refine h8i.mono ?_; rintro e w' ⟨rfl, hw⟩; subst w'; clear h8i)
                      | (go_at_call 15; refine h8v.mono ?_; rintro e w' ⟨rfl, hw⟩; subst w'; clear h8v)
                      | (go_at_call 16; refine hsto.mono ?_; rintro e w' ⟨rfl, hw⟩; subst w'))
                    go_round
                    case rel => exact ⟨j + 1, by have := HAJ.out; omega, by have := HAJ.out.1; congr 1; omega⟩
                    case measure => have := HAJ.out; have h2 := HM.out; simp [intOf]; omega
                · have hA1 : ¬ (A : Int) < (n : Int) := by omega
                  clear hA hlt hmn
                  go_wp2
                  go_ret
                  exact ⟨rfl, HKW.out.below (Nat.le_refl _) (fun k hk => hk)⟩

end Go.Proofs.Ytfiekdgpdboolaa
