import Derived.Test.YtfiekdgpdboolaaO1
namespace Go.Proofs.Ytfiekdgpdboolaa
open Go.RowKit Go.Maps

theorem crash_nil (S : St) (ks : List Int) : S.crash ks [] = S.old := by simp [St.crash]

/-- The doubts that were told, where they lie. -/
def ToldAt (w : World) (S : St) (ng : Int → Nat) (ks : List Int) (pa : Option Addr) : Prop :=
  0 < ks.length → ∃ ga, pa = some ⟨ga, 0, none⟩ ∧ ∀ i, i < ks.length →
    w.cell? ⟨ga, i * 3, none⟩ = some (.int .i64 (ks.getD i 0)) ∧ w.cell? ⟨ga, i * 3 + 1, none⟩ = some (.int .u64 (wordAt S.old (ks.getD i 0).toNat)) ∧
    w.cell? ⟨ga, i * 3 + 2, none⟩ = some (.slice (some ⟨ng (ks.getD i 0), 0, none⟩) (S.pd (ks.getD i 0)).length (S.pd (ks.getD i 0)).length) ∧
    (∀ j, j < (S.pd (ks.getD i 0)).length → w.cell? ⟨ng (ks.getD i 0), j, none⟩ = some (.int .u64 ((S.pd (ks.getD i 0)).getD j 0)))

theorem toldAt_mk {w : World} {b : Nat} {S : St} {ng : Int → Nat} {ks : List Int} {pa : Option Addr} {ca : Nat} (hrow : w.ownsRow b 62 3 (.slice pa ks.length ca) ks.length (doubtCells S ng ks))
    (hng : ∀ a ∈ ks, b ≤ ng a ∧ w.heap[ng a]? = some (.cells (u64s (S.pd a)).toArray 30 (0, 0))) : ToldAt w S ng ks pa := by
  intro h0
  rcases hrow.2 with ⟨_, e2⟩ | ⟨ga, cpa, cura, e1, _⟩
  · omega
  cases e1
  refine ⟨ga, rfl, fun i hi => ?_⟩
  obtain ⟨a1, a2, a3⟩ := doubtCells_get S ng ks i hi
  have hmem : ks.getD i 0 ∈ ks := by rw [List.getD_eq_getElem?_getD, List.getElem?_eq_getElem hi]; exact List.getElem_mem _
  exact ⟨(hrow.cellAt _ (by omega)).trans a1, (hrow.cellAt _ (by omega)).trans a2, (hrow.cellAt _ (by omega)).trans a3, fun j hj => cells_u64 (hng _ hmem).2 j hj⟩

theorem ToldAt.kept {w w' : World} {S : St} {ng : Int → Nat} {ks : List Int} {pa : Option Addr} (h : ToldAt w S ng ks pa) (k : Keeps (fun _ => False) w w') : ToldAt w' S ng ks pa := by
  intro h0
  obtain ⟨ga, e, hc⟩ := h h0
  refine ⟨ga, e, fun i hi => ?_⟩
  obtain ⟨c1, c2, c3, c4⟩ := hc i hi
  exact ⟨k.cell c1 (by simp), k.cell c2 (by simp), k.cell c3 (by simp), fun j hj => k.cell (c4 j hj) (by simp)⟩

theorem mem_getD {ks : List Int} {i : Nat} (hi : i < ks.length) : ks.getD i 0 ∈ ks := by
  rw [List.getD_eq_getElem?_getD, List.getElem?_eq_getElem hi]; exact List.getElem_mem _

/-- What the choice of one word leaves. -/
theorem told_image {w : World} {F : Nat → Prop} {d n an kq c : Nat} {S : St} {L : Lay} {is : List Int} (hd : DevAt w F d S L) (hlen : S.old.length = n) (hk : kq < is.length) (ha : is.getD kq 0 = (an : Int)) (h8 : an + 8 ≤ n) (hc : c ≤ (S.pd (an : Int)).length) :
    ∃ img X, S.crash is (List.replicate kq 0 ++ [(c : Int)]) = img ∧ img.length = n ∧ (∀ b ∈ img, 0 ≤ b ∧ b ≤ 255) ∧ wordAt img an = X ∧ (∀ i, ¬ (an ≤ i ∧ i < an + 8) → img.getD i 0 = S.old.getD i 0) ∧ (c = 0 → X = wordAt S.old an) ∧ (∀ j, c = j + 1 → X = (S.pd (an : Int)).getD j 0) := by
  have e := crash_only (S := S) hk c (by rw [ha]; exact hc)
  rw [ha] at e
  rw [e]
  by_cases h0 : 0 < c
  · rw [if_pos h0]
    have hv : 0 ≤ (S.pd (an : Int)).getD (c - 1) 0 ∧ (S.pd (an : Int)).getD (c - 1) 0 < 18446744073709551616 := by
      refine hd.vals an _ ?_
      rw [List.getD_eq_getElem?_getD, List.getElem?_eq_getElem (by omega)]
      exact List.getElem_mem _
    refine ⟨_, (S.pd (an : Int)).getD (c - 1) 0, rfl, ?_, layB_mem _ _ _ hd.byts, wordAt_same _ _ (by show an + 8 ≤ _; omega) hv, fun i hi => ?_, by omega, fun j hj => by rw [hj]; rfl⟩
    · show (layB S.old an _).length = n
      rw [layB_len _ _ _ (by omega)]; exact hlen
    · show (layB S.old an _).getD i 0 = _
      rw [layB_get _ _ _ _ (by omega), if_neg hi]
  · rw [if_neg h0]
    exact ⟨_, _, rfl, hlen, hd.byts, rfl, fun i _ => rfl, fun _ => rfl, by omega⟩

theorem rising_lt {ks : List Int} (h : ks.Pairwise (· < ·)) {i j : Nat} (hj : j < ks.length) (hij : i < j) : ks.getD i 0 < ks.getD j 0 := by
  have := List.pairwise_iff_getElem.1 h i j (by omega) hj hij
  simpa [List.getD_eq_getElem?_getD, hj, show i < ks.length by omega] using this

set_option maxHeartbeats 4000000 in
set_option maxRecDepth 20000 in
theorem told_walk (w : World) (pages which : Int) (p : Option Addr) (cap : Nat) (l : List Note3) (hN : NotesAt w p l) (hl1 : l.length ≤ maxLen) :
    Calls Try.prog 7 #[.int .i64 pages, .slice p l.length cap, .int .i64 which] w fun e w' => e = .returned (.bool true) ∧ Below w.heap.size w w' := by
  obtain ⟨n, hn⟩ : ∃ n, n = sizeOf8 pages := ⟨_, rfl⟩
  have hsz := sizeOf8_le pages
  have hsize := size_any pages
  rw [← hn] at hsz hsize
  have HN := Hid.mk' hN
  have HL1 := Hid.mk' hl1
  clear hn hN hl1
  go_enter Try.func7, Try.ntmps7
  go_wp2_with (first
    | (go_at_call 9; refine (hsize _).mono ?_; rintro e w' ⟨rfl, hw⟩; subst w')
    | (go_at_call 10; refine (made_yes n _ hsz.2.1 (by omega) hsz.2.2).mono ?_; rintro e w1 ⟨rfl, hw1⟩
       have HG1 := Hid.mk' (going_made _ _ n hsz.1 hw1)
       clear hw1)
    | (go_at_call 22; refine (notes_going w w1 w.heap.size (w.heap.size + 2) n _ p cap l HG1.out HN.out (Nat.le_refl _) HL1.out hsz.2.2 hsz.2.1 (by simp [St.fresh]) (by simp [St.fresh])).mono ?_; rintro e w2 ⟨rfl, S, hg2, hst1, hst2⟩
       simp only [St.fresh] at hst1 hst2
       obtain ⟨⟨F, L, hdev, hF⟩, hkp, hlen, harm, hBs⟩ := hg2
       have hdo := doubts_dev w2 F (w.heap.size + 2) S L hdev (by omega)
       have HD2 := Hid.mk' (show DevAt w2 F (w.heap.size + 2) S L ∧ Keeps (fun k => w.heap.size ≤ k) w w2 ∧ S.old.length = n ∧ S.steps ≤ 900000000 from ⟨hdev, hkp, hlen, by omega⟩)
       clear hdev hF hkp hlen harm hBs HG1 hst1 hst2)
    | (go_at_call 25; refine hdo.mono ?_; rintro e w3 ⟨v, ks, ng, rfl, hR, hrow, hng, hk3, hkl⟩
       clear hdo
       obtain ⟨pa, ca, hva⟩ : ∃ pa ca, v = .slice pa ks.length ca := by
         rcases hrow.2 with ⟨e1, e2⟩ | ⟨g, cp, cur, e1, _⟩
         · exact ⟨none, 0, by rw [e1, e2]⟩
         · exact ⟨_, _, e1⟩
       subst hva
       have hd3 := HD2.out.1.kept hk3 (by simp)
       have hcr := crash_dev w3 F (w.heap.size + 2) S L hd3 HD2.out.2.2.2 (by have := HD2.out.2.2.1; omega) none 0 [] (by simp) (fun h => absurd h (by simp))
       rw [HD2.out.2.2.1] at hcr
       have hkl2 : ks.length ≤ n := by have := rising_len hd3 hR; have := HD2.out.2.2.1; omega
       have H3 := Hid.mk' (show DevAt w3 F (w.heap.size + 2) S L ∧ Rising S ks ∧ ToldAt w3 S ng ks pa ∧ Keeps (fun k => w.heap.size ≤ k) w w3 from ⟨hd3, hR, toldAt_mk hrow hng, HD2.out.2.1.trans (hk3.mono (by simp))⟩)
       clear hR hrow hng hk3 hd3 hkl)
    | (go_at_call 12; refine hcr.mono ?_; rintro e w4 ⟨is, hR4, rfl, hb4, hk4⟩
       clear hcr
       rw [crash_nil] at hb4
       have hd4 := H3.out.1.kept hk4 (by simp)
       have hla := lasts_dev w4 F (w.heap.size + 2) S L hd4 HD2.out.2.2.2
       have H4 := Hid.mk' (show DevAt w4 F (w.heap.size + 2) S L ∧ w4.heap[w3.heap.size]? = some (.cells (u8s S.old).toArray 5 (0, 0)) ∧ ToldAt w4 S ng ks pa ∧ Keeps (fun k => w.heap.size ≤ k) w w4 from ⟨hd4, hb4, H3.out.2.2.1.kept hk4, H3.out.2.2.2.trans (hk4.mono (by simp))⟩)
       clear hR4 hb4 hk4 hd4)
    | (go_at_call 30; refine hla.mono ?_; rintro e w5 ⟨pc, cc, js, hR5, rfl, hc5, hk5⟩
       clear hla
       obtain rfl : js = ks := rising_unique hR5 H3.out.2.1
       have hd5 := H4.out.1.kept hk5 (by simp)
       have hcr2 := crash_dev w5 F (w.heap.size + 2) S L hd5 HD2.out.2.2.2 (by have := HD2.out.2.2.1; omega) pc cc _ (by unfold maxLen; rw [List.length_map]; omega) hc5
       rw [HD2.out.2.2.1, List.length_map] at hcr2
       have H5 := Hid.mk' (show DevAt w5 F (w.heap.size + 2) S L ∧ Keeps (fun _ => False) w4 w5 from ⟨hd5, hk5⟩)
       clear hR5 hc5 hk5 hd5)
    | (go_at_call 12; refine hcr2.mono ?_; rintro e w6 ⟨is, hR6, rfl, hb6, hk6⟩
       clear hcr2
       obtain rfl := rising_unique hR6 H3.out.2.1
       rw [crash_lasts H5.out.1 hR6] at hb6
       have hd6 := H5.out.1.kept hk6 (by simp)
       have hv := view_dev w6 F (w.heap.size + 2) S L hd6 HD2.out.2.2.2
       rw [HD2.out.2.2.1] at hv
       have H6 := Hid.mk' (show DevAt w6 F (w.heap.size + 2) S L ∧ w6.heap[w5.heap.size]? = some (.cells (u8s S.view).toArray 5 (0, 0)) ∧ Keeps (fun _ => False) w4 w6 from ⟨hd6, hb6, H5.out.2.trans hk6⟩)
       clear hR6 hb6 hk6 hd6)
    | (go_at_call 13; refine hv.mono ?_; rintro e w7 ⟨rfl, hb7, hk7⟩
       clear hv
       have hvl : S.view.length = n := by rw [St.view, viewTo_len]; exact HD2.out.2.2.1
       have hb6 := (hk7.block _ (heap_lt H6.out.2.1) (by simp)).trans H6.out.2.1
       have hsm := same_yes w5.heap.size w6.heap.size n n n S.view w7 (fun i hi => cells_u8 hb6 i (by omega)) (fun i hi => cells_u8 hb7 i (by omega)) (by omega)
       have H7 := Hid.mk' (show Keeps (fun _ => False) w4 w7 from H6.out.2.2.trans hk7)
       clear hb7 hk7 hvl hb6)
    | (go_at_call 26; refine hsm.mono ?_; rintro e w8 ⟨rfl, qq, hw8⟩
       clear hsm
       have H8 := Hid.mk' (H7.out.trans (keeps_drewN' (fun _ => False) _ _ _ hw8))
       clear hw8))
  have HW : Hid (DevAt w8 F (w.heap.size + 2) S L ∧ w8.heap[w3.heap.size]? = some (.cells (u8s S.old).toArray 5 (0, 0)) ∧ ToldAt w8 S ng is pa ∧ Keeps (fun k => w.heap.size ≤ k) w w8 ∧ S.old.length = n ∧ S.steps ≤ 900000000 ∧ Rising S is) := by
    obtain ⟨a1, a2, a3, a4⟩ := H4.out
    have k := H8.out
    exact ⟨a1.kept k (by simp), (k.block _ (heap_lt a2) (by simp)).trans a2, a3.kept k, a4.trans (k.mono (by simp)), HD2.out.2.2.1, HD2.out.2.2.2, H3.out.2.1⟩
  clear HD2 H3 H4 H5 H6 H7 H8
  go_loopw [12] (fun i wr => ∃ k : Nat, k ≤ is.length ∧ i = .int .i64 k ∧ Hid (∃ q, wr = w8.drewN q)) (fun i _ => is.length - (intOf i).toNat)
  case atStart => exact ⟨0, by omega, rfl, 0, rfl⟩
  case round =>
    obtain ⟨k, hk, rfl, hrel⟩ := hrel
    obtain ⟨q, hq⟩ := hrel
    have hcell : ∀ a, wr.cell? a = w8.cell? a := fun a => by rw [hq]; rfl
    have HQ := Hid.mk' hq
    by_cases hlt : k < is.length
    · obtain ⟨ga, rfl, hcc⟩ := HW.out.2.2.1 (by omega)
      obtain ⟨a1, a2, a3, _⟩ := hcc k hlt
      have hpd := (HW.out.2.2.2.2.2.2.2 _).1 (mem_getD hlt)
      have hdom := HW.out.1.dom _ hpd
      have hlen := HW.out.2.2.2.2.1
      obtain ⟨an, han⟩ := Int.eq_ofNat_of_zero_le hdom.1
      have hpos : 0 < (S.pd (is.getD k 0)).length := List.length_pos_iff.2 hpd
      have hlb : ((S.pd (is.getD k 0)).length : Int) ≤ 900000000 := by have := HW.out.1.lens (is.getD k 0); have := HW.out.2.2.2.2.2.1; omega
      have h8 := at8_any w3.heap.size n an S.old wr (fun i hi => (hcell _).trans (cells_u8 HW.out.2.1 i (by omega))) HW.out.1.byts (by omega) (by omega)
      have hprev : k = 0 ∨ ∃ j b : Nat, k = j + 1 ∧ b < an ∧ wr.cell? ⟨ga, j * 3, none⟩ = some (.int .i64 (b : Int)) := by
        rcases k with _ | j
        · exact Or.inl rfl
        · right
          have hj := rising_lt HW.out.2.2.2.2.2.2.1 hlt (show j < j + 1 by omega)
          have hdj := HW.out.1.dom _ ((HW.out.2.2.2.2.2.2.2 _).1 (mem_getD (show j < is.length by omega)))
          obtain ⟨b, hb⟩ := Int.eq_ofNat_of_zero_le hdj.1
          refine ⟨j, b, rfl, by omega, ?_⟩
          rw [hcell, (hcc j (by omega)).1, hb]
      rw [← hcell] at a1 a2 a3
      rw [han] at a1 a2 a3 hpos hlb
      rw [show ((an : Int)).toNat = an from rfl] at a2
      generalize (S.pd (an : Int)).length = ln at *
      generalize wordAt S.old an = ow at *
      generalize ng (an : Int) = gx at *
      have h3 : (0 : Int) ≤ (k : Int) := by omega
      have h4 : (k : Int) < (is.length : Int) := by omega
      have h5 : ((ln : Int) == 0) = false := by simp; omega
      clear hcc hcell hpd hdom han hlen hq
      rcases hprev with hk0 | ⟨j, b, hkj, hba, hcj⟩
      · have hk0' : decide ((0 : Int) < (k : Int)) = false := by simp; omega
        have hk0n : decide (0 < k) = false := by simp; omega
        clear hk0
        go_wp2_with (first
          | (go_at_call 15; refine h8.mono ?_; rintro e w' ⟨rfl, hw⟩; subst w'; clear h8))
        go_quiet (fail)
        go_wp2
        go_roundw
        case rel => exact ⟨k + 1, by omega, by go_num, by obtain ⟨q0, e0⟩ : ∃ q0, wr = w8.drewN q0 := ⟨_, HQ.out⟩; rw [e0]; exact ⟨_, by simp; rfl⟩⟩
        case measure => simp [intOf]; omega
      · have hk0' : (0 : Int) < (k : Int) := by omega
        have hk0n : decide (0 < k) = true := by simp; omega
        have hk0m : decide ((0 : Int) < (k : Int)) = true := by simp; omega
        have hk1' : (k : Int) - 1 = (j : Int) := by omega
        have hk2' : (0 : Int) ≤ (j : Int) := by omega
        have hk3' : (j : Int) < (is.length : Int) := by omega
        have hk4' : IntKind.i64.wrap (j : Int) = (j : Int) := wrap_id (by omega) (by omega)
        have hk5' : ¬ (an : Int) ≤ (b : Int) := by omega
        clear hkj
        go_wp2_with (first
          | (go_at_call 15; refine h8.mono ?_; rintro e w' ⟨rfl, hw⟩; subst w'; clear h8))
        go_quiet (fail)
        go_wp2
        go_roundw
        case rel => exact ⟨k + 1, by omega, by go_num, by obtain ⟨q0, e0⟩ : ∃ q0, wr = w8.drewN q0 := ⟨_, HQ.out⟩; rw [e0]; exact ⟨_, by simp; rfl⟩⟩
        case measure => simp [intOf]; omega
    · obtain rfl : k = is.length := by omega
      have HK : Hid (Keeps (fun _ => False) w8 wr) := keeps_drewN' _ _ _ _ hq
      clear hcell hq hlt hk
      by_cases h0 : is.length = 0
      · have h0' : ((is.length : Int) == 0) = true := by simp [h0]
        go_wp2
        go_ret
        exact ⟨rfl, (HW.out.2.2.2.1.trans (HK.out.mono (by simp))).below (Nat.le_refl _) (fun k hk => hk)⟩
      · have h0' : ((is.length : Int) == 0) = false := by simp [h0]
        obtain ⟨kq, hkq, hkq2⟩ : ∃ kq : Nat, kq < is.length ∧ wordOf which (8 * is.length) = 8 * (kq : Int) := by
          have h2 := Int.emod_lt_of_pos which (show (0 : Int) < ((8 * is.length : Nat) : Int) / 8 by omega)
          have h3 := Int.emod_nonneg which (show (((8 * is.length : Nat) : Int) / 8) ≠ 0 by omega)
          refine ⟨(which % (((8 * is.length : Nat) : Int) / 8)).toNat, by omega, ?_⟩
          unfold wordOf
          omega
        have hwd := fun w => word_any which (8 * is.length) w (by omega) (by omega)
        rw [show ((8 * is.length : Nat) : Int) = 8 * (is.length : Int) by omega] at hwd
        obtain ⟨W, hW⟩ : ∃ W, W = wordOf which (8 * is.length) := ⟨_, rfl⟩
        rw [← hW] at hwd
        have hW0 : 0 ≤ W := by omega
        have hW1 : W ≤ 1000000 := by omega
        have hW8 : W / 8 = (kq : Int) := by omega
        have hWt : W.tdiv 8 = (kq : Int) := by rw [Int.tdiv_eq_ediv_of_nonneg hW0]; exact hW8
        have hW9 : IntKind.i64.wrap (kq : Int) = (kq : Int) := wrap_id (by omega) (by omega)
        have hb8 : (is.length : Int) ≤ 4096 := by omega
        clear h0 hkq2 hW
        go_wp2_with (first
          | (go_at_call 14; refine (hwd _).mono ?_; rintro e w' ⟨rfl, hw⟩; subst w'; clear hwd))
        obtain ⟨ga, rfl, hcc⟩ := HW.out.2.2.1 (by omega)
        obtain ⟨a1, a2, a3, a4⟩ := hcc kq hkq
        have hmem := mem_getD hkq
        obtain ⟨av, hav⟩ : ∃ av, av = is.getD kq 0 := ⟨_, rfl⟩
        rw [← hav] at a1 a2 a3 a4 hmem
        have hpd := (HW.out.2.2.2.2.2.2.2 _).1 hmem
        have hdom := HW.out.1.dom _ hpd
        obtain ⟨an, han⟩ := Int.eq_ofNat_of_zero_le hdom.1
        have hav2 : is.getD kq 0 = (an : Int) := by rw [← hav, han]
        rw [han] at a1 a2 a3 a4 hpd hdom
        rw [show ((an : Int)).toNat = an from rfl] at a2
        have hlen := HW.out.2.2.2.2.1
        obtain ⟨ln, hln⟩ : ∃ ln, ln = (S.pd (an : Int)).length := ⟨_, rfl⟩
        rw [← hln] at a3 a4
        have hlb : (ln : Int) ≤ 900000000 := by have := HW.out.1.lens an; have := HW.out.2.2.2.2.2.1; omega
        have ha8 : an + 8 ≤ n := by omega
        have HV := Hid.mk' (show ∀ v ∈ S.pd (an : Int), 0 ≤ v ∧ v < 18446744073709551616 from HW.out.1.vals an)
        have HC : Hid (w8.cell? ⟨ga, kq * 3, none⟩ = some (.int .i64 (an : Int)) ∧ w8.cell? ⟨ga, kq * 3 + 1, none⟩ = some (.int .u64 (wordAt S.old an)) ∧ w8.cell? ⟨ga, kq * 3 + 2, none⟩ = some (.slice (some ⟨ng an, 0, none⟩) ln ln) ∧ ∀ j, j < ln → w8.cell? ⟨ng an, j, none⟩ = some (.int .u64 ((S.pd (an : Int)).getD j 0))) := ⟨a1, a2, a3, a4⟩
        have HLN := Hid.mk' (show ln = (S.pd (an : Int)).length ∧ is.getD kq 0 = (an : Int) ∧ kq < is.length ∧ S.old.length = n from ⟨hln, hav2, hkq, hlen⟩)
        clear hcc a1 a2 a3 a4 hmem hav hav2 hpd hdom han hln hlen
        have q1 : (0 : Int) ≤ (kq : Int) := by omega
        have q2 : (kq : Int) < (is.length : Int) := by omega
        have HK8 := HK
        clear HK HQ
        go_loopw [16] (fun i wr => ∃ c : Nat, c ≤ ln + 1 ∧ i = .int .i64 c ∧ Hid (Keeps (fun _ => False) w8 wr)) (fun i _ => ln + 1 - (intOf i).toNat)
        case atStart => exact ⟨0, by omega, rfl, HK8.out⟩
        case round =>
          obtain ⟨c, hc, rfl, hrel⟩ := hrel
          have HKR := hrel
          obtain ⟨d1, d2, d3, d4⟩ := HC.out
          have e1 := hrel.cell d1 (by simp)
          have e2 := hrel.cell d2 (by simp)
          have e3 := hrel.cell d3 (by simp)
          by_cases hcl : c ≤ ln
          · have hcl' : (c : Int) ≤ (ln : Int) := by omega
            obtain ⟨img, X, hi1, hi2, hi3, hi4, hi5, hi6, hi7⟩ := told_image (c := c) HW.out.1 HLN.out.2.2.2 HLN.out.2.2.1 HLN.out.2.1 ha8 (by rw [← HLN.out.1]; exact hcl)
            have hon := only_any kq c wr (by omega) (by omega)
            have HI := Hid.mk' (show S.crash is (List.replicate kq 0 ++ [(c : Int)]) = img ∧ img.length = n ∧ (∀ b ∈ img, 0 ≤ b ∧ b ≤ 255) ∧ wordAt img an = X ∧ (∀ i, ¬ (an ≤ i ∧ i < an + 8) → img.getD i 0 = S.old.getD i 0) from ⟨hi1, hi2, hi3, hi4, hi5⟩)
            have hcase : c = 0 ∨ ∃ j, c = j + 1 := by
              rcases c with _ | j
              · exact Or.inl rfl
              · exact Or.inr ⟨j, rfl⟩
            have hX : (c = 0 ∧ wr.cell? ⟨ga, kq * 3 + 1, none⟩ = some (.int .u64 X)) ∨ ∃ j, c = j + 1 ∧ wr.cell? ⟨ng an, j, none⟩ = some (.int .u64 X) := by
              rcases hcase with h | ⟨j, h⟩
              · left; rw [hi6 h]; exact ⟨h, e2⟩
              · right; rw [hi7 j h]; exact ⟨j, h, hrel.cell (d4 j (by omega)) (by simp)⟩
            generalize ng (an : Int) = gx at *
            clear hi1 hi2 hi3 hi4 hi5 hi6 hi7 d1 d2 d3 d4 hcase hrel
            rcases hX with ⟨hc0, e4⟩ | ⟨j, hcj, e4⟩
            · have hc0' : ¬ (0 : Int) < (c : Int) := by omega
              have hc0n : ¬ 0 < c := by omega
              clear hc0 e2
              go_wp2_with (first
                | (go_at_call 31; refine hon.mono ?_; rintro e w10 ⟨gc, cc, rfl, hgc, hcc, hgl, hk10⟩
                   clear hon
                   have hkk := HKR.out.trans hk10
                   have hcr := crash_dev w10 F (w.heap.size + 2) S L (HW.out.1.kept hkk (by simp)) HW.out.2.2.2.2.2.1 (by have := HLN.out.2.2.2; omega) (some ⟨gc, 0, none⟩) cc (List.replicate kq 0 ++ [(c : Int)]) (by unfold maxLen; simp; omega) (fun _ => ⟨gc, 0, rfl, hgl, fun i hi => by rw [Nat.zero_add]; exact hcc i (by simpa using hi)⟩)
                   rw [show (List.replicate kq (0 : Int) ++ [(c : Int)]).length = kq + 1 by simp, HLN.out.2.2.2] at hcr
                   have HK10 := Hid.mk' hkk
                   clear hgc hcc hgl hk10 hkk)
                | (go_at_call 12; refine hcr.mono ?_; rintro e w11 ⟨js, hR11, rfl, hb11, hk11⟩
                   clear hcr
                   obtain rfl := rising_unique hR11 HW.out.2.2.2.2.2.2
                   rw [HI.out.1] at hb11
                   have hkk := HK10.out.trans hk11
                   have e1' := hkk.cell HC.out.1 (by simp)
                   have h8 := at8_any w10.heap.size n an img w11 (fun i hi => cells_u8 hb11 i (by have := HI.out.2.1; omega)) HI.out.2.2.1 (by omega) (by omega)
                   rw [HI.out.2.2.2.1] at h8
                   have HB := Hid.mk' (show w11.heap[w10.heap.size]? = some (.cells (u8s img).toArray 5 (0, 0)) ∧ Keeps (fun _ => False) w8 w11 from ⟨hb11, hkk⟩)
                   clear hR11 hb11 hk11 hkk)
                | (go_at_call 15; refine h8.mono ?_; rintro e w' ⟨rfl, hw⟩; subst w'; clear h8))
              clear e4
              go_loopw [21] (fun i wx => ∃ i0 : Nat, i0 ≤ n ∧ i = .int .i64 i0 ∧ Hid (∃ q, wx = w11.drewN q)) (fun i _ => n - (intOf i).toNat)
              case atStart => exact ⟨0, by omega, rfl, 0, rfl⟩
              case round =>
                obtain ⟨i0, hi0, rfl, hrel⟩ := hrel
                obtain ⟨q, hq⟩ := hrel
                have hcell : ∀ a, wr.cell? a = w11.cell? a := fun a => by rw [hq]; rfl
                have HQ := Hid.mk' hq
                by_cases hlt : i0 < n
                · have f1 : (i0 : Int) < (n : Int) := by omega
                  have f2 : (0 : Int) ≤ (i0 : Int) := by omega
                  have c1 := (hcell ⟨w10.heap.size, i0, none⟩).trans (cells_u8 HB.out.1 i0 (by have := HI.out.2.1; omega))
                  have c2 := (hcell ⟨w3.heap.size, i0, none⟩).trans (HB.out.2.cell (cells_u8 HW.out.2.1 i0 (by have := HLN.out.2.2.2; omega)) (by simp))
                  have c3 := (hcell ⟨ga, kq * 3, none⟩).trans e1'
                  have hio := HI.out.2.2.2.2 i0
                  generalize img.getD i0 0 = x at *
                  generalize S.old.getD i0 0 = y at *
                  by_cases hxy : x = y
                  · have g1 : (x != y) = false := by simp [hxy]
                    have g2 : decide (x = y) = true := by simp [hxy]
                    have g3 : (!decide (x = y)) = false := by simp [hxy]
                    have g4 : (x == y) = true := by simp [hxy]
                    clear hxy hio hcell e1' hq
                    go_wp2
                    go_quiet (fail)
                    go_wp2
                    go_roundw
                    case rel => exact ⟨i0 + 1, by omega, by go_num, by obtain ⟨q0, e0⟩ : ∃ q0, wr = w11.drewN q0 := ⟨_, HQ.out⟩; rw [e0]; exact ⟨_, by simp; rfl⟩⟩
                    case measure => simp [intOf]; omega
                  · have hin : an ≤ i0 ∧ i0 < an + 8 := Decidable.byContradiction fun h => hxy (hio h)
                    have g1 : (x != y) = true := by simp [hxy]
                    have g2 : decide (x = y) = false := by simp [hxy]
                    have g3 : (!decide (x = y)) = true := by simp [hxy]
                    have g4 : (x == y) = false := by simp [hxy]
                    have g5 : decide ((i0 : Int) < (an : Int)) = false := by simp; omega
                    have g6 : decide ((an : Int) + 8 ≤ (i0 : Int)) = false := by simp; omega
                    have g5n : decide (i0 < an) = false := by simp; omega
                    have g6n : decide (an + 8 ≤ i0) = false := by simp; omega
                    have g7 : ¬ (i0 : Int) < (an : Int) := by omega
                    have g8 : ¬ (an : Int) + 8 ≤ (i0 : Int) := by omega
                    clear hxy hio hcell e1' hin hq
                    go_wp2
                    go_quiet (fail)
                    go_wp2
                    go_roundw
                    case rel => exact ⟨i0 + 1, by omega, by go_num, by obtain ⟨q0, e0⟩ : ∃ q0, wr = w11.drewN q0 := ⟨_, HQ.out⟩; rw [e0]; exact ⟨_, by simp; rfl⟩⟩
                    case measure => simp [intOf]; omega
                · obtain rfl : i0 = n := by omega
                  have HKE := Hid.mk' (HB.out.2.trans (keeps_drewN' (fun _ => False) _ _ _ hq))
                  clear hcell hq hlt
                  go_wp2
                  go_roundw
                  case rel => exact ⟨c + 1, by omega, by go_num, HKE.out⟩
                  case measure => simp [intOf]; omega
            · have hc0' : (0 : Int) < (c : Int) := by omega
              have hc0n : 0 < c := by omega
              have hc1' : (c : Int) - 1 = (j : Int) := by omega
              have hc2' : (0 : Int) ≤ (j : Int) := by omega
              have hc3' : (j : Int) < (ln : Int) := by omega
              have hc4' : IntKind.i64.wrap (j : Int) = (j : Int) := wrap_id (by omega) (by omega)
              have HCJ := Hid.mk' hcj
              clear hcj
              go_wp2_with (first
                | (go_at_call 31; refine hon.mono ?_; rintro e w10 ⟨gc, cc, rfl, hgc, hcc, hgl, hk10⟩
                   clear hon
                   have hkk := HKR.out.trans hk10
                   have hcr := crash_dev w10 F (w.heap.size + 2) S L (HW.out.1.kept hkk (by simp)) HW.out.2.2.2.2.2.1 (by have := HLN.out.2.2.2; omega) (some ⟨gc, 0, none⟩) cc (List.replicate kq 0 ++ [(c : Int)]) (by unfold maxLen; simp; omega) (fun _ => ⟨gc, 0, rfl, hgl, fun i hi => by rw [Nat.zero_add]; exact hcc i (by simpa using hi)⟩)
                   rw [show (List.replicate kq (0 : Int) ++ [(c : Int)]).length = kq + 1 by simp, HLN.out.2.2.2] at hcr
                   have HK10 := Hid.mk' hkk
                   clear hgc hcc hgl hk10 hkk)
                | (go_at_call 12; refine hcr.mono ?_; rintro e w11 ⟨js, hR11, rfl, hb11, hk11⟩
                   clear hcr
                   obtain rfl := rising_unique hR11 HW.out.2.2.2.2.2.2
                   rw [HI.out.1] at hb11
                   have hkk := HK10.out.trans hk11
                   have e1' := hkk.cell HC.out.1 (by simp)
                   have h8 := at8_any w10.heap.size n an img w11 (fun i hi => cells_u8 hb11 i (by have := HI.out.2.1; omega)) HI.out.2.2.1 (by omega) (by omega)
                   rw [HI.out.2.2.2.1] at h8
                   have HB := Hid.mk' (show w11.heap[w10.heap.size]? = some (.cells (u8s img).toArray 5 (0, 0)) ∧ Keeps (fun _ => False) w8 w11 from ⟨hb11, hkk⟩)
                   clear hR11 hb11 hk11 hkk)
                | (go_at_call 15; refine h8.mono ?_; rintro e w' ⟨rfl, hw⟩; subst w'; clear h8))
              clear e4
              go_loopw [21] (fun i wx => ∃ i0 : Nat, i0 ≤ n ∧ i = .int .i64 i0 ∧ Hid (∃ q, wx = w11.drewN q)) (fun i _ => n - (intOf i).toNat)
              case atStart => exact ⟨0, by omega, rfl, 0, rfl⟩
              case round =>
                obtain ⟨i0, hi0, rfl, hrel⟩ := hrel
                obtain ⟨q, hq⟩ := hrel
                have hcell : ∀ a, wr.cell? a = w11.cell? a := fun a => by rw [hq]; rfl
                have HQ := Hid.mk' hq
                by_cases hlt : i0 < n
                · have f1 : (i0 : Int) < (n : Int) := by omega
                  have f2 : (0 : Int) ≤ (i0 : Int) := by omega
                  have c1 := (hcell ⟨w10.heap.size, i0, none⟩).trans (cells_u8 HB.out.1 i0 (by have := HI.out.2.1; omega))
                  have c2 := (hcell ⟨w3.heap.size, i0, none⟩).trans (HB.out.2.cell (cells_u8 HW.out.2.1 i0 (by have := HLN.out.2.2.2; omega)) (by simp))
                  have c3 := (hcell ⟨ga, kq * 3, none⟩).trans e1'
                  have hio := HI.out.2.2.2.2 i0
                  generalize img.getD i0 0 = x at *
                  generalize S.old.getD i0 0 = y at *
                  by_cases hxy : x = y
                  · have g1 : (x != y) = false := by simp [hxy]
                    have g2 : decide (x = y) = true := by simp [hxy]
                    have g3 : (!decide (x = y)) = false := by simp [hxy]
                    have g4 : (x == y) = true := by simp [hxy]
                    clear hxy hio hcell e1' hq
                    go_wp2
                    go_quiet (fail)
                    go_wp2
                    go_roundw
                    case rel => exact ⟨i0 + 1, by omega, by go_num, by obtain ⟨q0, e0⟩ : ∃ q0, wr = w11.drewN q0 := ⟨_, HQ.out⟩; rw [e0]; exact ⟨_, by simp; rfl⟩⟩
                    case measure => simp [intOf]; omega
                  · have hin : an ≤ i0 ∧ i0 < an + 8 := Decidable.byContradiction fun h => hxy (hio h)
                    have g1 : (x != y) = true := by simp [hxy]
                    have g2 : decide (x = y) = false := by simp [hxy]
                    have g3 : (!decide (x = y)) = true := by simp [hxy]
                    have g4 : (x == y) = false := by simp [hxy]
                    have g5 : decide ((i0 : Int) < (an : Int)) = false := by simp; omega
                    have g6 : decide ((an : Int) + 8 ≤ (i0 : Int)) = false := by simp; omega
                    have g5n : decide (i0 < an) = false := by simp; omega
                    have g6n : decide (an + 8 ≤ i0) = false := by simp; omega
                    have g7 : ¬ (i0 : Int) < (an : Int) := by omega
                    have g8 : ¬ (an : Int) + 8 ≤ (i0 : Int) := by omega
                    clear hxy hio hcell e1' hin hq
                    go_wp2
                    go_quiet (fail)
                    go_wp2
                    go_roundw
                    case rel => exact ⟨i0 + 1, by omega, by go_num, by obtain ⟨q0, e0⟩ : ∃ q0, wr = w11.drewN q0 := ⟨_, HQ.out⟩; rw [e0]; exact ⟨_, by simp; rfl⟩⟩
                    case measure => simp [intOf]; omega
                · obtain rfl : i0 = n := by omega
                  have HKE := Hid.mk' (HB.out.2.trans (keeps_drewN' (fun _ => False) _ _ _ hq))
                  clear hcell hq hlt
                  go_wp2
                  go_roundw
                  case rel => exact ⟨c + 1, by omega, by go_num, HKE.out⟩
                  case measure => simp [intOf]; omega
          · have hcl' : ¬ (c : Int) ≤ (ln : Int) := by omega
            have hcl2 : decide ((c : Int) ≤ (ln : Int)) = false := by simp; omega
            clear d1 d2 d3 d4 hrel
            go_wp2
            go_ret
            exact ⟨rfl, (HW.out.2.2.2.1.trans (HKR.out.mono (by simp))).below (Nat.le_refl _) (fun k hk => hk)⟩
end Go.Proofs.Ytfiekdgpdboolaa
