import Derived.Test.YtnafocbgapianabB5
namespace Go.Proofs.Ytnafocbgapianab
open Go.RowKit

theorem boolCells_set (H : Nat → Bool) (n i : Nat) (b : Bool) : (boolCells H n).toArray.setIfInBounds i (.bool b) = (boolCells (upd H i b) n).toArray := by
  rw [List.setIfInBounds_toArray]
  congr 1
  apply List.ext_getElem?
  intro j
  rw [List.getElem?_set]
  by_cases hj : i = j
  · subst hj
    by_cases hi : i < n
    · simp [boolCells, hi, upd]
    · simp [boolCells, hi]
  · rw [if_neg hj]
    by_cases hjn : j < n
    · simp [boolCells, hjn, upd, Ne.symm hj]
    · simp [boolCells, hjn]

theorem BookAt.setBit {w : World} {k hb : Nat} {s : Sh} {H : Nat → Bool} {many : Nat} (h : BookAt w k hb s H many) (i : Nat) (b : Bool) :
    BookAt (w.setCell ⟨hb, i, none⟩ (.bool b)) k hb s (upd H i b) many ∧ Keeps (fun j => j = k ∨ j = hb) w (w.setCell ⟨hb, i, none⟩ (.bool b)) := by
  have kp : Keeps (fun j => j = hb) w (w.setCell ⟨hb, i, none⟩ (.bool b)) := Keeps.of (grownBy_setCell w ⟨hb, i, none⟩ _) (by rintro j hj; cases hj; exact Or.inl rfl)
  refine ⟨⟨kp.at h.at_ h.ne, ?_, h.ne⟩, kp.mono fun _ _ hj => Or.inr hj⟩
  have := setCell_block (a := ⟨hb, i, none⟩) (v := .bool b) h.held rfl
  rw [boolCells_set] at this
  exact this
theorem BookAt.setMany {w : World} {k hb : Nat} {s : Sh} {H : Nat → Bool} {many : Nat} (h : BookAt w k hb s H many) (m : Nat) :
    BookAt (w.setCell ⟨k, 5, none⟩ (.int .i64 m)) k hb s H m ∧ Keeps (fun j => j = k ∨ j = hb) w (w.setCell ⟨k, 5, none⟩ (.int .i64 m)) := by
  have kp : Keeps (fun j => j = k) w (w.setCell ⟨k, 5, none⟩ (.int .i64 m)) := Keeps.of (grownBy_setCell w ⟨k, 5, none⟩ _) (by rintro j hj; cases hj; exact Or.inl rfl)
  refine ⟨⟨?_, kp.at h.held (Ne.symm h.ne), h.ne⟩, kp.mono fun _ _ hj => Or.inl hj⟩
  have := setCell_block (a := ⟨k, 5, none⟩) (v := .int .i64 m) h.at_ rfl
  simpa using this

/-- Pages held besides. -/
def setH (H : Nat → Bool) (T : List Nat) : Nat → Bool := fun j => H j || decide (j ∈ T)
theorem setH_nil (H : Nat → Bool) : setH H [] = H := by funext j; simp [setH]
theorem setH_snoc (H : Nat → Bool) (T : List Nat) (q : Nat) : setH H (T ++ [q]) = upd (setH H T) q true := by
  funext j
  unfold setH upd
  by_cases h : j = q
  · simp [h]
  · simp [h]
theorem setH_not {H : Nat → Bool} {T : List Nat} {q : Nat} (h1 : H q = false) (h2 : q ∉ T) : setH H T q = false := by simp [setH, h1, h2]

theorem pagesOf_take (l : List (Nat × Nat)) (i : Nat) (hi : i < l.length) : pagesOf (l.take (i + 1)) = pagesOf (l.take i) ++ List.range' (l.getD i (0, 0)).1 (l.getD i (0, 0)).2 := by
  rw [take_getD (0, 0) hi, pagesOf_app]; simp [pagesOf]
theorem pagesOf_cut (l : List (Nat × Nat)) (i : Nat) (hi : i < l.length) : ∃ r, pagesOf l = pagesOf (l.take i) ++ List.range' (l.getD i (0, 0)).1 (l.getD i (0, 0)).2 ++ r := by
  refine ⟨pagesOf (l.drop (i + 1)), ?_⟩
  rw [← pagesOf_take l i hi, ← pagesOf_app, List.take_append_drop]

set_option maxHeartbeats 4000000 in
set_option maxRecDepth 20000 in
theorem took_any (w : World) (k hb : Nat) (s : Sh) (hg : s.Good) (H : Nat → Bool) (many : Nat) (hbk : BookAt w k hb s H many) (p : Option Addr) (cap : Nat) (l : List (Nat × Nat)) (hl : SpIn w p (castL l)) (hpk : ∀ b, p.map (·.block) = some b → b ≠ k ∧ b ≠ hb)
    (hn : Neat l) (hnd : (pagesOf l).Nodup) (hin : ∀ q ∈ pagesOf l, s.data ≤ q ∧ q < s.pages ∧ H q = false) (hm : many + (pagesOf l).length ≤ 2000) (hll : l.length ≤ 2000) :
    Calls Try.prog 43 #[.pointer (some ⟨k, 0, none⟩), .slice p l.length cap] w fun e w' => e = .returned (.bool true) ∧ BookAt w' k hb s (setH H (pagesOf l)) (many + (pagesOf l).length) ∧ Keeps (fun j => j = k ∨ j = hb) w w' := by
  have hpg : s.pages ≤ 1024 := hg.2.1
  have h9 : s.data + 8 ≤ s.pages := hg.2.2.2.2.2.2.2.2
  have HL := Hid.mk' hl
  have HPK := Hid.mk' hpk
  have HN := Hid.mk' hn
  have HND := Hid.mk' hnd
  have HIN := Hid.mk' hin
  have HB0 := Hid.mk' hbk
  have HM := Hid.mk' hm
  clear hl hpk hn hnd hin hbk hm hg
  go_enter Try.func43, Try.ntmps43
  go_wp2
  go_loopw [5] (fun iv wr => ∃ i : Nat, i ≤ l.length ∧ iv = .int .i64 i ∧ Hid (BookAt wr k hb s (setH H (pagesOf (l.take i))) (many + (pagesOf (l.take i)).length) ∧ Keeps (fun j => j = k ∨ j = hb) w wr)) (fun iv _ => l.length - (intOf iv).toNat)
  case atStart => exact ⟨0, by omega, rfl, by simpa [pagesOf, setH_nil] using HB0.out, Keeps.refl _ _⟩
  case round =>
    obtain ⟨i, hi, rfl, hrel⟩ := hrel
    by_cases hlt : i < l.length
    · have hlt' : (i : Int) < (l.length : Int) := by omega
      obtain ⟨b, o, rfl, hbs, hcs⟩ := HL.out (by rw [castL_len]; omega)
      obtain ⟨hbk1, hbk2⟩ := HPK.out b rfl
      have hnX : ¬ (b = k ∨ b = hb) := by omega
      have e1 := hrel.out.2.cell (hcs i (by rw [castL_len]; exact hlt)).1 hnX
      have e2 := hrel.out.2.cell (hcs i (by rw [castL_len]; exact hlt)).2 hnX
      rw [castL_get] at e1 e2
      have hnt := neat_get HN.out i hlt
      rw [show l[i] = l.getD i (0, 0) by rw [List.getD_eq_getElem?_getD, List.getElem?_eq_getElem hlt]; rfl] at hnt
      obtain ⟨r, hcut⟩ := pagesOf_cut l i hlt
      have HTK := Hid.mk' (pagesOf_take l i hlt)
      obtain ⟨k0, k2, k3, k4, k5, kf⟩ := hrel.out.1.cells
      have hprev : 0 < i → ∃ f' c' : Nat, wr.cell? ⟨b, o + (i - 1) * 2, none⟩ = some (.int .i64 f') ∧ wr.cell? ⟨b, o + (i - 1) * 2 + 1, none⟩ = some (.int .i64 c') ∧ f' + c' ≠ (l.getD i (0, 0)).1 ∧ f' + c' ≤ 5000 := by
        intro h0
        have d1 := hrel.out.2.cell (hcs (i - 1) (by rw [castL_len]; omega)).1 hnX
        have d2 := hrel.out.2.cell (hcs (i - 1) (by rw [castL_len]; omega)).2 hnX
        rw [castL_get] at d1 d2
        have hnp := neat_get HN.out (i - 1) (by omega)
        have hx := hnp.2 (by omega)
        have e3 : l[i - 1] = l.getD (i - 1) (0, 0) := by rw [List.getD_eq_getElem?_getD, List.getElem?_eq_getElem (by omega)]; rfl
        have e4 : l[i - 1 + 1] = l.getD i (0, 0) := by
          rw [List.getD_eq_getElem?_getD, List.getElem?_eq_getElem hlt]
          simp only [show i - 1 + 1 = i by omega]; rfl
        rw [e3, e4] at hx
        refine ⟨_, _, d1, d2, hx, ?_⟩
        have hp1 := hnp.1
        rw [e3] at hp1
        obtain ⟨r', hc'⟩ := pagesOf_cut l (i - 1) (by omega)
        have := (HIN.out ((l.getD (i - 1) (0, 0)).1 + ((l.getD (i - 1) (0, 0)).2 - 1)) (by rw [hc']; simp only [List.mem_append, List.mem_range'_1]; left; right; omega)).2.1
        omega
      have hfc1 := HIN.out (l.getD i (0, 0)).1 (by rw [hcut]; simp only [List.mem_append, List.mem_range'_1]; left; right; omega)
      have hfc2 := HIN.out ((l.getD i (0, 0)).1 + ((l.getD i (0, 0)).2 - 1)) (by rw [hcut]; simp only [List.mem_append, List.mem_range'_1]; left; right; omega)
      have HCUT := Hid.mk' hcut
      have HTV := Hid.mk' (castL_get l i)
      generalize l.getD i (0, 0) = t at *
      obtain ⟨f, c⟩ := t
      simp only at e1 e2 hnt hfc1 hfc2 HTK HCUT hprev HTV
      have hc1 := hnt.1
      have n1 : ¬ (c : Int) < 1 := by omega
      have n1' : decide ((c : Int) < 1) = false := by simp; omega
      have n2 : ¬ (s.pages : Int) < (c : Int) := by omega
      have n2' : decide ((s.pages : Int) < (c : Int)) = false := by simp; omega
      have n3 : ¬ (f : Int) < (s.data : Int) := by omega
      have n3' : decide ((f : Int) < (s.data : Int)) = false := by simp; omega
      have hsb : IntKind.i64.wrap ((s.pages : Int) - (c : Int)) = (s.pages : Int) - (c : Int) := i64_id (by omega) (by omega)
      have n4 : ¬ (s.pages : Int) - (c : Int) < (f : Int) := by omega
      have n4' : decide ((s.pages : Int) - (c : Int) < (f : Int)) = false := by simp; omega
      have i0 : (0 : Int) ≤ (i : Int) := by omega
      have n2n : decide (s.pages < c) = false := by simp; omega
      have n3n : decide (f < s.data) = false := by simp; omega
      have HREL := hrel
      clear hrel hcs hcut hnt kf
      have HCL : Hid ((pagesOf (l.take i)).length + c ≤ (pagesOf l).length) := by
        show _ ≤ _
        rw [HCUT.out]; simp
      have HNDL : Hid (∀ j, j < c → setH H (pagesOf (l.take i) ++ List.range' f j) (f + j) = false ∧ f + j < s.pages) := by
        intro j hj
        have hmem : f + j ∈ pagesOf l := by rw [HCUT.out]; simp only [List.mem_append, List.mem_range'_1]; left; right; omega
        have h3 := HIN.out _ hmem
        refine ⟨setH_not h3.2.2 ?_, h3.2.1⟩
        have hnd := HND.out
        rw [HCUT.out, range_split f j c (by omega), List.append_assoc, List.append_assoc, ← List.append_assoc, List.nodup_append] at hnd
        intro hc
        refine hnd.2.2 _ hc (f + j) ?_ rfl
        simp only [List.mem_append, List.mem_range'_1]; left; omega
      have HT2 : Hid (pagesOf (l.take (i + 1)) = pagesOf (l.take i) ++ List.range' f c) := HTK.out
      have HB1 : Hid (BookAt wr k hb s (setH H (pagesOf (l.take i) ++ List.range' f 0)) (many + (pagesOf (l.take i)).length + 0)) := by
        show BookAt _ _ _ _ _ _
        simpa using HREL.out.1
      have hMl : many + (pagesOf (l.take i)).length + c ≤ 2000 := by have := HCL.out; have := HM.out; omega
      have hfcs : f + c ≤ s.pages := by omega
      have HKP := Hid.mk' HREL.out.2
      generalize pagesOf (l.take i) = P at *
      have hsum : IntKind.i64.wrap ((f : Int) + (c : Int)) = (f : Int) + (c : Int) := i64_id (by omega) (by omega)
      have HQ : Hid (∀ wx, Keeps (fun j => j = k ∨ j = hb) w wx → wx.cell? ⟨b, o + i * 2, none⟩ = some (.int .i64 (f : Int)) ∧ wx.cell? ⟨b, o + i * 2 + 1, none⟩ = some (.int .i64 (c : Int))) := by
        intro wx hk
        obtain ⟨_, _, hq, _, hcs⟩ := HL.out (by rw [castL_len]; omega)
        cases hq
        have e3 := hk.cell (hcs i (by rw [castL_len]; exact hlt)).1 hnX
        have e4 := hk.cell (hcs i (by rw [castL_len]; exact hlt)).2 hnX
        rw [HTV.out] at e3 e4
        exact ⟨e3, e4⟩
      obtain ⟨i1, hi1⟩ : ∃ i1, i1 = i - 1 := ⟨_, rfl⟩
      have hcase : (i = 0) ∨ (0 < i) := by omega
      rcases hcase with hz | hz
      · have z1 : decide (0 < i) = false := by simp; omega
        have z2 : decide ((0 : Int) < (i : Int)) = false := by simp; omega
        have z3 : ¬ (0 : Int) < (i : Int) := by omega
        clear hz hprev hi1 HREL HTK HCUT
        go_wp2
        go_quiet (fail)
        go_wp2
        go_quiet (fail)
        go_wp2
        go_loopw [6] (fun kv wx => ∃ j : Nat, j ≤ c ∧ kv = .int .i64 ((f : Int) + (j : Int)) ∧ Hid (BookAt wx k hb s (setH H (P ++ List.range' f j)) (many + P.length + j) ∧ Keeps (fun j => j = k ∨ j = hb) w wx)) (fun kv _ => f + c - (intOf kv).toNat)
        case atStart => exact ⟨0, by omega, by simp, HB1.out.kept (Keeps.drewN (fun _ => False) _ _) (by simp) (by simp), HKP.out.trans (Keeps.drewN _ _ _)⟩
        case round =>
          obtain ⟨j, hj, rfl, hrel⟩ := hrel
          obtain ⟨c0, c2, c3, c4, c5, cf⟩ := hrel.out.1.cells
          have cf5 := cf 5
          obtain ⟨q1, q2⟩ := HQ.out wr hrel.out.2
          by_cases hlj : j < c
          · obtain ⟨hH, hfj⟩ := HNDL.out j hlj
            have hbit := hrel.out.1.bit (f + j) hfj
            have hbf := hrel.out.1.bit_frozen (f + j)
            rw [hH] at hbit
            have y1 : (f : Int) + (j : Int) < (f : Int) + (c : Int) := by omega
            have y2 : (f : Int) + (j : Int) < (s.pages : Int) := by omega
            have y3 : (0 : Int) ≤ (f : Int) + (j : Int) := by omega
            have y4 : ((f : Int) + (j : Int)).toNat = f + j := by omega
            have y5 : IntKind.i64.wrap ((many + P.length + j : Nat) : Int) = ((many + P.length + j : Nat) : Int) := i64_id (by omega) (by omega)
            have y6 : IntKind.i64.wrap ((f : Int) + (j : Int) + 1) = (f : Int) + ((j + 1 : Nat) : Int) := by rw [i64_id (by omega) (by omega)]; omega
            obtain ⟨s1, s2⟩ := hrel.out.1.setBit (f + j) true
            rw [← setH_snoc, List.append_assoc, ← range_snoc] at s1
            obtain ⟨s3, s4⟩ := s1.setMany (many + P.length + (j + 1))
            have m5 := s1.cells.2.2.2.2.1
            have m4 := s1.cells.2.2.2.1
            have mf := s1.cells.2.2.2.2.2 5
            have HFIN := Hid.mk' (And.intro s3 ((hrel.out.2.trans s2).trans s4))
            clear hrel cf hH s1 s2 s3 s4
            go_wp2
            go_quiet (fail)
            have m5' : ((wr.drewN nq).setCell ⟨hb, f + j, none⟩ (.bool true)).cell? ⟨k, 5, none⟩ = some (.int .i64 ((many + P.length + j : Nat) : Int)) := m5
            have mf' : ((wr.drewN nq).setCell ⟨hb, f + j, none⟩ (.bool true)).frozen? ⟨k, 5, none⟩ = false := mf
            have m4' : ((wr.drewN nq).setCell ⟨hb, f + j, none⟩ (.bool true)).cell? ⟨k, 4, none⟩ = some (.slice (some ⟨hb, 0, none⟩) s.pages s.pages) := m4
            clear m5 mf m4
            go_wp2
            go_roundw
            case rel => exact ⟨j + 1, by omega, by go_num, ⟨HFIN.out.1.at_, HFIN.out.1.held, HFIN.out.1.ne⟩, HFIN.out.2.trans ⟨rfl, rfl, rfl, Nat.le_refl _, fun _ _ _ => rfl⟩⟩
            case measure => simp [intOf]; omega
          · have y1 : ¬ (f : Int) + (j : Int) < (f : Int) + (c : Int) := by omega
            have HJ := Hid.mk' (show j = c by omega)
            have HREL := hrel
            clear hrel cf
            go_wp2
            go_quiet (fail)
            go_wp2
            go_roundw
            case rel =>
              refine ⟨i + 1, by omega, by go_num, ?_, HREL.out.2.trans (Keeps.drewN _ _ _)⟩
              have := fun m => HREL.out.1.kept (Keeps.drewN (fun _ => False) _ m) (by simp) (by simp)
              rw [HJ.out] at this
              rw [HT2.out, List.length_append, List.length_range', ← Nat.add_assoc]
              exact this _
            case measure => simp [intOf]; omega
      · obtain ⟨f', c', d1, d2, d3, d4⟩ := hprev hz
        rw [← hi1] at d1 d2
        have z1 : decide (0 < i) = true := by simp; omega
        have z3 : (0 : Int) < (i : Int) := by omega
        have z4 : IntKind.i64.wrap ((i : Int) - 1) = (i1 : Int) := by rw [i64_id (by omega) (by omega)]; omega
        have z5 : (i : Int) - 1 = (i1 : Int) := by omega
        have z6 : (i1 : Int) < (l.length : Int) := by omega
        have z7 : IntKind.i64.wrap ((f' : Int) + (c' : Int)) = (f' : Int) + (c' : Int) := i64_id (by omega) (by omega)
        have z8 : ((f' : Int) + (c' : Int) == (f : Int)) = false := by simp; omega
        have z9 : (0 : Int) ≤ (i1 : Int) := by omega
        clear hz hprev hi1 HREL HTK HCUT
        go_wp2
        go_quiet (fail)
        go_wp2
        go_quiet (fail)
        go_wp2
        go_loopw [6] (fun kv wx => ∃ j : Nat, j ≤ c ∧ kv = .int .i64 ((f : Int) + (j : Int)) ∧ Hid (BookAt wx k hb s (setH H (P ++ List.range' f j)) (many + P.length + j) ∧ Keeps (fun j => j = k ∨ j = hb) w wx)) (fun kv _ => f + c - (intOf kv).toNat)
        case atStart => exact ⟨0, by omega, by simp, HB1.out.kept (Keeps.drewN (fun _ => False) _ _) (by simp) (by simp), HKP.out.trans (Keeps.drewN _ _ _)⟩
        case round =>
          obtain ⟨j, hj, rfl, hrel⟩ := hrel
          obtain ⟨c0, c2, c3, c4, c5, cf⟩ := hrel.out.1.cells
          have cf5 := cf 5
          obtain ⟨q1, q2⟩ := HQ.out wr hrel.out.2
          by_cases hlj : j < c
          · obtain ⟨hH, hfj⟩ := HNDL.out j hlj
            have hbit := hrel.out.1.bit (f + j) hfj
            have hbf := hrel.out.1.bit_frozen (f + j)
            rw [hH] at hbit
            have y1 : (f : Int) + (j : Int) < (f : Int) + (c : Int) := by omega
            have y2 : (f : Int) + (j : Int) < (s.pages : Int) := by omega
            have y3 : (0 : Int) ≤ (f : Int) + (j : Int) := by omega
            have y4 : ((f : Int) + (j : Int)).toNat = f + j := by omega
            have y5 : IntKind.i64.wrap ((many + P.length + j : Nat) : Int) = ((many + P.length + j : Nat) : Int) := i64_id (by omega) (by omega)
            have y6 : IntKind.i64.wrap ((f : Int) + (j : Int) + 1) = (f : Int) + ((j + 1 : Nat) : Int) := by rw [i64_id (by omega) (by omega)]; omega
            obtain ⟨s1, s2⟩ := hrel.out.1.setBit (f + j) true
            rw [← setH_snoc, List.append_assoc, ← range_snoc] at s1
            obtain ⟨s3, s4⟩ := s1.setMany (many + P.length + (j + 1))
            have m5 := s1.cells.2.2.2.2.1
            have m4 := s1.cells.2.2.2.1
            have mf := s1.cells.2.2.2.2.2 5
            have HFIN := Hid.mk' (And.intro s3 ((hrel.out.2.trans s2).trans s4))
            clear hrel cf hH s1 s2 s3 s4
            go_wp2
            go_quiet (fail)
            have m5' : ((wr.drewN nq).setCell ⟨hb, f + j, none⟩ (.bool true)).cell? ⟨k, 5, none⟩ = some (.int .i64 ((many + P.length + j : Nat) : Int)) := m5
            have mf' : ((wr.drewN nq).setCell ⟨hb, f + j, none⟩ (.bool true)).frozen? ⟨k, 5, none⟩ = false := mf
            have m4' : ((wr.drewN nq).setCell ⟨hb, f + j, none⟩ (.bool true)).cell? ⟨k, 4, none⟩ = some (.slice (some ⟨hb, 0, none⟩) s.pages s.pages) := m4
            clear m5 mf m4
            go_wp2
            go_roundw
            case rel => exact ⟨j + 1, by omega, by go_num, ⟨HFIN.out.1.at_, HFIN.out.1.held, HFIN.out.1.ne⟩, HFIN.out.2.trans ⟨rfl, rfl, rfl, Nat.le_refl _, fun _ _ _ => rfl⟩⟩
            case measure => simp [intOf]; omega
          · have y1 : ¬ (f : Int) + (j : Int) < (f : Int) + (c : Int) := by omega
            have HJ := Hid.mk' (show j = c by omega)
            have HREL := hrel
            clear hrel cf
            go_wp2
            go_quiet (fail)
            go_wp2
            go_roundw
            case rel =>
              refine ⟨i + 1, by omega, by go_num, ?_, HREL.out.2.trans (Keeps.drewN _ _ _)⟩
              have := fun m => HREL.out.1.kept (Keeps.drewN (fun _ => False) _ m) (by simp) (by simp)
              rw [HJ.out] at this
              rw [HT2.out, List.length_append, List.length_range', ← Nat.add_assoc]
              exact this _
            case measure => simp [intOf]; omega
    · have hlt' : ¬ (i : Int) < (l.length : Int) := by omega
      have HI := Hid.mk' (show i = l.length by omega)
      have HREL := hrel
      clear hrel
      go_wp2
      go_ret
      have := HREL.out.1
      rw [HI.out, List.take_length] at this
      exact ⟨rfl, this, HREL.out.2⟩

end Go.Proofs.Ytnafocbgapianab
