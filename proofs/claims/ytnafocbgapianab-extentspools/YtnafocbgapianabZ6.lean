import Derived.Test.YtnafocbgapianabZ2
namespace Go.Proofs.Ytnafocbgapianab
open Go.RowKit

theorem gv_app (S : Nat → Bool) (l r : List Nat) : gv S (l ++ r) = (gv S l).bind fun T => gv T r := by
  induction l generalizing S with
  | nil => rfl
  | cons p ps ih =>
    simp only [List.cons_append, gv]
    split
    · rfl
    · exact ih _
theorem gv_set {S T : Nat → Bool} {l : List Nat} (h : gv S l = some T) : T = setH S l := by
  induction l generalizing S with
  | nil => simp only [gv] at h; cases h; funext j; simp [setH]
  | cons p ps ih =>
    simp only [gv] at h
    split at h
    · cases h
    · rw [ih h]
      funext j
      unfold setH upd
      by_cases hj : j = p
      · simp [hj]
      · simp [hj]

set_option maxHeartbeats 2000000 in
theorem rgive_range (w : World) (e : Nat) (v : Value) (s : Sh) (S : Nat → Bool) (h : RpAt w e v s S) (p : Option Addr) (cap : Nat) (l : List Int) (hin : IntIn w p l) (hl : l.length ≤ maxLen) (hb : l.all (inD s) = false) :
    Calls Try.prog 61 #[.pointer (some ⟨e, 0, none⟩), .slice p l.length cap] w fun r w' => r = .returned (.int .i64 52) ∧ w' = w := by
  unfold maxLen at hl
  have HR := Hid.mk' h
  have HB := Hid.mk' hb
  have HIN := Hid.mk' hin
  clear h hb hin
  go_enter Try.func61, Try.ntmps61
  go_wp2
  go_loop [5] (fun i => ∃ k : Nat, k ≤ l.length ∧ i = .int .i64 k ∧ Hid ((l.take k).all (inD s) = true)) (fun i => l.length - (intOf i).toNat)
  case atStart => exact ⟨0, by omega, rfl, rfl⟩
  case round =>
    obtain ⟨k, hk, rfl, hrel⟩ := hrel
    by_cases hlt : k < l.length
    · obtain ⟨b, o, rfl, hbs, hc⟩ := HIN.out (by omega)
      have e1 := hc k hlt
      have htk := take_getD 0 hlt
      generalize l.getD k 0 = x at *
      have hlt' : (k : Int) < (l.length : Int) := by omega
      have hk0 : (0 : Int) ≤ (k : Int) := by omega
      have hii := rin_any w e v s S HR.out x
      have HREL := hrel
      have HTK := Hid.mk' htk
      clear hc hrel htk
      cases hx : inD s x with
      | false =>
        rw [hx] at hii
        clear hx
        go_wp2_with (first | (go_at_call 76; refine hii.mono ?_; clear hii; rintro r w1 ⟨rfl, hw⟩; subst w1))
        go_ret
        exact ⟨rfl, rfl⟩
      | true =>
        rw [hx] at hii
        have HI := Hid.mk' hx
        clear hx
        go_wp2_with (first | (go_at_call 76; refine hii.mono ?_; clear hii; rintro r w1 ⟨rfl, hw⟩; subst w1))
        go_round
        case rel =>
          refine ⟨k + 1, by omega, by go_num, ?_⟩
          show _ = true
          rw [HTK.out, List.all_append, HREL.out]
          simp [HI.out]
        case measure => simp [intOf]; omega
    · exfalso
      have h1 := hrel.out
      rw [show k = l.length by omega, List.take_length, HB.out] at h1
      exact absurd h1 (by decide)

set_option maxHeartbeats 4000000 in
theorem rgive_in (w : World) (e : Nat) (v : Value) (s : Sh) (S : Nat → Bool) (h : RpAt w e v s S) (p : Option Addr) (cap : Nat) (l : List Int) (hin : IntIn w p l) (hpg4 : ∀ b, p.map (·.block) = some b → v.ownBlock ≠ some b) (hl : l.length ≤ maxLen) (hb : l.all (inD s) = true) :
    Calls Try.prog 61 #[.pointer (some ⟨e, 0, none⟩), .slice p l.length cap] w fun r w' =>
      (gv S (l.map Int.toNat) = none ∧ r = .returned (.int .i64 51) ∧ RpAt w' e v s S ∧ Keeps (fun k => w.heap.size ≤ k) w w') ∨
      (∃ S', gv S (l.map Int.toNat) = some S' ∧ r = .returned (.int .i64 0) ∧ RpAt w' e v s S' ∧ Keeps (fun k => v.ownBlock = some k ∨ w.heap.size ≤ k) w w') := by
  obtain ⟨c0, _, _, _, _⟩ := h.cells
  have hpg : s.pages ≤ 1024 := h.good.2.1
  unfold maxLen at hl
  have hel := heap_lt h.at_
  obtain ⟨g, gcap, rfl, hgl, _, _, hge⟩ := h.form
  have HP := Hid.mk' h
  have HB := Hid.mk' (List.all_eq_true.1 hb)
  have HIN := Hid.mk' hin
  have hmk := fun w => run_make_row' (P := Try.prog) 33 4 (.bool false) 1 Try.underlying33 info4 rfl .i64 .i64 s.pages (by omega) (by omega) w
  have HP4 := Hid.mk' hpg4
  clear h hb hin hpg4
  go_enter Try.func61, Try.ntmps61
  go_wp2
  go_loop [5] (fun i => ∃ k : Nat, k ≤ l.length ∧ i = .int .i64 k) (fun i => l.length - (intOf i).toNat)
  case atStart => exact ⟨0, by omega, rfl⟩
  case round =>
    obtain ⟨k, hk, rfl⟩ := hrel
    by_cases hlt : k < l.length
    · obtain ⟨b, o, rfl, hbs, hc⟩ := HIN.out (by omega)
      have e1 := hc k hlt
      have hx := HB.out _ (getD_mem (d := 0) hlt)
      generalize l.getD k 0 = x at *
      have hii := rin_any w e _ s S HP.out x
      rw [hx] at hii
      have hlt' : (k : Int) < (l.length : Int) := by omega
      have hk0 : (0 : Int) ≤ (k : Int) := by omega
      clear hc hx hmk
      go_wp2_with (first | (go_at_call 76; refine hii.mono ?_; clear hii; rintro r w1 ⟨rfl, hw⟩; subst w1))
      go_round
      case rel => exact ⟨k + 1, by omega, by go_num⟩
      case measure => simp [intOf]; omega
    · have hlt' : ¬ (k : Int) < (l.length : Int) := by omega
      clear hlt
      go_wp2
      have hnb := (MapKept.heap_alloc w (.cells (madeCells #[.bool false] s.pages) 4)).1
      have g1 : Keeps (fun k => w.heap.size ≤ k) w (w.alloc (.cells (madeCells #[.bool false] s.pages) 4)) := Keeps.of (World.grownBy_alloc w _ none) (by simp)
      rw [← boolCells_none] at hnb
      obtain ⟨nb, hnb0⟩ : ∃ nb, nb = w.heap.size := ⟨_, rfl⟩
      rw [← hnb0] at hnb ⊢
      have HN := Hid.mk' (And.intro hnb (And.intro g1 hnb0))
      rw [← boolCells_none] at HN ⊢
      generalize w.alloc (.cells (boolCells (fun _ => false) s.pages).toArray 4) = w1 at *
      clear hmk hnb g1 hnb0 c0
      go_loopw [8] (fun i wr => ∃ (k : Nat) (T N : Nat → Bool), k ≤ l.length ∧ i = .int .i64 k ∧ Hid (gv S (l.map Int.toNat) = gv T ((l.drop k).map Int.toNat) ∧ wr.heap[nb]? = some (.cells (boolCells N s.pages).toArray 4 (0, 0)) ∧ (∀ j, T j = (S j || N j)) ∧ (∀ i, T i = true → s.data ≤ i ∧ i < s.pages) ∧ Keeps (fun k => k = nb) w1 wr)) (fun i _ => l.length - (intOf i).toNat)
      case atStart => exact ⟨0, S, fun _ => false, by omega, rfl, rfl, HN.out.1, fun j => by simp, HP.out.sup, Keeps.refl _ _⟩
      case round =>
        obtain ⟨k, T, N, hk, rfl, hrel⟩ := hrel
        have hkw : Keeps (fun k => nb ≤ k) w wr := (HN.out.2.1.mono (fun k _ hk => by have := HN.out.2.2; omega)).then hrel.out.2.2.2.2 (by intro k hk; left; omega)
        have hnbl : nb = w.heap.size := HN.out.2.2
        have hRw := HP.out.kept hkw (by omega) (fun g' hg' => by cases hg'; exact Nat.not_le_of_lt (by show g < nb; omega))
        have hc4 := hRw.cells.2.2.2.2
        obtain ⟨g', gc', hv, _, hcs, hfz, _⟩ := hRw.form
        cases hv
        by_cases hlt : k < l.length
        · obtain ⟨b, o, rfl, hbs, hc⟩ := HIN.out (by omega)
          have e1 := hkw.cell (hc k hlt) (by show ¬ nb ≤ b; omega)
          have hdr := drop_getD 0 hlt
          obtain ⟨x, hx, hx1, hx2⟩ := inD_nat (HB.out _ (getD_mem (d := 0) hlt))
          rw [hx] at e1 hdr
          have hlt' : (k : Int) < (l.length : Int) := by omega
          have hk0 : (0 : Int) ≤ (k : Int) := by omega
          have hx0 : (0 : Int) ≤ (x : Int) := by omega
          have hxp : (x : Int) < (s.pages : Int) := by omega
          have hb := hcs x hx2
          have hbn : wr.cell? ⟨nb, x, none⟩ = some (.bool (N x)) := by rw [cell_of_row _ _ x _ _ _ hrel.out.2.1]; simpa using boolCells_get N s.pages x hx2
          have hfn : wr.frozen? ⟨nb, x, none⟩ = false := by simp [World.frozen?, hrel.out.2.1]
          have HG := Hid.mk' hrel.out.1
          rw [hdr, List.map_cons, Int.toNat_natCast] at HG
          have HREL := hrel
          have HKW := Hid.mk' hkw
          have HRW := Hid.mk' hRw
          have HTx := Hid.mk' (hrel.out.2.2.1 x)
          have hST := hrel.out.2.2.1 x
          have HKS := Hid.mk' (keep_set' wr nb x (.bool true))
          have HNB := Hid.mk' hnbl
          clear hc hrel hkw hx hdr hcs hfz hRw hnbl
          cases hSx : S x with
          | true =>
            rw [hSx] at hb hST
            have HTT := Hid.mk' (show T x = true by rw [hST]; rfl)
            clear hSx hST
            go_wp2
            go_quiet (fail)
            go_wp2
            go_ret
            refine Or.inl ⟨?_, rfl, HRW.out.drewN _, ?_⟩
            · rw [HG.out, gv, if_pos HTT.out]
            · rw [← HNB.out]; exact HKW.out.trans (Keeps.drewN _ _ _)
          | false =>
            rw [hSx] at hb hST
            cases hNx : N x with
            | true =>
              rw [hNx] at hbn hST
              have HTT := Hid.mk' (show T x = true by rw [hST]; rfl)
              clear hSx hST hNx
              go_wp2
              go_quiet (fail)
              go_wp2
              go_ret
              refine Or.inl ⟨?_, rfl, HRW.out.drewN _, ?_⟩
              · rw [HG.out, gv, if_pos HTT.out]
              · rw [← HNB.out]; exact HKW.out.trans (Keeps.drewN _ _ _)
            | false =>
              rw [hNx] at hbn hST
              have HTT := Hid.mk' (show T x = false by rw [hST]; rfl)
              clear hSx hST hNx
              go_wp2
              go_quiet (fail)
              go_wp2
              go_roundw
              case rel =>
                have hset := setCell_block (a := ⟨nb, x, none⟩) (v := .bool true) HREL.out.2.1 rfl
                refine ⟨k + 1, upd T x true, upd N x true, by omega, by go_num, ?_, ?_, ?_, sup_set HREL.out.2.2.2.1 ⟨hx1, hx2⟩, ?_⟩
                · rw [HG.out, gv, if_neg (by rw [HTT.out]; decide)]
                · rw [← boolCells_set]; exact hset
                · intro j
                  have := HREL.out.2.2.1 j
                  unfold upd
                  by_cases hj : j = x
                  · simp [hj]
                  · simp [hj, this]
                · exact (HREL.out.2.2.2.2.trans (Keeps.drewN _ _ _)).then (keep_set' _ nb x (.bool true)) (fun j hj => Or.inl hj)
              case measure => simp [intOf]; omega
        · have hlt' : ¬ (k : Int) < (l.length : Int) := by omega
          have HJ := Hid.mk' (show k = l.length by omega)
          have HREL := hrel
          have HKW := Hid.mk' hkw
          have HRW := Hid.mk' hRw
          have HNB := Hid.mk' hnbl
          have hfin : gv S (l.map Int.toNat) = some T := by
            rw [hrel.out.1, HJ.out, List.drop_length]; rfl
          have HFIN := Hid.mk' (And.intro hfin (gv_set hfin))
          clear hrel hkw hcs hfz hRw hc4 hnbl hfin hlt' HJ
          go_wp2
          go_loopw [9] (fun i wx => ∃ (k : Nat), k ≤ l.length ∧ i = .int .i64 k ∧ Hid (RpAt wx e (.slice (some ⟨g, 0, none⟩) s.pages gcap) s (setH S ((l.take k).map Int.toNat)) ∧ Keeps (fun k => k = g) wr wx)) (fun i _ => l.length - (intOf i).toNat)
          case atStart =>
            refine ⟨0, by omega, rfl, ?_, Keeps.refl _ _⟩
            have e0 : setH S ((l.take 0).map Int.toNat) = S := by funext j; simp [setH]
            rw [e0]; exact HRW.out
          case round =>
            obtain ⟨k, hk, rfl, hrel⟩ := hrel
            by_cases hlt : k < l.length
            · obtain ⟨b, o, rfl, hbs, hc⟩ := HIN.out (by omega)
              have hbg : b ≠ g := fun e => HP4.out b rfl (by rw [e]; rfl)
              have e1 := hrel.out.2.cell (HKW.out.cell (hc k hlt) (by show ¬ nb ≤ b; have := HNB.out; omega)) (by exact hbg)
              obtain ⟨x, hx, hx1, hx2⟩ := inD_nat (HB.out _ (getD_mem (d := 0) hlt))
              have htk := take_getD 0 hlt
              rw [hx] at e1 htk
              have hlt' : (k : Int) < (l.length : Int) := by omega
              have hk0 : (0 : Int) ≤ (k : Int) := by omega
              have hx0 : (0 : Int) ≤ (x : Int) := by omega
              have hxp : (x : Int) < (s.pages : Int) := by omega
              have hc4 := hrel.out.1.cells.2.2.2.2
              obtain ⟨g', gc', hv, _, hcs, hfz, _⟩ := hrel.out.1.form
              cases hv
              have hb := hcs x hx2
              have hz := hfz x
              have HT := Hid.mk' (hrel.out.1.turn x true hge (sup_set hrel.out.1.sup ⟨hx1, hx2⟩))
              have HTK : Hid (setH S ((l.take (k + 1)).map Int.toNat) = upd (setH S ((l.take k).map Int.toNat)) x true) := by
                show _ = _
                rw [htk, List.map_append]
                funext j
                unfold setH upd
                by_cases hj : j = x
                · simp [hj]
                · simp [hj]
              have HREL := hrel
              clear hc hrel hcs hfz hx htk
              generalize setH S ((l.take k).map Int.toNat) x = bx at *
              go_wp2
              go_region
              go_wp2
              go_roundw
              case rel =>
                refine ⟨k + 1, by omega, by go_num, ?_, ?_⟩
                · rw [HTK.out]
                  exact ⟨HT.out.1.at_, HT.out.1.row, HT.out.1.good, HT.out.1.sup⟩
                · exact (HREL.out.2.trans (Keeps.drewN _ _ _)).then (keep_set' _ g x (.bool true)) (fun j hj => Or.inl hj)
              case measure => simp [intOf]; omega
            · have hlt' : ¬ (k : Int) < (l.length : Int) := by omega
              have HJ := Hid.mk' (show k = l.length by omega)
              have HREL := hrel
              clear hrel
              go_wp2
              go_ret
              refine Or.inr ⟨T, HFIN.out.1, rfl, ?_, ?_⟩
              · have := HREL.out.1
                rw [HJ.out, List.take_length, ← HFIN.out.2] at this
                exact this
              · exact (HKW.out.mono (fun k _ hk => by right; have := HNB.out; omega)).then HREL.out.2 (fun k hk => by left; left; rw [hk]; rfl)

end Go.Proofs.Ytnafocbgapianab
