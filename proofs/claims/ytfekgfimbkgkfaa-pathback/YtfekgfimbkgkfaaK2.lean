import Derived.Test.YtfekgfimbkgkfaaK1
import Derived.Deep.CutRange
namespace Go.Proofs.Ytfekgfimbkgkfaa
open Go.RowKit Go.Maps

/-- The path that came in, in its box. -/
def QS (w : World) (v : Value) (q : List ByteArray) (sq : Bool) (W : World) : Prop := Keeps (fun _ => False) w W ∧ PB W w.heap.size v q sq
theorem QS.keep {w W W' : World} {v : Value} {q : List ByteArray} {sq : Bool} (h : QS w v q sq W) (k : Keeps (fun _ => False) W W') : QS w v q sq W' := ⟨h.1.trans k, h.2.keep k⟩
theorem bytes_self (s : ByteArray) : (s.toList == s.toList) = true := by simp
theorem not_empty {l : Bs} (h : l ≠ []) : (mkB l).toList.isEmpty = false := by
  rw [ByteArray.toList_eq]
  cases l with
  | nil => exact absurd rfl h
  | cons _ _ => rfl
/-- The bytes of a part up to the j-th may stand in a text. -/
def okTo (s : ByteArray) (j : Nat) : Prop := ∀ i, i < j → s.data.toList.getD i 0 ≠ 47 ∧ s.data.toList.getD i 0 ≠ 0
theorem byte_ne (s : ByteArray) (k : Nat) (hk : k < s.size) (c : UInt8) : (((s[k].toNat : Nat) : Int) == (c.toNat : Int)) = decide (s.data.toList.getD k 0 = c) := by
  rw [byte_getD s k hk]
  generalize s.data.toList.getD k 0 = b
  by_cases h : b = c
  · subst h; simp
  · have h3 : ¬ b.toNat = c.toNat := fun e => h (UInt8.toNat_inj.1 e)
    rw [decide_eq_false h]
    exact beq_eq_false_iff_ne.2 (by omega)
theorem okTo_next {s : ByteArray} {j : Nat} (h : okTo s j) (h1 : s.data.toList.getD j 0 ≠ 47) (h2 : s.data.toList.getD j 0 ≠ 0) : okTo s (j + 1) := by
  intro i hi
  rcases Nat.lt_or_ge i j with h3 | h3
  · exact h i h3
  · have : i = j := by omega
    subst this; exact ⟨h1, h2⟩

/-- What the outer loop holds: all good so far, or no text. -/
def BkG (q : List ByteArray) (sq : Bool) (k : Nat) (vg vs : Value) : Prop :=
  (vg = .bool true ∧ ∃ S : Nat, vs = .int .i64 S ∧ BkI q k S ∧ (q.isEmpty && sq) = false) ∨ (vg = .bool false ∧ (∃ S : Int, vs = .int .i64 S) ∧ tells q sq = false)

set_option maxHeartbeats 8000000 in
set_option maxRecDepth 100000 in
theorem back_walk (w : World) (t : ByteArray) (ht : t.size ≤ 140737488355328) (vq : Value) (q : List ByteArray) (sq : Bool) (hq : Row w vq q.length (strs q)) (hk : PsOk q) :
    Calls Try.prog 4 #[.string t, .agg #[vq, .bool sq]] w fun e w' => e = .returned (.bool true) ∧ Keeps (fun _ => False) w w' := by
  have H0 : Hid (QS w vq q sq (w.alloc (.cells #[vq, .bool sq] 25))) := ⟨(Keeps.refl _ w).alloc _, heap_last _ _, hq.keep ((Keeps.refl _ w).alloc _)⟩
  have h9 := first_any (w.alloc (.cells #[vq, .bool sq] 25))
  have h10 := fun w1 => parse_any w1 t (by omega)
  have HK : Hid (PsOk q) := hk
  have hql := hk.1
  have h11q : ∀ W, Hid (QS w vq q sq W) → Calls Try.prog 11 #[.agg #[vq, .bool sq]] W fun e w' => e = .returned (.string (txtF q sq)) ∧ Hid (QS w vq q sq w') := fun W H => by
    refine (text_any W vq q sq H.out.2.row (by have := HK.out.1; omega) HK.out.2).mono ?_
    rintro e w' ⟨rfl, hk⟩
    exact ⟨rfl, H.out.keep hk⟩
  obtain ⟨qa, qc, rfl, hqc, _⟩ := id hq
  have HQ := Hid.mk' hq
  clear hq hk
  obtain ⟨P, hP⟩ : ∃ P, P = prsP t.data.toList := ⟨_, rfl⟩
  obtain ⟨B, hB⟩ : ∃ B, B = prsS t.data.toList := ⟨_, rfl⟩
  obtain ⟨E, hE⟩ : ∃ E, E = prsE t.data.toList := ⟨_, rfl⟩
  rw [← hP, ← hB, ← hE] at h10
  have HE := Hid.mk' (And.intro hP (And.intro hB hE))
  clear hP hB hE
  go_enter Try.func4, Try.ntmps4
  go_upto_if 26 with (first
    | (go_at_call 9; refine h9.mono ?_; clear h9; rintro e w1 ⟨rfl, hk1⟩
       have H1 := Hid.mk' (H0.out.keep hk1)
       clear hk1)
    | (go_at_call 10; refine (h10 _).mono ?_; clear h10; rintro e w2 ⟨r2, rfl, H2⟩
       obtain ⟨ra2, rc2, er2, _⟩ := Row.of_own H2.out.1
       subst er2
       have H2q := Hid.mk' (H1.out.keep (H2.out.2.alloc (.cells #[.slice ra2 P.length rc2, .bool B] 25)))
       have R2 : Hid (PB (w2.alloc (.cells #[.slice ra2 P.length rc2, .bool B] 25)) w2.heap.size (.slice ra2 P.length rc2) P B) := ⟨heap_last _ _, (Row.of_own H2.out.1).keep ((Keeps.refl _ w2).alloc _)⟩
       clear H2))
  go_cut [7, 8, 9] from 26 to 58 (fun _ _ _ wc => Hid (QS w (.slice qa q.length qc) q sq wc))
  case first =>
    by_cases hE0 : E = 0
    · obtain ⟨hP, hB, hE⟩ := HE.out
      rw [hE0] at hE
      obtain ⟨hTl, hTlen⟩ := told_of hE.symm
      rw [← hP, ← hB] at hTl hTlen
      obtain ⟨hr1, hr2, hr3, hr4⟩ := read_back hTl
      have hsz := tells_sizes hTl
      have hPz : ∀ s ∈ P, s.size ≤ 281474976710656 := fun s hs => by have := (hsz.2 0).2 s hs; omega
      have hPl : P.length < 8796093022000 := by
        have h2 := (hsz.2 P.length).1
        rw [List.take_length] at h2
        have h3 : ∀ ps : List ByteArray, ps.length ≤ (bare ps).length := by
          intro ps
          induction ps with
          | nil => simp
          | cons a l ih => rw [bare_cons]; simp only [List.length_cons, List.length_append]; omega
        have := h3 P
        omega
      have hTx : txtF P B = mkB (txt P B) := by unfold txtF; rw [hTl]; rfl
      rw [← size_len] at hTlen
      obtain ⟨U, hU⟩ : ∃ U, U = mkB (txt P B) := ⟨_, rfl⟩
      have hUd : U.data.toList = txt P B := by rw [hU]; rfl
      have hUs : U.size = (txt P B).length := by rw [hU, mkB_size]
      rw [← hU] at hTx
      have hU0 : U.toList.isEmpty = false := by rw [hU]; exact not_empty hr4
      have hUt : ¬ ((t.size : Int) < (U.size : Int)) := by omega
      have hUt2 : decide (t.size < U.size) = false := decide_eq_false (by omega)
      have hUU := bytes_self U
      have h10u := fun w1 => parse_any w1 U (by omega)
      rw [hUd, hr1, hr2, hr3] at h10u
      have h11p : ∀ (W : World) (v : Value), Hid (Row W v P.length (strs P)) → Calls Try.prog 11 #[.agg #[v, .bool B]] W fun e w' => e = .returned (.string U) ∧ Hid (Keeps (fun _ => False) W w') := fun W v H => by
        refine (text_any W v P B H.out (by omega) hPz).mono ?_
        rintro e w' ⟨rfl, hk⟩
        exact ⟨by rw [hTx], hk⟩
      have h12 : ∀ (W : World) (v1 v2 : Value), Hid (Row W v1 P.length (strs P) ∧ Row W v2 P.length (strs P)) → Calls Try.prog 12 #[.agg #[v1, .bool B], .agg #[v2, .bool B]] W fun e w' => e = .returned (.bool true) ∧ Hid (Keeps (fun _ => False) W w') := fun W v1 v2 H => by
        refine (same_any W v1 v2 P P B B H.out.1 H.out.2 hPl).mono ?_
        rintro e w' ⟨rfl, hk⟩
        exact ⟨by simp, hk⟩
      clear hTl hr1 hr2 hr3 hr4 hTx hU hUd hUs hPz hTlen hP hB hE hsz HE h11q
      subst hE0
      have a0 := R2.out.c0
      have a1 := R2.out.c1
      have h11a := h11p _ _ R2.out.row
      go_wp2_with (first
        | (go_at_call 11; refine h11a.mono ?_; clear h11a; rintro e w4 ⟨rfl, K4⟩
           have a0 := K4.out.cell a0 id
           have a1 := K4.out.cell a1 id)
        | (go_at_call 10; refine (h10u _).mono ?_; clear h10u; rintro e w5 ⟨r5, rfl, H5⟩
           obtain ⟨ra5, rc5, er5, _⟩ := Row.of_own H5.out.1
           subst er5
           have K5 : Hid (Keeps (fun _ => False) w4 (w5.alloc (.cells #[.slice ra5 P.length rc5, .bool B] 25))) := H5.out.2.alloc _
           have R5 : Hid (Row (w5.alloc (.cells #[.slice ra5 P.length rc5, .bool B] 25)) (.slice ra2 P.length rc2) P.length (strs P) ∧ Row (w5.alloc (.cells #[.slice ra5 P.length rc5, .bool B] 25)) (.slice ra5 P.length rc5) P.length (strs P)) := ⟨(R2.out.row.keep K4.out).keep K5.out, (Row.of_own H5.out.1).keep ((Keeps.refl _ w5).alloc _)⟩
           obtain ⟨d0, d1, _⟩ := cells2 (heap_last w5 (.cells #[.slice ra5 P.length rc5, .bool B] 25))
           have b0 := K5.out.cell a0 id
           have b1 := K5.out.cell a1 id
           have h12a := h12 _ _ _ R5
           clear H5)
        | (go_at_call 12; refine h12a.mono ?_; clear h12a; rintro e w6 ⟨rfl, K6⟩
           have e0 := K6.out.cell d0 id
           have e1 := K6.out.cell d1 id
           have h11b := h11p _ _ (R5.out.2.keep K6.out))
        | (go_at_call 11; refine h11b.mono ?_; clear h11b; rintro e w7 ⟨rfl, K7⟩
           have H7 := Hid.mk' ((((H2q.out.keep K4.out).keep K5.out).keep K6.out).keep K7.out)))
      go_meet
      case rel => exact H7
    · have hE1 : (E == 0) = false := beq_eq_false_iff_ne.2 hE0
      go_wp2
      go_meet
      case rel => exact H2q
  case rest =>
    clear H0 H1 H2q R2 HE
    obtain ⟨V, hV⟩ : ∃ V, V = txtF q sq := ⟨_, rfl⟩
    rw [← hV] at h11q
    have HV := Hid.mk' hV
    have HC := Hid.mk' hcut.out
    clear hV hcut
    obtain ⟨m, hm⟩ : ∃ m, m = q.length := ⟨_, rfl⟩
    have HM : Hid (q.length = m) := hm.symm
    rw [← hm] at h11q HC HQ hql hqc ⊢
    have h12q : ∀ (W : World) (v1 : Value), Hid (Row W v1 q.length (strs q) ∧ QS w (.slice qa m qc) q sq W) → Calls Try.prog 12 #[.agg #[v1, .bool sq], .agg #[.slice qa m qc, .bool sq]] W fun e w' => e = .returned (.bool true) ∧ Hid (Keeps (fun _ => False) w w') := fun W v1 H => by
      refine (same_any W v1 (.slice qa m qc) q q sq sq H.out.1 H.out.2.2.row (by rw [HM.out]; exact hql)).mono ?_
      rintro e w' ⟨rfl, hk⟩
      exact ⟨by simp, H.out.2.1.trans hk⟩
    have hsp : (((m : Int) == 0) = true ∧ sq = true) ∨ (((m : Int) == 0) = true ∧ sq = false) ∨ ((m : Int) == 0) = false := by
      rcases Nat.eq_zero_or_pos m with h0 | h0
      · rw [h0]; cases sq
        · exact Or.inr (Or.inl ⟨rfl, rfl⟩)
        · exact Or.inl ⟨rfl, rfl⟩
      · exact Or.inr (Or.inr (beq_eq_false_iff_ne.2 (by omega)))
    have HEm : Hid (q.isEmpty = ((m : Int) == 0)) := by
      show q.isEmpty = _
      rw [← HM.out]
      cases q with
      | nil => rfl
      | cons a l => rw [beq_eq_false_iff_ne.2 (by simp; omega)]; rfl
    have z0 := HC.out.2.c0
    have z1 := HC.out.2.c1
    clear hm
    rcases hsp with ⟨hp', rfl⟩ | ⟨hp', rfl⟩ | hp'
    · go_wp2_with (first
        | (go_at_call 11; refine (h11q _ HC).mono ?_; clear h11q; rintro e w8 ⟨rfl, H8⟩
           have x0 := H8.out.2.c0
           have x1 := H8.out.2.c1))
      clear HC
      go_loopw [11, 12, 13] (fun vg vs vi wr => ∃ k : Nat, k ≤ m ∧ vi = .int .i64 k ∧ Hid (BkG q true k vg vs ∧ QS w (.slice qa m qc) q true wr)) (fun _ _ vi _ => m - (intOf vi).toNat)
      case atStart => exact ⟨0, Nat.zero_le _, rfl, Or.inr ⟨rfl, ⟨0, rfl⟩, by unfold tells; rw [HEm.out, hp']; rfl⟩, H8.out⟩
      case round =>
        obtain ⟨k, hk, rfl, HI⟩ := hrel
        clear x0 x1 z0 z1
        obtain ⟨hG, hQ⟩ := HI.out
        have x0 := hQ.2.c0
        have x1 := hQ.2.c1
        have HQ8 := Hid.mk' hQ
        clear H8 HI
        by_cases h1 : k < m
        · have h1' : (k : Int) < (m : Int) := by omega
          obtain ⟨b, o, cap', e, hb, hc⟩ := hQ.2.row.pos (by rw [HM.out]; omega)
          have hkq : k < q.length := by rw [HM.out]; exact h1
          have c2 := hc k _ (strs_get hkq)
          have e' : qa = some ⟨b, o, none⟩ := by cases e; rfl
          subst e'
          clear e hc hQ
          obtain ⟨s, hs⟩ : ∃ s, s = q.getD k bz := ⟨_, rfl⟩
          have HS := Hid.mk' hs
          have hsz := HK.out.2 _ (getD_mem bz hkq)
          rw [← hs] at c2 hsz
          clear hs
          rcases hG with ⟨rfl, S, rfl, hB, hE⟩ | ⟨rfl, ⟨S, rfl⟩, hT⟩
          · have hS := hB.2.2
            have HB := Hid.mk' (And.intro hB hE)
            clear hB hE
            by_cases hA : (0 < s.size ∧ s.size ≤ 28) ∧ S ≤ 200
            · obtain ⟨⟨a1, a2⟩, a3⟩ := hA
              have a1' : (0 : Int) < (s.size : Int) := by omega
              have a2' : (s.size : Int) ≤ 28 := by omega
              have a3' : (S : Int) ≤ 200 := by omega
              go_wp2
              go_loopw [11, 15] (fun vg vj wq => ∃ j : Nat, j ≤ s.size ∧ vj = .int .i64 j ∧ Hid (QS w (.slice (some ⟨b, o, none⟩) m qc) q true wq) ∧ wq.cell? ⟨b, o + k, none⟩ = some (.string s) ∧ ((vg = .bool true ∧ Hid (okTo s j)) ∨ (vg = .bool false ∧ Hid (okPart s = false)))) (fun _ vj _ => s.size - (intOf vj).toNat)
              case atStart => exact ⟨0, Nat.zero_le _, rfl, HQ8, c2, Or.inl ⟨rfl, fun i hi => absurd hi (by omega)⟩⟩
              case round =>
                obtain ⟨j, hj, rfl, HQ9, c3, hg⟩ := hrel
                clear x0 x1 c2
                have x0 := HQ9.out.2.c0
                have x1 := HQ9.out.2.c1
                rcases hg with ⟨rfl, HO⟩ | ⟨rfl, HO⟩
                · by_cases h6 : j < s.size
                  · have h6' : (j : Int) < (s.size : Int) := by omega
                    have g47 := byte_ne s j h6 47
                    have g0 := byte_ne s j h6 0
                    by_cases e47 : s.data.toList.getD j 0 = 47
                    · rw [decide_eq_true e47] at g47
                      have g47' : ((s[j].toNat : Int) == 47) = true := g47
                      have g47'' : ((s[j].toNat : Int) != 47) = false := by rw [bne, g47']; rfl
                      have HN : Hid (okPart s = false) := by
                        cases hok : okPart s with
                        | false => rfl
                        | true => exact absurd e47 ((okPart_iff.1 hok).2.2 j (by rw [← size_len]; exact h6)).1
                      clear g47 g0 e47
                      go_wp2
                      skip
                      go_roundw
                      case rel => exact ⟨j + 1, by omega, by go_num, HQ9, c3, Or.inr ⟨rfl, HN⟩⟩
                      case measure => simp [intOf]; omega
                    · rw [decide_eq_false e47] at g47
                      have g47' : ((s[j].toNat : Int) == 47) = false := g47
                      have g47'' : ((s[j].toNat : Int) != 47) = true := by rw [bne, g47']; rfl
                      by_cases e0 : s.data.toList.getD j 0 = 0
                      · rw [decide_eq_true e0] at g0
                        have g0' : ((s[j].toNat : Int) == 0) = true := g0
                        have g0'' : ((s[j].toNat : Int) != 0) = false := by rw [bne, g0']; rfl
                        have HN : Hid (okPart s = false) := by
                          cases hok : okPart s with
                          | false => rfl
                          | true => exact absurd e0 ((okPart_iff.1 hok).2.2 j (by rw [← size_len]; exact h6)).2
                        clear g47 g0 e47 e0
                        go_wp2
                        skip
                        go_roundw
                        case rel => exact ⟨j + 1, by omega, by go_num, HQ9, c3, Or.inr ⟨rfl, HN⟩⟩
                        case measure => simp [intOf]; omega
                      · rw [decide_eq_false e0] at g0
                        have g0' : ((s[j].toNat : Int) == 0) = false := g0
                        have g0'' : ((s[j].toNat : Int) != 0) = true := by rw [bne, g0']; rfl
                        have HN : Hid (okTo s (j + 1)) := okTo_next HO.out e47 e0
                        clear g47 g0 e47 e0
                        go_wp2
                        skip
                        go_roundw
                        case rel => exact ⟨j + 1, by omega, by go_num, HQ9, c3, Or.inl ⟨rfl, HN⟩⟩
                        case measure => simp [intOf]; omega
                  · have h6' : ¬ (j : Int) < (s.size : Int) := by omega
                    have hok : okPart s = true := okPart_iff.2 ⟨by omega, a2, fun i hi => HO.out i (by rw [← size_len] at hi; omega)⟩
                    have HN : Hid (BkI q (k + 1) (S + (1 + s.size)) ∧ (q.isEmpty && true) = false) := ⟨by rw [HS.out]; exact bk_step HB.out.1 hkq (by rw [← HS.out]; exact hok) a3, HB.out.2⟩
                    clear hok
                    go_wp2
                    go_roundw
                    case rel => exact ⟨k + 1, by omega, by go_num, Or.inl ⟨rfl, S + (1 + s.size), by go_num, HN.out⟩, HQ9.out⟩
                    case measure => simp [intOf]; omega
                · have HX : Hid (tells q true = false) := bk_bad (k := k) hkq (Or.inl (by rw [← HS.out]; exact HO.out))
                  go_wp2
                  go_roundw
                  case rel => exact ⟨k + 1, by omega, by go_num, Or.inr ⟨rfl, ⟨_, rfl⟩, HX.out⟩, HQ9.out⟩
                  case measure => simp [intOf]; omega
            · have HX : Hid (tells q true = false) := by
                refine bk_bad (k := k) hkq ?_
                rw [← HS.out, HB.out.1.2.1]
                by_cases h5 : S ≤ 200
                · left
                  cases hok : okPart s with
                  | false => rfl
                  | true => exact absurd ⟨⟨by have := (okPart_iff.1 hok).1; omega, (okPart_iff.1 hok).2.1⟩, h5⟩ hA
                · right; omega
              have hdec : ¬ (0 : Int) < (s.size : Int) ∨ ((0 : Int) < (s.size : Int) ∧ ¬ (s.size : Int) ≤ 28) ∨ ((0 : Int) < (s.size : Int) ∧ (s.size : Int) ≤ 28 ∧ ¬ (S : Int) ≤ 200) := by omega
              clear hA HB
              rcases hdec with d1 | ⟨d1, d2⟩ | ⟨d1, d2, d3⟩
              · go_wp2
                go_loopw [11, 15] (fun vg vj wq => vg = .bool false ∧ vj = .int .i64 0 ∧ Hid (QS w (.slice (some ⟨b, o, none⟩) m qc) q true wq)) (fun _ _ _ => 0)
                case atStart => exact ⟨rfl, rfl, HQ8⟩
                case round =>
                  obtain ⟨rfl, rfl, HQ9⟩ := hrel
                  go_wp2
                  go_roundw
                  case rel => exact ⟨k + 1, by omega, by go_num, Or.inr ⟨rfl, ⟨_, rfl⟩, HX.out⟩, HQ9.out⟩
                  case measure => simp [intOf]; omega
              · go_wp2
                go_loopw [11, 15] (fun vg vj wq => vg = .bool false ∧ vj = .int .i64 0 ∧ Hid (QS w (.slice (some ⟨b, o, none⟩) m qc) q true wq)) (fun _ _ _ => 0)
                case atStart => exact ⟨rfl, rfl, HQ8⟩
                case round =>
                  obtain ⟨rfl, rfl, HQ9⟩ := hrel
                  go_wp2
                  go_roundw
                  case rel => exact ⟨k + 1, by omega, by go_num, Or.inr ⟨rfl, ⟨_, rfl⟩, HX.out⟩, HQ9.out⟩
                  case measure => simp [intOf]; omega
              · go_wp2
                go_loopw [11, 15] (fun vg vj wq => vg = .bool false ∧ vj = .int .i64 0 ∧ Hid (QS w (.slice (some ⟨b, o, none⟩) m qc) q true wq)) (fun _ _ _ => 0)
                case atStart => exact ⟨rfl, rfl, HQ8⟩
                case round =>
                  obtain ⟨rfl, rfl, HQ9⟩ := hrel
                  go_wp2
                  go_roundw
                  case rel => exact ⟨k + 1, by omega, by go_num, Or.inr ⟨rfl, ⟨_, rfl⟩, HX.out⟩, HQ9.out⟩
                  case measure => simp [intOf]; omega
          · have HX := Hid.mk' hT
            clear hT
            go_wp2
            go_loopw [11, 15] (fun vg vj wq => vg = .bool false ∧ vj = .int .i64 0 ∧ Hid (QS w (.slice (some ⟨b, o, none⟩) m qc) q true wq)) (fun _ _ _ => 0)
            case atStart => exact ⟨rfl, rfl, HQ8⟩
            case round =>
              obtain ⟨rfl, rfl, HQ9⟩ := hrel
              go_wp2
              go_roundw
              case rel => exact ⟨k + 1, by omega, by go_num, Or.inr ⟨rfl, ⟨_, rfl⟩, HX.out⟩, HQ9.out⟩
              case measure => simp [intOf]; omega
        · have h1' : ¬ (k : Int) < (m : Int) := by omega
          have ek : k = m := by omega
          clear hQ
          rcases hG with ⟨rfl, S, rfl, hB, hE⟩ | ⟨rfl, ⟨S, rfl⟩, hT⟩
          · exfalso
            rw [HEm.out, hp'] at hE
            cases hE
          · have hVx : V = ⟨#[]⟩ := by rw [HV.out]; unfold txtF; rw [hT]; rfl
            subst hVx
            clear hT HV
            go_wp2
            go_ret
            exact ⟨rfl, HQ8.out.1⟩
    · go_wp2_with (first
        | (go_at_call 11; refine (h11q _ HC).mono ?_; clear h11q; rintro e w8 ⟨rfl, H8⟩
           have x0 := H8.out.2.c0
           have x1 := H8.out.2.c1))
      clear HC
      go_loopw [11, 12, 13] (fun vg vs vi wr => ∃ k : Nat, k ≤ m ∧ vi = .int .i64 k ∧ Hid (BkG q false k vg vs ∧ QS w (.slice qa m qc) q false wr)) (fun _ _ vi _ => m - (intOf vi).toNat)
      case atStart => exact ⟨0, Nat.zero_le _, rfl, Or.inl ⟨rfl, 0, rfl, ⟨rfl, rfl, by omega⟩, by simp⟩, H8.out⟩
      case round =>
        obtain ⟨k, hk, rfl, HI⟩ := hrel
        clear x0 x1 z0 z1
        obtain ⟨hG, hQ⟩ := HI.out
        have x0 := hQ.2.c0
        have x1 := hQ.2.c1
        have HQ8 := Hid.mk' hQ
        clear H8 HI
        by_cases h1 : k < m
        · have h1' : (k : Int) < (m : Int) := by omega
          obtain ⟨b, o, cap', e, hb, hc⟩ := hQ.2.row.pos (by rw [HM.out]; omega)
          have hkq : k < q.length := by rw [HM.out]; exact h1
          have c2 := hc k _ (strs_get hkq)
          have e' : qa = some ⟨b, o, none⟩ := by cases e; rfl
          subst e'
          clear e hc hQ
          obtain ⟨s, hs⟩ : ∃ s, s = q.getD k bz := ⟨_, rfl⟩
          have HS := Hid.mk' hs
          have hsz := HK.out.2 _ (getD_mem bz hkq)
          rw [← hs] at c2 hsz
          clear hs
          rcases hG with ⟨rfl, S, rfl, hB, hE⟩ | ⟨rfl, ⟨S, rfl⟩, hT⟩
          · have hS := hB.2.2
            have HB := Hid.mk' (And.intro hB hE)
            clear hB hE
            by_cases hA : (0 < s.size ∧ s.size ≤ 28) ∧ S ≤ 200
            · obtain ⟨⟨a1, a2⟩, a3⟩ := hA
              have a1' : (0 : Int) < (s.size : Int) := by omega
              have a2' : (s.size : Int) ≤ 28 := by omega
              have a3' : (S : Int) ≤ 200 := by omega
              go_wp2
              go_loopw [11, 15] (fun vg vj wq => ∃ j : Nat, j ≤ s.size ∧ vj = .int .i64 j ∧ Hid (QS w (.slice (some ⟨b, o, none⟩) m qc) q false wq) ∧ wq.cell? ⟨b, o + k, none⟩ = some (.string s) ∧ ((vg = .bool true ∧ Hid (okTo s j)) ∨ (vg = .bool false ∧ Hid (okPart s = false)))) (fun _ vj _ => s.size - (intOf vj).toNat)
              case atStart => exact ⟨0, Nat.zero_le _, rfl, HQ8, c2, Or.inl ⟨rfl, fun i hi => absurd hi (by omega)⟩⟩
              case round =>
                obtain ⟨j, hj, rfl, HQ9, c3, hg⟩ := hrel
                clear x0 x1 c2
                have x0 := HQ9.out.2.c0
                have x1 := HQ9.out.2.c1
                rcases hg with ⟨rfl, HO⟩ | ⟨rfl, HO⟩
                · by_cases h6 : j < s.size
                  · have h6' : (j : Int) < (s.size : Int) := by omega
                    have g47 := byte_ne s j h6 47
                    have g0 := byte_ne s j h6 0
                    by_cases e47 : s.data.toList.getD j 0 = 47
                    · rw [decide_eq_true e47] at g47
                      have g47' : ((s[j].toNat : Int) == 47) = true := g47
                      have g47'' : ((s[j].toNat : Int) != 47) = false := by rw [bne, g47']; rfl
                      have HN : Hid (okPart s = false) := by
                        cases hok : okPart s with
                        | false => rfl
                        | true => exact absurd e47 ((okPart_iff.1 hok).2.2 j (by rw [← size_len]; exact h6)).1
                      clear g47 g0 e47
                      go_wp2
                      skip
                      go_roundw
                      case rel => exact ⟨j + 1, by omega, by go_num, HQ9, c3, Or.inr ⟨rfl, HN⟩⟩
                      case measure => simp [intOf]; omega
                    · rw [decide_eq_false e47] at g47
                      have g47' : ((s[j].toNat : Int) == 47) = false := g47
                      have g47'' : ((s[j].toNat : Int) != 47) = true := by rw [bne, g47']; rfl
                      by_cases e0 : s.data.toList.getD j 0 = 0
                      · rw [decide_eq_true e0] at g0
                        have g0' : ((s[j].toNat : Int) == 0) = true := g0
                        have g0'' : ((s[j].toNat : Int) != 0) = false := by rw [bne, g0']; rfl
                        have HN : Hid (okPart s = false) := by
                          cases hok : okPart s with
                          | false => rfl
                          | true => exact absurd e0 ((okPart_iff.1 hok).2.2 j (by rw [← size_len]; exact h6)).2
                        clear g47 g0 e47 e0
                        go_wp2
                        skip
                        go_roundw
                        case rel => exact ⟨j + 1, by omega, by go_num, HQ9, c3, Or.inr ⟨rfl, HN⟩⟩
                        case measure => simp [intOf]; omega
                      · rw [decide_eq_false e0] at g0
                        have g0' : ((s[j].toNat : Int) == 0) = false := g0
                        have g0'' : ((s[j].toNat : Int) != 0) = true := by rw [bne, g0']; rfl
                        have HN : Hid (okTo s (j + 1)) := okTo_next HO.out e47 e0
                        clear g47 g0 e47 e0
                        go_wp2
                        skip
                        go_roundw
                        case rel => exact ⟨j + 1, by omega, by go_num, HQ9, c3, Or.inl ⟨rfl, HN⟩⟩
                        case measure => simp [intOf]; omega
                  · have h6' : ¬ (j : Int) < (s.size : Int) := by omega
                    have hok : okPart s = true := okPart_iff.2 ⟨by omega, a2, fun i hi => HO.out i (by rw [← size_len] at hi; omega)⟩
                    have HN : Hid (BkI q (k + 1) (S + (1 + s.size)) ∧ (q.isEmpty && false) = false) := ⟨by rw [HS.out]; exact bk_step HB.out.1 hkq (by rw [← HS.out]; exact hok) a3, HB.out.2⟩
                    clear hok
                    go_wp2
                    go_roundw
                    case rel => exact ⟨k + 1, by omega, by go_num, Or.inl ⟨rfl, S + (1 + s.size), by go_num, HN.out⟩, HQ9.out⟩
                    case measure => simp [intOf]; omega
                · have HX : Hid (tells q false = false) := bk_bad (k := k) hkq (Or.inl (by rw [← HS.out]; exact HO.out))
                  go_wp2
                  go_roundw
                  case rel => exact ⟨k + 1, by omega, by go_num, Or.inr ⟨rfl, ⟨_, rfl⟩, HX.out⟩, HQ9.out⟩
                  case measure => simp [intOf]; omega
            · have HX : Hid (tells q false = false) := by
                refine bk_bad (k := k) hkq ?_
                rw [← HS.out, HB.out.1.2.1]
                by_cases h5 : S ≤ 200
                · left
                  cases hok : okPart s with
                  | false => rfl
                  | true => exact absurd ⟨⟨by have := (okPart_iff.1 hok).1; omega, (okPart_iff.1 hok).2.1⟩, h5⟩ hA
                · right; omega
              have hdec : ¬ (0 : Int) < (s.size : Int) ∨ ((0 : Int) < (s.size : Int) ∧ ¬ (s.size : Int) ≤ 28) ∨ ((0 : Int) < (s.size : Int) ∧ (s.size : Int) ≤ 28 ∧ ¬ (S : Int) ≤ 200) := by omega
              clear hA HB
              rcases hdec with d1 | ⟨d1, d2⟩ | ⟨d1, d2, d3⟩
              · go_wp2
                go_loopw [11, 15] (fun vg vj wq => vg = .bool false ∧ vj = .int .i64 0 ∧ Hid (QS w (.slice (some ⟨b, o, none⟩) m qc) q false wq)) (fun _ _ _ => 0)
                case atStart => exact ⟨rfl, rfl, HQ8⟩
                case round =>
                  obtain ⟨rfl, rfl, HQ9⟩ := hrel
                  go_wp2
                  go_roundw
                  case rel => exact ⟨k + 1, by omega, by go_num, Or.inr ⟨rfl, ⟨_, rfl⟩, HX.out⟩, HQ9.out⟩
                  case measure => simp [intOf]; omega
              · go_wp2
                go_loopw [11, 15] (fun vg vj wq => vg = .bool false ∧ vj = .int .i64 0 ∧ Hid (QS w (.slice (some ⟨b, o, none⟩) m qc) q false wq)) (fun _ _ _ => 0)
                case atStart => exact ⟨rfl, rfl, HQ8⟩
                case round =>
                  obtain ⟨rfl, rfl, HQ9⟩ := hrel
                  go_wp2
                  go_roundw
                  case rel => exact ⟨k + 1, by omega, by go_num, Or.inr ⟨rfl, ⟨_, rfl⟩, HX.out⟩, HQ9.out⟩
                  case measure => simp [intOf]; omega
              · go_wp2
                go_loopw [11, 15] (fun vg vj wq => vg = .bool false ∧ vj = .int .i64 0 ∧ Hid (QS w (.slice (some ⟨b, o, none⟩) m qc) q false wq)) (fun _ _ _ => 0)
                case atStart => exact ⟨rfl, rfl, HQ8⟩
                case round =>
                  obtain ⟨rfl, rfl, HQ9⟩ := hrel
                  go_wp2
                  go_roundw
                  case rel => exact ⟨k + 1, by omega, by go_num, Or.inr ⟨rfl, ⟨_, rfl⟩, HX.out⟩, HQ9.out⟩
                  case measure => simp [intOf]; omega
          · have HX := Hid.mk' hT
            clear hT
            go_wp2
            go_loopw [11, 15] (fun vg vj wq => vg = .bool false ∧ vj = .int .i64 0 ∧ Hid (QS w (.slice (some ⟨b, o, none⟩) m qc) q false wq)) (fun _ _ _ => 0)
            case atStart => exact ⟨rfl, rfl, HQ8⟩
            case round =>
              obtain ⟨rfl, rfl, HQ9⟩ := hrel
              go_wp2
              go_roundw
              case rel => exact ⟨k + 1, by omega, by go_num, Or.inr ⟨rfl, ⟨_, rfl⟩, HX.out⟩, HQ9.out⟩
              case measure => simp [intOf]; omega
        · have h1' : ¬ (k : Int) < (m : Int) := by omega
          have ek : k = m := by omega
          clear hQ
          rcases hG with ⟨rfl, S, rfl, hB, hE⟩ | ⟨rfl, ⟨S, rfl⟩, hT⟩
          · have hB' : BkI q q.length S := by rw [HM.out, ← ek]; exact hB
            have hTe := bk_end (sl := false) hB' hE
            have hadd : (if (false || q.isEmpty) = true then 1 else 0) = 1 := by rw [HEm.out, hp']; rfl
            rw [hadd] at hTe
            have hS := hB.2.2
            by_cases h9 : S + 1 ≤ 200
            · rw [decide_eq_true h9] at hTe
              have hVx : V = mkB (txt q false) := by rw [HV.out]; unfold txtF; rw [hTe]; rfl
              obtain ⟨r1, r2, r3, r4⟩ := read_back hTe
              have hVs : V.size = S + 1 := by
                rw [hVx, mkB_size, txt_len, hadd]
                have := hB'.2.1
                rw [List.take_length] at this
                rw [this]
              have hVd : V.data.toList = txt q false := by rw [hVx]; rfl
              have h10v := fun w1 => parse_any w1 V (by omega)
              rw [hVd, r1, r2, r3] at h10v
              have g1 : ¬ (200 : Int) < (S : Int) + 1 := by omega
              have g2 : ((V.size : Int) == (S : Int) + 1) = true := by rw [hVs]; simp
              have g3 : (V.size : Int) = (S : Int) + 1 := by omega
              have HQl := HM
              clear hB hB' hTe hadd hE hVx r1 r2 r3 r4 hVs hVd HV
              go_wp2_with (first
                | (go_at_call 10; refine (h10v _).mono ?_; clear h10v; rintro e w9 ⟨r9, rfl, H9⟩
                   have hR9 := Row.of_own H9.out.1
                   obtain ⟨ra9, rc9, er9, _⟩ := id hR9
                   subst er9
                   have hk9 := H9.out.2.alloc (.cells #[.slice ra9 q.length rc9, .bool false] 25)
                   have hQ9 := HQ8.out.keep hk9
                   have y0 := hQ9.2.c0
                   have y1 := hQ9.2.c1
                   obtain ⟨y2, y3, _⟩ := cells2 (heap_last w9 (.cells #[.slice ra9 q.length rc9, .bool false] 25))
                   have h12a := h12q _ _ ⟨hR9.keep ((Keeps.refl _ w9).alloc (.cells #[.slice ra9 q.length rc9, .bool false] 25)), hQ9⟩
                   clear H9 hR9 hk9 hQ9)
                | (go_at_call 12; refine h12a.mono ?_; clear h12a; rintro e w10 ⟨rfl, K10⟩))
              go_ret
              exact ⟨rfl, K10.out⟩
            · rw [decide_eq_false h9] at hTe
              have hVx : V = ⟨#[]⟩ := by rw [HV.out]; unfold txtF; rw [hTe]; rfl
              subst hVx
              have g1 : (200 : Int) < (S : Int) + 1 := by omega
              clear hB hB' hTe hadd hE HV
              go_wp2
              go_ret
              exact ⟨rfl, HQ8.out.1⟩
          · have hVx : V = ⟨#[]⟩ := by rw [HV.out]; unfold txtF; rw [hT]; rfl
            subst hVx
            clear hT HV
            go_wp2
            go_ret
            exact ⟨rfl, HQ8.out.1⟩
    · go_wp2_with (first
        | (go_at_call 11; refine (h11q _ HC).mono ?_; clear h11q; rintro e w8 ⟨rfl, H8⟩
           have x0 := H8.out.2.c0
           have x1 := H8.out.2.c1))
      clear HC
      go_loopw [11, 12, 13] (fun vg vs vi wr => ∃ k : Nat, k ≤ m ∧ vi = .int .i64 k ∧ Hid (BkG q sq k vg vs ∧ QS w (.slice qa m qc) q sq wr)) (fun _ _ vi _ => m - (intOf vi).toNat)
      case atStart => exact ⟨0, Nat.zero_le _, rfl, Or.inl ⟨rfl, 0, rfl, ⟨rfl, rfl, by omega⟩, by rw [HEm.out, hp']; rfl⟩, H8.out⟩
      case round =>
        obtain ⟨k, hk, rfl, HI⟩ := hrel
        clear x0 x1 z0 z1
        obtain ⟨hG, hQ⟩ := HI.out
        have x0 := hQ.2.c0
        have x1 := hQ.2.c1
        have HQ8 := Hid.mk' hQ
        clear H8 HI
        by_cases h1 : k < m
        · have h1' : (k : Int) < (m : Int) := by omega
          obtain ⟨b, o, cap', e, hb, hc⟩ := hQ.2.row.pos (by rw [HM.out]; omega)
          have hkq : k < q.length := by rw [HM.out]; exact h1
          have c2 := hc k _ (strs_get hkq)
          have e' : qa = some ⟨b, o, none⟩ := by cases e; rfl
          subst e'
          clear e hc hQ
          obtain ⟨s, hs⟩ : ∃ s, s = q.getD k bz := ⟨_, rfl⟩
          have HS := Hid.mk' hs
          have hsz := HK.out.2 _ (getD_mem bz hkq)
          rw [← hs] at c2 hsz
          clear hs
          rcases hG with ⟨rfl, S, rfl, hB, hE⟩ | ⟨rfl, ⟨S, rfl⟩, hT⟩
          · have hS := hB.2.2
            have HB := Hid.mk' (And.intro hB hE)
            clear hB hE
            by_cases hA : (0 < s.size ∧ s.size ≤ 28) ∧ S ≤ 200
            · obtain ⟨⟨a1, a2⟩, a3⟩ := hA
              have a1' : (0 : Int) < (s.size : Int) := by omega
              have a2' : (s.size : Int) ≤ 28 := by omega
              have a3' : (S : Int) ≤ 200 := by omega
              go_wp2
              go_loopw [11, 15] (fun vg vj wq => ∃ j : Nat, j ≤ s.size ∧ vj = .int .i64 j ∧ Hid (QS w (.slice (some ⟨b, o, none⟩) m qc) q sq wq) ∧ wq.cell? ⟨b, o + k, none⟩ = some (.string s) ∧ ((vg = .bool true ∧ Hid (okTo s j)) ∨ (vg = .bool false ∧ Hid (okPart s = false)))) (fun _ vj _ => s.size - (intOf vj).toNat)
              case atStart => exact ⟨0, Nat.zero_le _, rfl, HQ8, c2, Or.inl ⟨rfl, fun i hi => absurd hi (by omega)⟩⟩
              case round =>
                obtain ⟨j, hj, rfl, HQ9, c3, hg⟩ := hrel
                clear x0 x1 c2
                have x0 := HQ9.out.2.c0
                have x1 := HQ9.out.2.c1
                rcases hg with ⟨rfl, HO⟩ | ⟨rfl, HO⟩
                · by_cases h6 : j < s.size
                  · have h6' : (j : Int) < (s.size : Int) := by omega
                    have g47 := byte_ne s j h6 47
                    have g0 := byte_ne s j h6 0
                    by_cases e47 : s.data.toList.getD j 0 = 47
                    · rw [decide_eq_true e47] at g47
                      have g47' : ((s[j].toNat : Int) == 47) = true := g47
                      have g47'' : ((s[j].toNat : Int) != 47) = false := by rw [bne, g47']; rfl
                      have HN : Hid (okPart s = false) := by
                        cases hok : okPart s with
                        | false => rfl
                        | true => exact absurd e47 ((okPart_iff.1 hok).2.2 j (by rw [← size_len]; exact h6)).1
                      clear g47 g0 e47
                      go_wp2
                      skip
                      go_roundw
                      case rel => exact ⟨j + 1, by omega, by go_num, HQ9, c3, Or.inr ⟨rfl, HN⟩⟩
                      case measure => simp [intOf]; omega
                    · rw [decide_eq_false e47] at g47
                      have g47' : ((s[j].toNat : Int) == 47) = false := g47
                      have g47'' : ((s[j].toNat : Int) != 47) = true := by rw [bne, g47']; rfl
                      by_cases e0 : s.data.toList.getD j 0 = 0
                      · rw [decide_eq_true e0] at g0
                        have g0' : ((s[j].toNat : Int) == 0) = true := g0
                        have g0'' : ((s[j].toNat : Int) != 0) = false := by rw [bne, g0']; rfl
                        have HN : Hid (okPart s = false) := by
                          cases hok : okPart s with
                          | false => rfl
                          | true => exact absurd e0 ((okPart_iff.1 hok).2.2 j (by rw [← size_len]; exact h6)).2
                        clear g47 g0 e47 e0
                        go_wp2
                        skip
                        go_roundw
                        case rel => exact ⟨j + 1, by omega, by go_num, HQ9, c3, Or.inr ⟨rfl, HN⟩⟩
                        case measure => simp [intOf]; omega
                      · rw [decide_eq_false e0] at g0
                        have g0' : ((s[j].toNat : Int) == 0) = false := g0
                        have g0'' : ((s[j].toNat : Int) != 0) = true := by rw [bne, g0']; rfl
                        have HN : Hid (okTo s (j + 1)) := okTo_next HO.out e47 e0
                        clear g47 g0 e47 e0
                        go_wp2
                        skip
                        go_roundw
                        case rel => exact ⟨j + 1, by omega, by go_num, HQ9, c3, Or.inl ⟨rfl, HN⟩⟩
                        case measure => simp [intOf]; omega
                  · have h6' : ¬ (j : Int) < (s.size : Int) := by omega
                    have hok : okPart s = true := okPart_iff.2 ⟨by omega, a2, fun i hi => HO.out i (by rw [← size_len] at hi; omega)⟩
                    have HN : Hid (BkI q (k + 1) (S + (1 + s.size)) ∧ (q.isEmpty && sq) = false) := ⟨by rw [HS.out]; exact bk_step HB.out.1 hkq (by rw [← HS.out]; exact hok) a3, HB.out.2⟩
                    clear hok
                    go_wp2
                    go_roundw
                    case rel => exact ⟨k + 1, by omega, by go_num, Or.inl ⟨rfl, S + (1 + s.size), by go_num, HN.out⟩, HQ9.out⟩
                    case measure => simp [intOf]; omega
                · have HX : Hid (tells q sq = false) := bk_bad (k := k) hkq (Or.inl (by rw [← HS.out]; exact HO.out))
                  go_wp2
                  go_roundw
                  case rel => exact ⟨k + 1, by omega, by go_num, Or.inr ⟨rfl, ⟨_, rfl⟩, HX.out⟩, HQ9.out⟩
                  case measure => simp [intOf]; omega
            · have HX : Hid (tells q sq = false) := by
                refine bk_bad (k := k) hkq ?_
                rw [← HS.out, HB.out.1.2.1]
                by_cases h5 : S ≤ 200
                · left
                  cases hok : okPart s with
                  | false => rfl
                  | true => exact absurd ⟨⟨by have := (okPart_iff.1 hok).1; omega, (okPart_iff.1 hok).2.1⟩, h5⟩ hA
                · right; omega
              have hdec : ¬ (0 : Int) < (s.size : Int) ∨ ((0 : Int) < (s.size : Int) ∧ ¬ (s.size : Int) ≤ 28) ∨ ((0 : Int) < (s.size : Int) ∧ (s.size : Int) ≤ 28 ∧ ¬ (S : Int) ≤ 200) := by omega
              clear hA HB
              rcases hdec with d1 | ⟨d1, d2⟩ | ⟨d1, d2, d3⟩
              · go_wp2
                go_loopw [11, 15] (fun vg vj wq => vg = .bool false ∧ vj = .int .i64 0 ∧ Hid (QS w (.slice (some ⟨b, o, none⟩) m qc) q sq wq)) (fun _ _ _ => 0)
                case atStart => exact ⟨rfl, rfl, HQ8⟩
                case round =>
                  obtain ⟨rfl, rfl, HQ9⟩ := hrel
                  go_wp2
                  go_roundw
                  case rel => exact ⟨k + 1, by omega, by go_num, Or.inr ⟨rfl, ⟨_, rfl⟩, HX.out⟩, HQ9.out⟩
                  case measure => simp [intOf]; omega
              · go_wp2
                go_loopw [11, 15] (fun vg vj wq => vg = .bool false ∧ vj = .int .i64 0 ∧ Hid (QS w (.slice (some ⟨b, o, none⟩) m qc) q sq wq)) (fun _ _ _ => 0)
                case atStart => exact ⟨rfl, rfl, HQ8⟩
                case round =>
                  obtain ⟨rfl, rfl, HQ9⟩ := hrel
                  go_wp2
                  go_roundw
                  case rel => exact ⟨k + 1, by omega, by go_num, Or.inr ⟨rfl, ⟨_, rfl⟩, HX.out⟩, HQ9.out⟩
                  case measure => simp [intOf]; omega
              · go_wp2
                go_loopw [11, 15] (fun vg vj wq => vg = .bool false ∧ vj = .int .i64 0 ∧ Hid (QS w (.slice (some ⟨b, o, none⟩) m qc) q sq wq)) (fun _ _ _ => 0)
                case atStart => exact ⟨rfl, rfl, HQ8⟩
                case round =>
                  obtain ⟨rfl, rfl, HQ9⟩ := hrel
                  go_wp2
                  go_roundw
                  case rel => exact ⟨k + 1, by omega, by go_num, Or.inr ⟨rfl, ⟨_, rfl⟩, HX.out⟩, HQ9.out⟩
                  case measure => simp [intOf]; omega
          · have HX := Hid.mk' hT
            clear hT
            go_wp2
            go_loopw [11, 15] (fun vg vj wq => vg = .bool false ∧ vj = .int .i64 0 ∧ Hid (QS w (.slice (some ⟨b, o, none⟩) m qc) q sq wq)) (fun _ _ _ => 0)
            case atStart => exact ⟨rfl, rfl, HQ8⟩
            case round =>
              obtain ⟨rfl, rfl, HQ9⟩ := hrel
              go_wp2
              go_roundw
              case rel => exact ⟨k + 1, by omega, by go_num, Or.inr ⟨rfl, ⟨_, rfl⟩, HX.out⟩, HQ9.out⟩
              case measure => simp [intOf]; omega
        · have h1' : ¬ (k : Int) < (m : Int) := by omega
          have ek : k = m := by omega
          clear hQ
          cases sq with
          | false =>
            rcases hG with ⟨rfl, S, rfl, hB, hE⟩ | ⟨rfl, ⟨S, rfl⟩, hT⟩
            · have hB' : BkI q q.length S := by rw [HM.out, ← ek]; exact hB
              have hTe := bk_end (sl := false) hB' hE
              have hadd : (if (false || q.isEmpty) = true then 1 else 0) = 0 := by rw [HEm.out, hp']; rfl
              rw [hadd] at hTe
              have hS := hB.2.2
              by_cases h9 : S + 0 ≤ 200
              · rw [decide_eq_true h9] at hTe
                have hVx : V = mkB (txt q false) := by rw [HV.out]; unfold txtF; rw [hTe]; rfl
                obtain ⟨r1, r2, r3, r4⟩ := read_back hTe
                have hVs : V.size = S + 0 := by
                  rw [hVx, mkB_size, txt_len, hadd]
                  have := hB'.2.1
                  rw [List.take_length] at this
                  rw [this]
                have hVd : V.data.toList = txt q false := by rw [hVx]; rfl
                have h10v := fun w1 => parse_any w1 V (by omega)
                rw [hVd, r1, r2, r3] at h10v
                have g1 : ¬ (200 : Int) < (S : Int) := by omega
                have g2 : ((V.size : Int) == (S : Int)) = true := by rw [hVs]; simp
                have g3 : (V.size : Int) = (S : Int) := by omega
                have HQl := HM
                clear hB hB' hTe hadd hE hVx r1 r2 r3 r4 hVs hVd HV
                go_wp2_with (first
                  | (go_at_call 10; refine (h10v _).mono ?_; clear h10v; rintro e w9 ⟨r9, rfl, H9⟩
                     have hR9 := Row.of_own H9.out.1
                     obtain ⟨ra9, rc9, er9, _⟩ := id hR9
                     subst er9
                     have hk9 := H9.out.2.alloc (.cells #[.slice ra9 q.length rc9, .bool false] 25)
                     have hQ9 := HQ8.out.keep hk9
                     have y0 := hQ9.2.c0
                     have y1 := hQ9.2.c1
                     obtain ⟨y2, y3, _⟩ := cells2 (heap_last w9 (.cells #[.slice ra9 q.length rc9, .bool false] 25))
                     have h12a := h12q _ _ ⟨hR9.keep ((Keeps.refl _ w9).alloc (.cells #[.slice ra9 q.length rc9, .bool false] 25)), hQ9⟩
                     clear H9 hR9 hk9 hQ9)
                  | (go_at_call 12; refine h12a.mono ?_; clear h12a; rintro e w10 ⟨rfl, K10⟩))
                go_ret
                exact ⟨rfl, K10.out⟩
              · rw [decide_eq_false h9] at hTe
                have hVx : V = ⟨#[]⟩ := by rw [HV.out]; unfold txtF; rw [hTe]; rfl
                subst hVx
                have g1 : (200 : Int) < (S : Int) := by omega
                clear hB hB' hTe hadd hE HV
                go_wp2
                go_ret
                exact ⟨rfl, HQ8.out.1⟩
            · have hVx : V = ⟨#[]⟩ := by rw [HV.out]; unfold txtF; rw [hT]; rfl
              subst hVx
              clear hT HV
              go_wp2
              go_ret
              exact ⟨rfl, HQ8.out.1⟩
          | true =>
            rcases hG with ⟨rfl, S, rfl, hB, hE⟩ | ⟨rfl, ⟨S, rfl⟩, hT⟩
            · have hB' : BkI q q.length S := by rw [HM.out, ← ek]; exact hB
              have hTe := bk_end (sl := true) hB' hE
              have hadd : (if (true || q.isEmpty) = true then 1 else 0) = 1 := by rw [HEm.out, hp']; rfl
              rw [hadd] at hTe
              have hS := hB.2.2
              by_cases h9 : S + 1 ≤ 200
              · rw [decide_eq_true h9] at hTe
                have hVx : V = mkB (txt q true) := by rw [HV.out]; unfold txtF; rw [hTe]; rfl
                obtain ⟨r1, r2, r3, r4⟩ := read_back hTe
                have hVs : V.size = S + 1 := by
                  rw [hVx, mkB_size, txt_len, hadd]
                  have := hB'.2.1
                  rw [List.take_length] at this
                  rw [this]
                have hVd : V.data.toList = txt q true := by rw [hVx]; rfl
                have h10v := fun w1 => parse_any w1 V (by omega)
                rw [hVd, r1, r2, r3] at h10v
                have g1 : ¬ (200 : Int) < (S : Int) + 1 := by omega
                have g2 : ((V.size : Int) == (S : Int) + 1) = true := by rw [hVs]; simp
                have g3 : (V.size : Int) = (S : Int) + 1 := by omega
                have HQl := HM
                clear hB hB' hTe hadd hE hVx r1 r2 r3 r4 hVs hVd HV
                go_wp2_with (first
                  | (go_at_call 10; refine (h10v _).mono ?_; clear h10v; rintro e w9 ⟨r9, rfl, H9⟩
                     have hR9 := Row.of_own H9.out.1
                     obtain ⟨ra9, rc9, er9, _⟩ := id hR9
                     subst er9
                     have hk9 := H9.out.2.alloc (.cells #[.slice ra9 q.length rc9, .bool true] 25)
                     have hQ9 := HQ8.out.keep hk9
                     have y0 := hQ9.2.c0
                     have y1 := hQ9.2.c1
                     obtain ⟨y2, y3, _⟩ := cells2 (heap_last w9 (.cells #[.slice ra9 q.length rc9, .bool true] 25))
                     have h12a := h12q _ _ ⟨hR9.keep ((Keeps.refl _ w9).alloc (.cells #[.slice ra9 q.length rc9, .bool true] 25)), hQ9⟩
                     clear H9 hR9 hk9 hQ9)
                  | (go_at_call 12; refine h12a.mono ?_; clear h12a; rintro e w10 ⟨rfl, K10⟩))
                go_ret
                exact ⟨rfl, K10.out⟩
              · rw [decide_eq_false h9] at hTe
                have hVx : V = ⟨#[]⟩ := by rw [HV.out]; unfold txtF; rw [hTe]; rfl
                subst hVx
                have g1 : (200 : Int) < (S : Int) + 1 := by omega
                clear hB hB' hTe hadd hE HV
                go_wp2
                go_ret
                exact ⟨rfl, HQ8.out.1⟩
            · have hVx : V = ⟨#[]⟩ := by rw [HV.out]; unfold txtF; rw [hT]; rfl
              subst hVx
              clear hT HV
              go_wp2
              go_ret
              exact ⟨rfl, HQ8.out.1⟩
end Go.Proofs.Ytfekgfimbkgkfaa
