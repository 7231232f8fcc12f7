import Derived.Test.YtfiekdgpdboolaaN2
namespace Go.Proofs.Ytfiekdgpdboolaa
open Go.RowKit Go.Maps

/-- Two devices side by side. -/
structure Duo (w0 : World) (B n d u : Nat) (F1 F2 : Nat → Prop) (S U : St) (L1 L2 : Lay) (w : World) : Prop where
  one : DevAt w F1 d S L1
  two : DevAt w F2 u U L2
  b1 : ∀ k, F1 k → B ≤ k
  b2 : ∀ k, F2 k → B ≤ k
  apart : ∀ k, F1 k → ¬ F2 k
  keeps : Keeps (fun k => B ≤ k) w0 w
  n1 : S.old.length = n
  n2 : U.old.length = n
  size : B ≤ w.heap.size

theorem Duo.swap {w0 : World} {B n d u : Nat} {F1 F2 : Nat → Prop} {S U : St} {L1 L2 : Lay} {w : World} (h : Duo w0 B n d u F1 F2 S U L1 L2 w) : Duo w0 B n u d F2 F1 U S L2 L1 w :=
  ⟨h.two, h.one, h.b2, h.b1, fun k h2 h1 => h.apart k h1 h2, h.keeps, h.n2, h.n1, h.size⟩

theorem Duo.kept {w0 : World} {B n d u : Nat} {F1 F2 : Nat → Prop} {S U : St} {L1 L2 : Lay} {w w' : World} (h : Duo w0 B n d u F1 F2 S U L1 L2 w) (k : Keeps (fun _ => False) w w') : Duo w0 B n d u F1 F2 S U L1 L2 w' :=
  ⟨h.one.kept k (by simp), h.two.kept k (by simp), h.b1, h.b2, h.apart, h.keeps.trans (k.mono (by simp)), h.n1, h.n2, Nat.le_trans h.size k.size⟩

theorem Duo.step {w0 : World} {B n d u : Nat} {F1 F2 : Nat → Prop} {S U T : St} {L1 L2 : Lay} {w w' : World} (h : Duo w0 B n d u F1 F2 S U L1 L2 w)
    (hx : ∃ F' L', DevAt w' F' d T L' ∧ Keeps F1 w w' ∧ Fresh F1 F' w) (hl : T.old.length = S.old.length) : ∃ F' L', Duo w0 B n d u F' F2 T U L' L2 w' := by
  obtain ⟨F', L', d1, d2, d3⟩ := hx
  refine ⟨F', L', d1, h.two.kept d2 (fun i hi h1 => h.apart i h1 hi), fun k hk => ?_, h.b2, fun k hk h2 => ?_, h.keeps.trans (d2.mono fun k _ hk => h.b1 k hk), hl.trans h.n1, h.n2, Nat.le_trans h.size d2.size⟩
  · rcases d3 k hk with h6 | h6
    · exact h.b1 k h6
    · have := h.size; omega
  · rcases d3 k hk with h6 | h6
    · exact h.apart k h6 h2
    · have := h.two.fsz k h2; omega

theorem duo_made {w w1 w2 : World} {n d u : Nat} {S U : St} (h1 : Going w w.heap.size d n S w1) (h2 : Going w1 w1.heap.size u n U w2) :
    ∃ F1 L1 F2 L2, Duo w w.heap.size n d u F1 F2 S U L1 L2 w2 := by
  obtain ⟨⟨F1, L1, a1, a2⟩, a3, a4, a5, a6⟩ := h1
  obtain ⟨⟨F2, L2, b1, b2⟩, b3, b4, b5, b6⟩ := h2
  refine ⟨F1, L1, F2, L2, a1.kept b3 (fun i hi h => by have := a1.fsz i hi; omega), b1, a2, fun k hk => Nat.le_trans a6 (b2 k hk), fun k h1 h2 => by have := a1.fsz k h1; have := b2 k h2; omega, a3.trans (b3.mono fun k _ hk => Nat.le_trans a6 hk), a4, b4, Nat.le_trans a6 b6⟩

theorem dead_dev {w : World} {F : Nat → Prop} {d : Nat} {S : St} {L : Lay} (h : DevAt w F d S L) (b : Bool) (hb : (S.armed && (S.left == 0)) = b) :
    Calls Try.prog 28 #[.pointer (some ⟨d, 0, none⟩)] w fun e w' => e = .returned (.bool b) ∧ w' = w := by
  obtain ⟨c0, c1, c2, c3, c4, c5, c6⟩ := dev_cells h.dev
  have := dead_any d _ _ w c4 c5
  rw [hb] at this
  exact this

theorem steps_dev {w : World} {F : Nat → Prop} {d : Nat} {S : St} {L : Lay} (h : DevAt w F d S L) (b : Int) (hb : S.steps = b) :
    Calls Try.prog 23 #[.pointer (some ⟨d, 0, none⟩)] w fun e w' => e = .returned (.int .i64 b) ∧ w' = w := by
  obtain ⟨c0, c1, c2, c3, c4, c5, c6⟩ := dev_cells h.dev
  have := steps_any d _ w c3
  rw [hb] at this
  exact this

/-- The steps that the fuse gives. -/
def fuseOf (left : Int) : Int := (if left < 0 then -(left + 1) else left) % 401

set_option maxHeartbeats 4000000 in
set_option maxRecDepth 20000 in
theorem fuse_walk (w : World) (pages left : Int) (p : Option Addr) (cap : Nat) (l : List Note3) (hN : NotesAt w p l) (hl1 : l.length ≤ maxLen) (hlo : -9223372036854775808 ≤ left) (hhi : left ≤ 9223372036854775807) :
    Calls Try.prog 6 #[.int .i64 pages, .slice p l.length cap, .int .i64 left] w fun e w' => e = .returned (.bool true) ∧ Below w.heap.size w w' := by
  obtain ⟨n, hn⟩ : ∃ n, n = sizeOf8 pages := ⟨_, rfl⟩
  have hsz := sizeOf8_le pages
  have hsize := size_any pages
  rw [← hn] at hsz hsize
  have HN := Hid.mk' hN
  have HL1 := Hid.mk' hl1
  unfold maxLen at hl1
  clear hn hN
  obtain ⟨lf, hlf, hlf4⟩ : ∃ lf : Nat, fuseOf left = lf ∧ lf ≤ 400 := by
    have h1 := Int.emod_lt_of_pos (if left < 0 then -(left + 1) else left) (show (0 : Int) < 401 by omega)
    have h2 := Int.emod_nonneg (if left < 0 then -(left + 1) else left) (show (401 : Int) ≠ 0 by omega)
    exact ⟨(fuseOf left).toNat, by unfold fuseOf; omega, by unfold fuseOf; omega⟩
  have hx : (left < 0 ∧ (left + 1).tmod 401 = -(lf : Int)) ∨ (¬ left < 0 ∧ left.tmod 401 = (lf : Int) ∧ left % 401 = (lf : Int)) := by
    unfold fuseOf at hlf
    by_cases hneg : left < 0
    · left
      rw [if_pos hneg] at hlf
      have h1 : (-(left + 1)).tmod 401 = (-(left + 1)) % 401 := Int.tmod_eq_emod_of_nonneg (by omega)
      rw [Int.neg_tmod, hlf] at h1
      omega
    · right
      rw [if_neg hneg] at hlf
      have h1 : left.tmod 401 = left % 401 := Int.tmod_eq_emod_of_nonneg (by omega)
      omega
  clear hlf
  rcases hx with ⟨hneg, hx⟩ | ⟨hneg, hx, hx2⟩
  all_goals
    go_enter Try.func6, Try.ntmps6
    go_wp2_with (first
      | (go_at_call 9; refine (hsize _).mono ?_; rintro e w' ⟨rfl, hw⟩; subst w')
      | (go_at_call 10; have hg0 := HG1.out; refine (made_yes n _ hsz.2.1 (by omega) hsz.2.2).mono ?_; rintro e w2 ⟨rfl, hw2⟩
         obtain ⟨F1, L1, F2, L2, hduo⟩ := duo_made HG1.out (going_made _ _ n hsz.1 hw2)
         have harm := arm_dev w2 F1 (w.heap.size + 2) _ L1 lf hduo.one (by omega) (by omega) rfl
         have HDUO := Hid.mk' hduo
         clear hg0 hw2 HG1 hduo)
      | (go_at_call 10; refine (made_yes n _ hsz.2.1 (by omega) hsz.2.2).mono ?_; rintro e w1 ⟨rfl, hw1⟩
         have HG1 := Hid.mk' (going_made _ _ n hsz.1 hw1)
         clear hw1)
      | (go_at_call 27; refine harm.mono ?_; rintro e w3 ⟨rfl, hx1, hx2⟩
         obtain ⟨F3, L3, hduo⟩ := HDUO.out.step ⟨F1, L1, hx1, hx2, fun k hk => Or.inl hk⟩ rfl
         have hde := dead_dev hduo.one ((lf : Int) == 0) rfl
         have HD3 := Hid.mk' hduo
         clear harm hx1 hx2 HDUO hduo)
      | (go_at_call 28; refine hde.mono ?_; rintro e w' ⟨rfl, hw⟩; subst w'; clear hde))
    go_loopw [13] (fun i wr => ∃ k : Nat, k ≤ l.length ∧ k ≤ 400 ∧ i = .int .i64 k ∧ Hid (∃ F1 F2 S U L1 L2, Duo w w.heap.size n (w.heap.size + 2) (w1.heap.size + 2) F1 F2 S U L1 L2 wr ∧ Twin S U ∧ S.armed = true ∧ U.armed = false ∧ ∃ st : Nat, S.steps = st ∧ S.left = (lf - st : Nat) ∧ (k ≤ lf → st = k) ∧ (lf ≤ k → st = lf)))
      (fun i _ => 400 - (intOf i).toNat)
    case atStart => exact ⟨0, by omega, by omega, rfl, _, _, _, _, _, _, HD3.out, ⟨rfl, rfl, rfl, rfl⟩, rfl, rfl, 0, rfl, by simp [St.arm], by omega, by omega⟩
    case round =>
      obtain ⟨k, hk1, hk2, rfl, hrel⟩ := hrel
      obtain ⟨F1, F2, S, U, L1, L2, hduo, htw, hsa, hua, st, hst, hlf, hst1, hst2⟩ := hrel
      clear HD3 hx
      by_cases hlt : k < l.length ∧ k < 400
      · obtain ⟨hlt1, hlt2⟩ := hlt
        obtain ⟨b, o, rfl, hb, hc⟩ := (HN.out.kept hduo.keeps (fun i hi => hi)) (by omega)
        obtain ⟨e1, e2, e3, e4⟩ := hc k hlt1
        have hi1 : (k : Int) < (l.length : Int) := by omega
        have hi2 : (k : Int) < 400 := by omega
        have hi0 : (0 : Int) ≤ (k : Int) := by omega
        generalize l.getD k (0, 0, 0) = nt at *
        have hsb : b < wr.heap.size := hb
        by_cases hlv : k < lf
        · have hnote := note_dev wr F1 (w.heap.size + 2) n S L1 nt.1 nt.2.1 nt.2.2 hduo.one hduo.n1 hsz.2.2 hsz.2.1 e4 (by omega) (by rw [hlf]; omega)
          have hge : ¬ (lf : Int) ≤ (k : Int) := by omega
          have hkeep : ∀ w', Keeps F1 wr w' → w'.cell? ⟨b, o + k * 3, none⟩ = some (.int .i64 nt.1) ∧ w'.cell? ⟨b, o + k * 3 + 1, none⟩ = some (.int .i64 nt.2.1) ∧ w'.cell? ⟨b, o + k * 3 + 2, none⟩ = some (.int .u64 nt.2.2) := fun w' hk => by
            have hnb : ¬ F1 b := fun hh => by
              have := hduo.b1 b hh
              obtain ⟨b', o', e', hb', _⟩ := HN.out (by omega)
              cases e'
              omega
            exact ⟨hk.cell e1 hnb, hk.cell e2 hnb, hk.cell e3 hnb⟩
          have HKP := Hid.mk' hkeep
          have HV : Hid (0 ≤ nt.2.2 ∧ nt.2.2 < 18446744073709551616) := e4
          have HD := Hid.mk' hduo
          have HT := Hid.mk' (show Twin S U ∧ S.armed = true ∧ U.armed = false ∧ S.steps = st ∧ S.left = (lf - st : Nat) ∧ st = k from ⟨htw, hsa, hua, hst, hlf, hst1 (by omega)⟩)
          obtain ⟨bb, hbb⟩ : ∃ bb : Bool, (((k : Int) + 1) == (lf : Int)) = bb := ⟨_, rfl⟩
          clear hkeep hc hduo htw hsa hua hst hlf hst1 hst2 e4
          go_wp2_with (first
            | (go_at_call 11; refine hnote.mono ?_; rintro e w4 ⟨rfl, hx⟩
               obtain ⟨F4, L4, hd4⟩ := HD.out.step hx (note_len _ _ _ _ _)
               obtain ⟨g1, g2, g3⟩ := HKP.out w4 hx.choose_spec.choose_spec.2.1
               have hnote2 := note_dev w4 F2 (w1.heap.size + 2) n U L2 nt.1 nt.2.1 nt.2.2 hd4.two hd4.n2 hsz.2.2 hsz.2.1 HV.out (by have := HT.out.1.2.2.2; have := HT.out.2.2.2.1; have := HT.out.2.2.2.2.2; omega) (by rw [HT.out.2.2.1]; simp)
               have HD4 := Hid.mk' hd4
               clear hnote hx e1 e2 e3 hd4)
            | (go_at_call 11; refine hnote2.mono ?_; rintro e w5 ⟨rfl, hx⟩
               obtain ⟨F5, L5, hd5⟩ := HD4.out.swap.step hx (note_len _ _ _ _ _)
               have hde := dead_dev hd5.two bb (by
                 rw [note_armed, note_left, HT.out.2.1, HT.out.2.2.2.2.1, HT.out.2.2.2.2.2, ← hbb]
                 simp only [tick, if_true, Bool.true_and]
                 by_cases h : k + 1 = lf
                 · rw [show ((lf - k : Nat) : Int) - 1 = 0 by omega, show (k : Int) + 1 = (lf : Int) by omega]; simp
                 · have h1 : (((lf - k : Nat) : Int) - 1 == 0) = false := by simp; omega
                   have h2 : ((k : Int) + 1 == (lf : Int)) = false := by simp; omega
                   rw [h1, h2])
               have HD5 := Hid.mk' hd5.swap
               clear hnote2 hx g1 g2 g3 hd5)
            | (go_at_call 28; refine hde.mono ?_; rintro e w' ⟨rfl, hw⟩; subst w'; clear hde))
          go_roundw
          case rel =>
            obtain ⟨t1, t2, t3, t4, t5, t6⟩ := HT.out
            refine ⟨k + 1, by omega, by omega, by go_num, _, _, _, _, _, _, HD5.out, note_twin _ _ _ _ t1, by rw [note_armed]; exact t2, by rw [note_armed]; exact t3, st + 1, by rw [note_steps, t4]; rfl, ?_, by omega, by omega⟩
            rw [note_left, t2, t5]
            simp only [tick, if_true]
            omega
          case measure => simp [intOf]; omega
        · have hss : st = lf := hst2 (by omega)
          have hl0 : S.left = 0 := by rw [hlf, hss]; simp
          have hnote := note_dead wr F1 (w.heap.size + 2) n S L1 nt.1 nt.2.1 nt.2.2 hduo.one hduo.n1 hsz.2.1 hsa hl0
          have hge : (lf : Int) ≤ (k : Int) := by omega
          have HD := Hid.mk' hduo
          have HT := Hid.mk' (show Twin S U ∧ S.armed = true ∧ U.armed = false ∧ S.steps = st ∧ S.left = (lf - st : Nat) ∧ S.left = 0 ∧ st = lf from ⟨htw, hsa, hua, hst, hlf, hl0, hss⟩)
          clear hc hduo htw hsa hua hst hlf hst1 hst2 e4 hl0
          go_wp2_with (first
            | (go_at_call 11; refine hnote.mono ?_; rintro e w4 ⟨rfl, hx⟩
               have hd4 := HD.out.kept hx
               have hde := dead_dev hd4.one true (by rw [HT.out.2.1, HT.out.2.2.2.2.2.1]; rfl)
               have HD4 := Hid.mk' hd4
               clear hnote hx e1 e2 e3 hd4)
            | (go_at_call 28; refine hde.mono ?_; rintro e w' ⟨rfl, hw⟩; subst w'; clear hde))
          go_roundw
          case rel =>
            obtain ⟨t1, t2, t3, t4, t5, t6, t7⟩ := HT.out
            exact ⟨k + 1, by omega, by omega, by go_num, _, _, _, _, _, _, HD4.out, t1, t2, t3, st, t4, t5, by omega, by omega⟩
          case measure => simp [intOf]; omega
      · have hcut : ((k : Int) < (l.length : Int) ∧ ¬ (k : Int) < 400) ∨ ¬ (k : Int) < (l.length : Int) := by omega
        have hstb : st ≤ 400 := by omega
        have hs1 := steps_dev hduo.one st hst
        have hs2 := steps_dev hduo.two st (htw.2.2.2.symm.trans hst)
        have hde := dead_dev hduo.two false (by rw [hua]; rfl)
        have hal := alike_yes wr F1 F2 (w.heap.size + 2) (w1.heap.size + 2) n S U L1 L2 hduo.one hduo.two htw.1.symm htw.2.1.symm hduo.n1 (by omega) (by omega) (by have := htw.2.2.2; omega)
        have HK := Hid.mk' hduo.keeps
        clear hduo htw hsa hua hst hlf hst1 hst2 hlt
        rcases hcut with ⟨hi1, hi2⟩ | hi1
        all_goals
          go_wp2_with (first
            | (go_at_call 23; refine hs1.mono ?_; rintro e w' ⟨rfl, hw⟩; subst w'; clear hs1)
            | (go_at_call 23; refine hs2.mono ?_; rintro e w' ⟨rfl, hw⟩; subst w'; clear hs2)
            | (go_at_call 28; refine hde.mono ?_; rintro e w' ⟨rfl, hw⟩; subst w'; clear hde)
            | (go_at_call 29; refine hal.mono ?_; rintro e w8 ⟨rfl, hk8⟩; clear hal; have HK8 := Hid.mk' hk8; clear hk8))
          go_ret
          exact ⟨rfl, (HK.out.trans (HK8.out.mono (by simp))).below (Nat.le_refl _) (fun k hk => hk)⟩
end Go.Proofs.Ytfiekdgpdboolaa
