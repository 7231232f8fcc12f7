import Derived.Test.YtfiekdgpdboolabA7
namespace Go.Proofs.Ytfiekdgpdboolab
open Go.RowKit Go.Maps

/-- The marks of the words from lo up to hi count all their news. -/
def St.flushTo (S : St) (lo hi : Int) : St := { S with ms := fun x => if lo ≤ x ∧ x < hi then (S.pd x).length else S.ms x }
def St.tick (S : St) : St := { S with steps := S.steps + 1, left := Ytfiekdgpdboolab.tick S.armed S.left }
/-- What a Flush leaves. -/
def St.flush (S : St) (at_ : Int) : St := S.tick.flushTo (at_ - at_ % 64) (at_ - at_ % 64 + 64)

theorem flushTo_none {S : St} (lo : Int) : S.flushTo lo lo = S := by
  have : (fun x => if lo ≤ x ∧ x < lo then (S.pd x).length else S.ms x) = S.ms := by funext x; rw [if_neg (by omega)]
  unfold St.flushTo
  rw [this]

theorem flushTo_step {w : World} {F : Nat → Prop} {d : Nat} {S : St} {L : Lay} (lo a : Int) (hlo : lo ≤ a) (h8 : a % 8 = 0) (h : DevAt w F d (S.flushTo lo a) L) (S' : St)
    (hS' : S' = { S.flushTo lo a with ms := fun x => if x = a then (S.pd a).length else (S.flushTo lo a).ms x }) : S' = S.flushTo lo (a + 8) := by
  subst hS'
  simp only [St.flushTo, St.mk.injEq, true_and, and_true]
  funext x
  by_cases hx : x = a
  · subst hx; rw [if_pos rfl, if_pos (by omega)]
  · rw [if_neg hx]
    by_cases h1 : lo ≤ x ∧ x < a
    · rw [if_pos h1, if_pos (by omega)]
    · rw [if_neg h1]
      by_cases h2 : lo ≤ x ∧ x < a + 8
      · rw [if_pos h2]
        have hm := h.marks x
        have hd := h.dom x
        simp only [St.flushTo, if_neg h1] at hm hd
        by_cases he : S.pd x = []
        · rw [he] at hm ⊢; simpa using hm
        · have := hd he; omega
      · rw [if_neg h2]

theorem flushTo_skip {w : World} {F : Nat → Prop} {d : Nat} {S : St} {L : Lay} (lo a : Int) (hlo : lo ≤ a) (h8 : a % 8 = 0) (h : DevAt w F d (S.flushTo lo a) L) (he : S.pd a = []) : S.flushTo lo (a + 8) = S.flushTo lo a := by
  have := flushTo_step lo a hlo h8 h (S.flushTo lo a) (by
    simp only [St.flushTo, St.mk.injEq, true_and, and_true]
    funext x
    by_cases hx : x = a
    · subst hx; rw [if_pos rfl, if_neg (by omega), he]
      have hm := h.marks x
      simp only [St.flushTo, if_neg (show ¬ (lo ≤ x ∧ x < x) by omega), he] at hm
      simpa using hm
    · rw [if_neg hx])
  exact this.symm

set_option maxHeartbeats 800000 in
theorem flush_dev (w : World) (F : Nat → Prop) (d : Nat) (S : St) (L : Lay) (at_ : Int) (h : DevAt w F d S L) (h0 : 0 ≤ at_) (h1 : at_ < S.old.length) (h8 : S.old.length % 512 = 0) (hs' : S.steps ≤ 1000000000) (live : ¬ (S.armed = true ∧ S.left = 0)) :
    Calls Try.prog 37 #[.pointer (some ⟨d, 0, none⟩), .int .i64 at_] w fun e w' => e = .returned (.int .i64 0) ∧ DevAt w' F d (S.flush at_) L ∧ Keeps F w w' := by
  have hc0 := (dev_cells h.dev).1
  have hst := step_live d _ _ L.room S.steps S.left S.armed w h.dev h.nonneg (by omega) h.lefts.1 h.lefts.2 live
  have hha := has_any d _ _ _ at_ w hc0
  have hsz := h.size
  have HT : ∀ w1, w1.heap[d]? = some (devCells (.slice (some ⟨L.ob, 0, none⟩) S.old.length S.old.length) (.map (some L.bm)) L.room (S.steps + 1) S.armed (tick S.armed S.left)) → w.grownBy w1 (some d) → Hid (DevAt w1 F d S.tick L ∧ Keeps F w w1) :=
    fun w1 a b => ⟨h.ticked a b live, Keeps.of b (by rintro k e; cases e; exact Or.inl h.fd)⟩
  obtain ⟨lo, hlo⟩ : ∃ lo, lo = at_ - at_ % 64 := ⟨_, rfl⟩
  have HLO : Hid (lo = at_ - at_ % 64) := hlo
  have hl1 : 0 ≤ lo := by omega
  have hl2 : lo + 64 ≤ S.old.length := by omega
  have hl3 : lo % 8 = 0 := by omega
  have hfl : S.flush at_ = S.tick.flushTo lo (lo + 64) := by rw [hlo]; rfl
  rw [hfl]
  clear hfl hlo hc0 live
  have HD0 : Hid (DevAt w F d S L) := h
  clear h
  go_enter Try.func37, Try.ntmps37
  go_wp2_with (first
    | (go_at_call 58; refine hha.mono ?_; rintro e w' ⟨rfl, hw⟩; subst w')
    | (go_at_call 40; refine hst.mono ?_; rintro e w1 ⟨rfl, hd1, hg1, hs1⟩; have H1 := HT w1 hd1 hg1; clear hd1 hg1 hs1))
  rw [← HLO.out]
  go_loopw [7] (fun i wr => ∃ k : Nat, k ≤ 8 ∧ i = .int .i64 (lo + 8 * k) ∧ DevAt wr F d (S.tick.flushTo lo (lo + 8 * k)) L ∧ Keeps F w wr)
    (fun i _ => (lo + 64 - intOf i).toNat)
  case atStart => exact ⟨0, by omega, by simp, by simpa [flushTo_none] using H1.out.1, H1.out.2⟩
  case round =>
    obtain ⟨k, hk, rfl, hdev, hkp⟩ := hrel
    obtain ⟨a, ha⟩ : ∃ a, a = lo + 8 * (k : Int) := ⟨_, rfl⟩
    rw [← ha] at hdev ⊢
    have HA : Hid (a = lo + 8 * (k : Int)) := ha
    have ha1 : 0 ≤ a := by omega
    have ha2 : a ≤ lo + 64 := by omega
    have ha3 : a % 8 = 0 := by omega
    have ha4 : lo ≤ a := by omega
    by_cases hlt : k < 8
    · have ha5 : a < lo + 64 := by omega
      have ha6 : a + 8 = lo + 8 * ((k + 1 : Nat) : Int) := by omega
      have HA6 : Hid (a + 8 = lo + 8 * ((k + 1 : Nat) : Int)) := ha6
      clear ha6 ha
      have HV : Hid (DevAt wr F d (S.tick.flushTo lo a) L) := hdev
      have hm := hdev.hmap
      have hwf : (Lit.int .i64 a).wf = true := wf_i64 ha1 (by omega)
      obtain ⟨c0, c1, c2, c3, c4, c5, c6⟩ := dev_cells hdev.dev
      clear c0 c2 c3 c4 c5 c6
      by_cases hp : S.pd a = []
      · have hat := hdev.at_none hp
        clear hdev
        have HP : Hid (S.pd a = []) := hp
        clear hp
        go_wp2_with (at_lookup; refine wpList_lookup_none _ rfl _ _ rfl L.bm L.nn L.D rfl hm a rfl hwf hat ?_)
        go_roundw
        case rel =>
          refine ⟨k + 1, by omega, by rw [← HA6.out], ?_, hkp⟩
          rw [← HA6.out, flushTo_skip lo a ha4 ha3 HV.out HP.out]
          exact HV.out
        case measure => simp [intOf]; omega
      · have hat := hdev.at_some hp
        obtain ⟨pc0, pc1, pf⟩ := pend_cells (hdev.pend a hp).1
        have hlen : ((S.pd a).length : Int) ≤ S.steps + 1 := hdev.lens a
        have HM : Hid (DevAt (wr.setCell ⟨L.pp a, 1, none⟩ (.int .i64 (S.pd a).length)) F d (S.tick.flushTo lo (a + 8)) L ∧ Keeps F wr (wr.setCell ⟨L.pp a, 1, none⟩ (.int .i64 (S.pd a).length))) := by
          refine ⟨?_, Keeps.of (grownBy_setCell wr ⟨L.pp a, 1, none⟩ _) (by rintro k e; cases e; exact Or.inl (hdev.fp a hp).1)⟩
          have := hdev.setMark hp (S.pd a).length (Nat.le_refl _)
          rw [← flushTo_step lo a ha4 ha3 hdev _ rfl]
          exact this
        have pc0' : wr.cell? ⟨L.pp a, 0, none⟩ = some (.slice (some ⟨L.gg a, 0, none⟩) (S.pd a).length (L.cp a)) := pc0
        clear hdev pc0 HV
        go_wp2_with (at_lookup; refine wpList_lookup_ptr _ rfl _ _ rfl L.bm L.nn L.D rfl hm a rfl hwf (L.pp a) hat ?_)
        go_roundw
        case rel =>
          refine ⟨k + 1, by omega, by rw [← HA6.out], ?_, hkp.trans HM.out.2⟩
          first | exact HM.out.1 | (rw [← HA6.out]; exact HM.out.1)
        case measure => simp [intOf]; omega
    · have ha5 : ¬ a < lo + 64 := by omega
      have ha7 : a = lo + 64 := by omega
      subst ha7
      have HV : Hid (DevAt wr F d (S.tick.flushTo lo (lo + 64)) L) := hdev
      clear hdev ha
      go_wp2
      go_ret
      exact ⟨rfl, HV.out, hkp⟩

end Go.Proofs.Ytfiekdgpdboolab
