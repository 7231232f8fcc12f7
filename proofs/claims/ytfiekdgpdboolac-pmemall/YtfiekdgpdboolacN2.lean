import Derived.Test.YtfiekdgpdboolacN1
namespace Go.Proofs.Ytfiekdgpdboolac
open Go.RowKit Go.Maps

section
variable {w : World} {F : Nat → Prop} {d : Nat} {S : St} {L : Lay}

/-- The fuse is set. -/
def St.arm (S : St) (lf : Int) : St := { S with armed := true, left := lf }

theorem DevAt.rearmed {w' : World} {lf : Int} (h : DevAt w F d S L) (hd : w'.heap[d]? = some (devCells (.slice (some ⟨L.ob, 0, none⟩) S.old.length S.old.length) (.map (some L.bm)) L.room S.steps true lf)) (hg : w.grownBy w' (some d))
    (hl : 0 ≤ lf ∧ lf ≤ 9223372036854775807) : DevAt w' F d (S.arm lf) L := {
  dev := hd
  bytes := (hg.block _ (Array.getElem?_eq_some_iff.1 h.bytes).1 (by simpa using h.d_ne_ob)).trans h.bytes
  hmap := h.hmap.kept hg (by simpa using h.d_ne_bm)
  hD := h.hD
  pend a ha := ⟨(hg.block _ (Array.getElem?_eq_some_iff.1 (h.pend a ha).1).1 (by simpa using h.p_ne_d ha)).trans (h.pend a ha).1,
    (h.pend a ha).2.kept hg (Or.inr (by simpa [Value.ownBlock] using h.g_ne_d ha))⟩
  marks := h.marks
  injp := h.injp
  injg := h.injg
  dom := h.dom
  vals := h.vals
  byts := h.byts
  lens := h.lens
  nns := h.nns
  rooms := h.rooms
  lefts := hl
  size := h.size
  fd := h.fd
  fo := h.fo
  fm := h.fm
  fp := h.fp
  fsz i hi := Nat.lt_of_lt_of_le (h.fsz i hi) hg.size }
end

set_option maxHeartbeats 400000 in
theorem arm_dev (w : World) (F : Nat → Prop) (d : Nat) (S : St) (L : Lay) (lf : Int) (h : DevAt w F d S L) (h0 : 0 ≤ lf) (h1 : lf ≤ 9223372036854775807) (ha : S.armed = false) :
    Calls Try.prog 39 #[.pointer (some ⟨d, 0, none⟩), .int .i64 lf] w fun e w' => e = .returned (.int .i64 0) ∧ DevAt w' F d (S.arm lf) L ∧ Keeps F w w' := by
  obtain ⟨c0, c1, c2, c3, c4, c5, c6⟩ := dev_cells h.dev
  have hde := dead_any d _ _ w c4 c5
  have e1 : (S.armed && (S.left == 0)) = false := by simp [ha]
  rw [e1] at hde
  have H := Hid.mk' h
  clear h c0 c1 c2 c3 ha e1
  go_enter Try.func39, Try.ntmps39
  go_wp2_with (first | (go_at_call 43; refine hde.mono ?_; rintro e w' ⟨rfl, hw⟩; subst w'))
  go_ret
  have g : w.grownBy ((w.setCell ⟨d, 4, none⟩ (.bool true)).setCell ⟨d, 5, none⟩ (.int .i64 lf)) (some d) := grownBy_trans (grownBy_setCell _ ⟨d, 4, none⟩ _) (grownBy_setCell _ ⟨d, 5, none⟩ _)
  refine ⟨rfl, H.out.rearmed ?_ g ⟨h0, h1⟩, Keeps.of g (by rintro k hk; cases hk; exact Or.inl H.out.fd)⟩
  have := setCell_block (a := ⟨d, 4, none⟩) (v := .bool true) H.out.dev rfl
  have := setCell_block (a := ⟨d, 5, none⟩) (v := .int .i64 lf) this rfl
  simpa [devCells] using this

set_option maxHeartbeats 400000 in
theorem store_dead (w : World) (F : Nat → Prop) (d : Nat) (S : St) (L : Lay) (at_ v : Int) (h : DevAt w F d S L) (h0 : 0 ≤ at_) (h1 : at_ + 8 ≤ S.old.length) (h8 : at_ % 8 = 0) (ha : S.armed = true) (hl : S.left = 0) :
    Calls Try.prog 29 #[.pointer (some ⟨d, 0, none⟩), .int .i64 at_, .int .u64 v] w fun e w' => e = .returned (.int .i64 13) ∧ w' = w := by
  have hd := h.dev
  rw [ha, hl] at hd
  obtain ⟨c0, c1, c2, c3, c4, c5, c6⟩ := dev_cells hd
  have hcw := checkWord_any d _ _ _ at_ w c0
  have hbad : badWord S.old.length at_ = 0 := by unfold badWord; rw [if_pos (by omega), if_pos (by omega)]
  rw [hbad] at hcw
  have hst := step_dead d _ _ _ _ w hd
  clear h c0 c1 c2 c3 c4 c5 c6 hd hbad
  go_enter Try.func29, Try.ntmps29
  go_wp2_with (first
    | (go_at_call 56; refine hcw.mono ?_; rintro e w' ⟨rfl, hw⟩; subst w')
    | (go_at_call 64; refine hst.mono ?_; rintro e w' ⟨rfl, hw⟩; subst w'))
  go_ret
  exact ⟨rfl, rfl⟩

set_option maxHeartbeats 400000 in
theorem flush_dead (w : World) (F : Nat → Prop) (d : Nat) (S : St) (L : Lay) (at_ : Int) (h : DevAt w F d S L) (h0 : 0 ≤ at_) (h1 : at_ < S.old.length) (ha : S.armed = true) (hl : S.left = 0) :
    Calls Try.prog 33 #[.pointer (some ⟨d, 0, none⟩), .int .i64 at_] w fun e w' => e = .returned (.int .i64 13) ∧ w' = w := by
  have hd := h.dev
  rw [ha, hl] at hd
  obtain ⟨c0, c1, c2, c3, c4, c5, c6⟩ := dev_cells hd
  have hcw := has_any d _ _ _ at_ w c0
  have hbad : (decide (0 ≤ at_) && decide (at_ < S.old.length)) = true := by simp [h0, h1]
  rw [hbad] at hcw
  have hst := step_dead d _ _ _ _ w hd
  clear h c0 c1 c2 c3 c4 c5 c6 hd hbad
  go_enter Try.func33, Try.ntmps33
  go_wp2_with (first
    | (go_at_call 66; refine hcw.mono ?_; rintro e w' ⟨rfl, hw⟩; subst w')
    | (go_at_call 64; refine hst.mono ?_; rintro e w' ⟨rfl, hw⟩; subst w'))
  go_ret
  exact ⟨rfl, rfl⟩

set_option maxHeartbeats 400000 in
theorem fence_dead (w : World) (F : Nat → Prop) (d : Nat) (S : St) (L : Lay) (h : DevAt w F d S L) (ha : S.armed = true) (hl : S.left = 0) :
    Calls Try.prog 37 #[.pointer (some ⟨d, 0, none⟩)] w fun e w' => e = .returned (.int .i64 13) ∧ w' = w := by
  have hd := h.dev
  rw [ha, hl] at hd
  have hst := step_dead d _ _ _ _ w hd
  clear h hd
  go_enter Try.func37, Try.ntmps37
  go_wp2_with (first
    | (go_at_call 64; refine hst.mono ?_; rintro e w' ⟨rfl, hw⟩; subst w'))
  go_ret
  exact ⟨rfl, rfl⟩

/-- One state but for the fuse. -/
def Twin (S U : St) : Prop := S.old = U.old ∧ S.pd = U.pd ∧ S.ms = U.ms ∧ S.steps = U.steps

theorem note_twin {S U : St} (k a v : Int) (n : Nat) (h : Twin S U) : Twin (S.note k a v n) (U.note k a v n) := by
  obtain ⟨o, pd, ms, st, ar, lf⟩ := S
  obtain ⟨o', pd', ms', st', ar', lf'⟩ := U
  obtain ⟨h1, h2, h3, h4⟩ := h
  simp only at h1 h2 h3 h4
  subst h1 h2 h3 h4
  unfold St.note
  split
  · exact ⟨rfl, rfl, rfl, rfl⟩
  · split
    · exact ⟨rfl, rfl, rfl, rfl⟩
    · exact ⟨rfl, rfl, rfl, rfl⟩

theorem note_left (S : St) (k a v : Int) (n : Nat) : (S.note k a v n).left = tick S.armed S.left := by
  unfold St.note
  split
  · rfl
  · split <;> rfl

end Go.Proofs.Ytfiekdgpdboolac
