import Derived.Test.YtfiekdgpdboolabN1
namespace Go.Proofs.Ytfiekdgpdboolab
open Go.RowKit Go.Maps

section
variable {w : World} {F : Nat → Prop} {d : Nat} {S : St} {L : Lay}

/-- The fuse is set. -/
def St.arm (S : St) (lf : Int) : St := { S with armed := true, left := lf }

theorem DevAt.rearmed {w' : World} {lf : Int} (h : DevAt w F d S L) (hd : w'.heap[d]? = some (devCells (.slice (some ⟨L.ob, 0, none⟩) S.old.length S.old.length) (.map (some L.bm)) L.room S.steps true lf)) (hg : w.grownBy w' (some d))
    (hl : 0 ≤ lf ∧ lf ≤ 9223372036854775807) : DevAt w' F d (S.arm lf) L := {
  dev := hd
  bytes := (hg.block _ (Array.getElem?_eq_some_iff.1 h.bytes).1 (by simpa using h.d_ne_ob)).trans h.bytes
  hmap := h.hmap.kept hg (by simpa using h.d_ne_bm)
  hD := h.hD
  pend a ha := ⟨(hg.block _ (Array.getElem?_eq_some_iff.1 (h.pend a ha).1).1 (by simpa using h.p_ne_d ha)).trans (h.pend a ha).1,
    (h.pend a ha).2.kept hg (Or.inr (by simpa [Value.ownBlock] using h.g_ne_d ha))⟩
  marks := h.marks
  injp := h.injp
  injg := h.injg
  dom := h.dom
  vals := h.vals
  byts := h.byts
  lens := h.lens
  nns := h.nns
  rooms := h.rooms
  lefts := hl
  size := h.size
  fd := h.fd
  fo := h.fo
  fm := h.fm
  fp := h.fp
  fsz i hi := Nat.lt_of_lt_of_le (h.fsz i hi) hg.size }
end

set_option maxHeartbeats 400000 in
theorem arm_dev (w : World) (F : Nat → Prop) (d : Nat) (S : St) (L : Lay) (lf : Int) (h : DevAt w F d S L) (h0 : 0 ≤ lf) (h1 : lf ≤ 9223372036854775807) (ha : S.armed = false) :
    Calls Try.prog 12 #[.pointer (some ⟨d, 0, none⟩), .int .i64 lf] w fun e w' => e = .returned (.int .i64 0) ∧ DevAt w' F d (S.arm lf) L ∧ Keeps F w w' := by
  obtain ⟨c0, c1, c2, c3, c4, c5, c6⟩ := dev_cells h.dev
  have hde := dead_any d _ _ w c4 c5
  have e1 : (S.armed && (S.left == 0)) = false := by simp [ha]
  rw [e1] at hde
  have H := Hid.mk' h
  clear h c0 c1 c2 c3 ha e1
  go_enter Try.func12, Try.ntmps12
  go_wp2_with (first | (go_at_call 33; refine hde.mono ?_; rintro e w' ⟨rfl, hw⟩; subst w'))
  go_ret
  have g : w.grownBy ((w.setCell ⟨d, 4, none⟩ (.bool true)).setCell ⟨d, 5, none⟩ (.int .i64 lf)) (some d) := grownBy_trans (grownBy_setCell _ ⟨d, 4, none⟩ _) (grownBy_setCell _ ⟨d, 5, none⟩ _)
  refine ⟨rfl, H.out.rearmed ?_ g ⟨h0, h1⟩, Keeps.of g (by rintro k hk; cases hk; exact Or.inl H.out.fd)⟩
  have := setCell_block (a := ⟨d, 4, none⟩) (v := .bool true) H.out.dev rfl
  have := setCell_block (a := ⟨d, 5, none⟩) (v := .int .i64 lf) this rfl
  simpa [devCells] using this

set_option maxHeartbeats 400000 in
theorem store_dead (w : World) (F : Nat → Prop) (d : Nat) (S : St) (L : Lay) (at_ v : Int) (h : DevAt w F d S L) (h0 : 0 ≤ at_) (h1 : at_ + 8 ≤ S.old.length) (h8 : at_ % 8 = 0) (ha : S.armed = true) (hl : S.left = 0) :
    Calls Try.prog 35 #[.pointer (some ⟨d, 0, none⟩), .int .i64 at_, .int .u64 v] w fun e w' => e = .returned (.int .i64 13) ∧ w' = w := by
  have hd := h.dev
  rw [ha, hl] at hd
  obtain ⟨c0, c1, c2, c3, c4, c5, c6⟩ := dev_cells hd
  have hcw := checkWord_any d _ _ _ at_ w c0
  have hbad : badWord S.old.length at_ = 0 := by unfold badWord; rw [if_pos (by omega), if_pos (by omega)]
  rw [hbad] at hcw
  have hst := step_dead d _ _ _ _ w hd
  clear h c0 c1 c2 c3 c4 c5 c6 hd hbad
  go_enter Try.func35, Try.ntmps35
  go_wp2_with (first
    | (go_at_call 57; refine hcw.mono ?_; rintro e w' ⟨rfl, hw⟩; subst w')
    | (go_at_call 40; refine hst.mono ?_; rintro e w' ⟨rfl, hw⟩; subst w'))
  go_ret
  exact ⟨rfl, rfl⟩

set_option maxHeartbeats 400000 in
theorem flush_dead (w : World) (F : Nat → Prop) (d : Nat) (S : St) (L : Lay) (at_ : Int) (h : DevAt w F d S L) (h0 : 0 ≤ at_) (h1 : at_ < S.old.length) (ha : S.armed = true) (hl : S.left = 0) :
    Calls Try.prog 37 #[.pointer (some ⟨d, 0, none⟩), .int .i64 at_] w fun e w' => e = .returned (.int .i64 13) ∧ w' = w := by
  have hd := h.dev
  rw [ha, hl] at hd
  obtain ⟨c0, c1, c2, c3, c4, c5, c6⟩ := dev_cells hd
  have hcw := has_any d _ _ _ at_ w c0
  have hbad : (decide (0 ≤ at_) && decide (at_ < S.old.length)) = true := by simp [h0, h1]
  rw [hbad] at hcw
  have hst := step_dead d _ _ _ _ w hd
  clear h c0 c1 c2 c3 c4 c5 c6 hd hbad
  go_enter Try.func37, Try.ntmps37
  go_wp2_with (first
    | (go_at_call 58; refine hcw.mono ?_; rintro e w' ⟨rfl, hw⟩; subst w')
    | (go_at_call 40; refine hst.mono ?_; rintro e w' ⟨rfl, hw⟩; subst w'))
  go_ret
  exact ⟨rfl, rfl⟩

set_option maxHeartbeats 400000 in
theorem fence_dead (w : World) (F : Nat → Prop) (d : Nat) (S : St) (L : Lay) (h : DevAt w F d S L) (ha : S.armed = true) (hl : S.left = 0) :
    Calls Try.prog 20 #[.pointer (some ⟨d, 0, none⟩)] w fun e w' => e = .returned (.int .i64 13) ∧ w' = w := by
  have hd := h.dev
  rw [ha, hl] at hd
  have hst := step_dead d _ _ _ _ w hd
  clear h hd
  go_enter Try.func20, Try.ntmps20
  go_wp2_with (first
    | (go_at_call 40; refine hst.mono ?_; rintro e w' ⟨rfl, hw⟩; subst w'))
  go_ret
  exact ⟨rfl, rfl⟩

set_option maxHeartbeats 400000 in
theorem note_dead (w : World) (F : Nat → Prop) (d n : Nat) (S : St) (L : Lay) (k a v : Int) (h : DevAt w F d S L) (hn : S.old.length = n) (hn0 : 512 ≤ n) (ha : S.armed = true) (hl : S.left = 0) :
    Calls Try.prog 21 #[.pointer (some ⟨d, 0, none⟩), .agg #[.int .i64 k, .int .i64 a, .int .u64 v], .int .i64 n] w fun e w' => e = .returned (.int .i64 13) ∧ Keeps (fun _ => False) w w' := by
  have hsz := h.size
  obtain ⟨w0, w1, w2⟩ := wordOf_in a (show 8 ≤ n by omega)
  have hk0 := Keeps.of (X := fun _ => False) (World.grownBy_alloc w (.cells #[.int .i64 k, .int .i64 a, .int .u64 v] 49) none) (by simp)
  have hdev := h.kept (X := fun _ => False) hk0 (by simp)
  have HK := Hid.mk' hk0
  have s1 := store_dead _ F d S L (wordOf a n) v hdev w0 (by omega) w2 ha hl
  have s2 := flush_dead _ F d S L (wordOf a n) hdev w0 (by omega) ha hl
  have s3 := fence_dead _ F d S L hdev ha hl
  clear h hdev ha hl hk0
  by_cases hk1 : k = 1
  · have hkb : (k == 1) = true := by simp [hk1]
    clear hk1 s2 s3
    go_enter Try.func21, Try.ntmps21
    go_wp2_with (first
      | (go_at_call 11; refine (word_any a n _ (by omega) (by omega)).mono ?_; rintro e w' ⟨rfl, hw⟩; subst w')
      | (go_at_call 35; refine s1.mono ?_; rintro e w4 ⟨rfl, hw⟩; subst w4))
    go_ret
    exact ⟨rfl, HK.out⟩
  · have hkb : (k == 1) = false := by simp [hk1]
    by_cases hk2 : k = 2
    · have hkc : (k == 2) = true := by simp [hk2]
      clear hk1 hk2 s1 s3
      go_enter Try.func21, Try.ntmps21
      go_wp2_with (first
        | (go_at_call 11; refine (word_any a n _ (by omega) (by omega)).mono ?_; rintro e w' ⟨rfl, hw⟩; subst w')
        | (go_at_call 37; refine s2.mono ?_; rintro e w4 ⟨rfl, hw⟩; subst w4))
      go_ret
      exact ⟨rfl, HK.out⟩
    · have hkc : (k == 2) = false := by simp [hk2]
      clear hk1 hk2 s1 s2
      go_enter Try.func21, Try.ntmps21
      go_wp2_with (first
        | (go_at_call 11; refine (word_any a n _ (by omega) (by omega)).mono ?_; rintro e w' ⟨rfl, hw⟩; subst w')
        | (go_at_call 20; refine s3.mono ?_; rintro e w4 ⟨rfl, hw⟩; subst w4))
      go_ret
      exact ⟨rfl, HK.out⟩

/-- One state but for the fuse. -/
def Twin (S U : St) : Prop := S.old = U.old ∧ S.pd = U.pd ∧ S.ms = U.ms ∧ S.steps = U.steps

theorem note_twin {S U : St} (k a v : Int) (n : Nat) (h : Twin S U) : Twin (S.note k a v n) (U.note k a v n) := by
  obtain ⟨o, pd, ms, st, ar, lf⟩ := S
  obtain ⟨o', pd', ms', st', ar', lf'⟩ := U
  obtain ⟨h1, h2, h3, h4⟩ := h
  simp only at h1 h2 h3 h4
  subst h1 h2 h3 h4
  unfold St.note
  split
  · exact ⟨rfl, rfl, rfl, rfl⟩
  · split
    · exact ⟨rfl, rfl, rfl, rfl⟩
    · exact ⟨rfl, rfl, rfl, rfl⟩

theorem note_left (S : St) (k a v : Int) (n : Nat) : (S.note k a v n).left = tick S.armed S.left := by
  unfold St.note
  split
  · rfl
  · split <;> rfl

end Go.Proofs.Ytfiekdgpdboolab
