import Derived.Test.YtfiekdgpdboolabC1
import Derived.Test.YtfiekdgpdboolabB3
namespace Go.Proofs.Ytfiekdgpdboolab
open Go.RowKit Go.Maps

/-- One step of the short scripts: 1 stores, 2 flushes, any other fences. -/
def St.note (S : St) (k a v : Int) (n : Nat) : St := if k = 1 then S.store (wordOf a n) v else if k = 2 then S.flush (wordOf a n) else S.fence

theorem note_len (S : St) (k a v : Int) (n : Nat) : (S.note k a v n).old.length = S.old.length := by
  unfold St.note
  split
  · rfl
  · split
    · rfl
    · simp [St.fence, fenced_len, St.tick]
theorem note_steps (S : St) (k a v : Int) (n : Nat) : (S.note k a v n).steps = S.steps + 1 := by
  unfold St.note
  split
  · rfl
  · split <;> rfl
theorem note_armed (S : St) (k a v : Int) (n : Nat) : (S.note k a v n).armed = S.armed := by
  unfold St.note
  split
  · rfl
  · split <;> rfl

set_option maxHeartbeats 400000 in
theorem note_dev (w : World) (F : Nat → Prop) (d n : Nat) (S : St) (L : Lay) (k a v : Int) (h : DevAt w F d S L) (hn : S.old.length = n) (h8 : n % 512 = 0) (hn0 : 512 ≤ n) (hv : 0 ≤ v ∧ v < 18446744073709551616)
    (hs' : S.steps ≤ 1000000) (live : ¬ (S.armed = true ∧ S.left = 0)) :
    Calls Try.prog 21 #[.pointer (some ⟨d, 0, none⟩), .agg #[.int .i64 k, .int .i64 a, .int .u64 v], .int .i64 n] w fun e w' => e = .returned (.int .i64 0) ∧ ∃ F' L', DevAt w' F' d (S.note k a v n) L' ∧ Keeps F w w' ∧ Fresh F F' w := by
  have hsz := h.size
  obtain ⟨w0, w1, w2⟩ := wordOf_in a (show 8 ≤ n by omega)
  have hk0 := Keeps.of (X := F) (World.grownBy_alloc w (.cells #[.int .i64 k, .int .i64 a, .int .u64 v] 49) none) (by simp)
  have hdev := h.kept (X := fun _ => False) (Keeps.of (World.grownBy_alloc w (.cells #[.int .i64 k, .int .i64 a, .int .u64 v] 49) none) (by simp)) (by simp)
  have HD : Hid (DevAt (w.alloc (.cells #[.int .i64 k, .int .i64 a, .int .u64 v] 49)) F d S L ∧ Keeps F w (w.alloc (.cells #[.int .i64 k, .int .i64 a, .int .u64 v] 49)) ∧ S.old.length = n) := ⟨hdev, hk0, hn⟩
  have hlast : ∀ T w', (∃ F' L', DevAt w' F' d T L' ∧ Keeps F (w.alloc (.cells #[.int .i64 k, .int .i64 a, .int .u64 v] 49)) w' ∧ Fresh F F' (w.alloc (.cells #[.int .i64 k, .int .i64 a, .int .u64 v] 49))) →
      Hid (∃ F' L', DevAt w' F' d T L' ∧ Keeps F w w' ∧ Fresh F F' w) := by
    rintro T w' ⟨F', L', h1, h2, h3⟩
    exact ⟨F', L', h1, hk0.trans h2, fun i hi => by
      rcases h3 i hi with h4 | h4
      · exact Or.inl h4
      · exact Or.inr (by simp at h4; omega)⟩
  have HL : Hid (∀ T w', (∃ F' L', DevAt w' F' d T L' ∧ Keeps F (w.alloc (.cells #[.int .i64 k, .int .i64 a, .int .u64 v] 49)) w' ∧ Fresh F F' (w.alloc (.cells #[.int .i64 k, .int .i64 a, .int .u64 v] 49))) →
      Hid (∃ F' L', DevAt w' F' d T L' ∧ Keeps F w w' ∧ Fresh F F' w)) := hlast
  have HLV : Hid (¬ (S.armed = true ∧ S.left = 0)) := live
  clear hk0 hdev hlast h live
  by_cases hk1 : k = 1
  · have hkb : (k == 1) = true := by simp [hk1]
    have HN : Hid (S.note k a v n = S.store (wordOf a n) v) := by simp [Hid, St.note, hk1]
    clear hk1
    go_enter Try.func21, Try.ntmps21
    go_wp2_with (first
      | (go_at_call 11; refine (word_any a n _ (by omega) (by omega)).mono ?_; rintro e w' ⟨rfl, hw⟩; subst w')
      | (go_at_call 35; refine (store_dev _ F d S L (wordOf a n) v HD.out.1 w0 (by have := HD.out.2.2; omega) w2 hv hs' HLV.out).mono ?_; rintro e w4 ⟨rfl, hx⟩; have HX := HL.out _ _ hx; clear hx))
    go_ret
    exact ⟨rfl, by rw [HN.out]; exact HX.out⟩
  · have hkb : (k == 1) = false := by simp [hk1]
    by_cases hk2 : k = 2
    · have hkc : (k == 2) = true := by simp [hk2]
      have HN : Hid (S.note k a v n = S.flush (wordOf a n)) := by simp [Hid, St.note, hk2]
      clear hk1 hk2
      go_enter Try.func21, Try.ntmps21
      go_wp2_with (first
        | (go_at_call 11; refine (word_any a n _ (by omega) (by omega)).mono ?_; rintro e w' ⟨rfl, hw⟩; subst w')
        | (go_at_call 37; refine (flush_dev _ F d S L (wordOf a n) HD.out.1 w0 (by have := HD.out.2.2; omega) (by rw [HD.out.2.2]; exact h8) (by omega) HLV.out).mono ?_; rintro e w4 ⟨rfl, hx1, hx2⟩; have HX := HL.out _ _ ⟨F, L, hx1, hx2, fun i hi => Or.inl hi⟩; clear hx1 hx2))
      go_ret
      exact ⟨rfl, by rw [HN.out]; exact HX.out⟩
    · have hkc : (k == 2) = false := by simp [hk2]
      have HN : Hid (S.note k a v n = S.fence) := by simp [Hid, St.note, hk1, hk2]
      clear hk1 hk2
      go_enter Try.func21, Try.ntmps21
      go_wp2_with (first
        | (go_at_call 11; refine (word_any a n _ (by omega) (by omega)).mono ?_; rintro e w' ⟨rfl, hw⟩; subst w')
        | (go_at_call 20; refine (fence_dev _ F d S L HD.out.1 (by omega) HLV.out).mono ?_; rintro e w4 ⟨rfl, hx⟩; have HX := HL.out _ _ hx; clear hx))
      go_ret
      exact ⟨rfl, by rw [HN.out]; exact HX.out⟩

end Go.Proofs.Ytfiekdgpdboolab
