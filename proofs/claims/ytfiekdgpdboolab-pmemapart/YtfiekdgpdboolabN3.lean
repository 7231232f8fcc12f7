import Derived.Test.YtfiekdgpdboolabN2
namespace Go.Proofs.Ytfiekdgpdboolab
open Go.RowKit Go.Maps

/-- Two devices side by side. -/
structure Duo (w0 : World) (B n d u : Nat) (F1 F2 : Nat → Prop) (S U : St) (L1 L2 : Lay) (w : World) : Prop where
  one : DevAt w F1 d S L1
  two : DevAt w F2 u U L2
  b1 : ∀ k, F1 k → B ≤ k
  b2 : ∀ k, F2 k → B ≤ k
  apart : ∀ k, F1 k → ¬ F2 k
  keeps : Keeps (fun k => B ≤ k) w0 w
  n1 : S.old.length = n
  n2 : U.old.length = n
  size : B ≤ w.heap.size

theorem Duo.swap {w0 : World} {B n d u : Nat} {F1 F2 : Nat → Prop} {S U : St} {L1 L2 : Lay} {w : World} (h : Duo w0 B n d u F1 F2 S U L1 L2 w) : Duo w0 B n u d F2 F1 U S L2 L1 w :=
  ⟨h.two, h.one, h.b2, h.b1, fun k h2 h1 => h.apart k h1 h2, h.keeps, h.n2, h.n1, h.size⟩

theorem Duo.kept {w0 : World} {B n d u : Nat} {F1 F2 : Nat → Prop} {S U : St} {L1 L2 : Lay} {w w' : World} (h : Duo w0 B n d u F1 F2 S U L1 L2 w) (k : Keeps (fun _ => False) w w') : Duo w0 B n d u F1 F2 S U L1 L2 w' :=
  ⟨h.one.kept k (by simp), h.two.kept k (by simp), h.b1, h.b2, h.apart, h.keeps.trans (k.mono (by simp)), h.n1, h.n2, Nat.le_trans h.size k.size⟩

theorem Duo.step {w0 : World} {B n d u : Nat} {F1 F2 : Nat → Prop} {S U T : St} {L1 L2 : Lay} {w w' : World} (h : Duo w0 B n d u F1 F2 S U L1 L2 w)
    (hx : ∃ F' L', DevAt w' F' d T L' ∧ Keeps F1 w w' ∧ Fresh F1 F' w) (hl : T.old.length = S.old.length) : ∃ F' L', Duo w0 B n d u F' F2 T U L' L2 w' := by
  obtain ⟨F', L', d1, d2, d3⟩ := hx
  refine ⟨F', L', d1, h.two.kept d2 (fun i hi h1 => h.apart i h1 hi), fun k hk => ?_, h.b2, fun k hk h2 => ?_, h.keeps.trans (d2.mono fun k _ hk => h.b1 k hk), hl.trans h.n1, h.n2, Nat.le_trans h.size d2.size⟩
  · rcases d3 k hk with h6 | h6
    · exact h.b1 k h6
    · have := h.size; omega
  · rcases d3 k hk with h6 | h6
    · exact h.apart k h6 h2
    · have := h.two.fsz k h2; omega

theorem duo_made {w w1 w2 : World} {n d u : Nat} {S U : St} (h1 : Going w w.heap.size d n S w1) (h2 : Going w1 w1.heap.size u n U w2) :
    ∃ F1 L1 F2 L2, Duo w w.heap.size n d u F1 F2 S U L1 L2 w2 := by
  obtain ⟨⟨F1, L1, a1, a2⟩, a3, a4, a5, a6⟩ := h1
  obtain ⟨⟨F2, L2, b1, b2⟩, b3, b4, b5, b6⟩ := h2
  refine ⟨F1, L1, F2, L2, a1.kept b3 (fun i hi h => by have := a1.fsz i hi; omega), b1, a2, fun k hk => Nat.le_trans a6 (b2 k hk), fun k h1 h2 => by have := a1.fsz k h1; have := b2 k h2; omega, a3.trans (b3.mono fun k _ hk => Nat.le_trans a6 hk), a4, b4, Nat.le_trans a6 b6⟩

theorem dead_dev {w : World} {F : Nat → Prop} {d : Nat} {S : St} {L : Lay} (h : DevAt w F d S L) (b : Bool) (hb : (S.armed && (S.left == 0)) = b) :
    Calls Try.prog 33 #[.pointer (some ⟨d, 0, none⟩)] w fun e w' => e = .returned (.bool b) ∧ w' = w := by
  obtain ⟨c0, c1, c2, c3, c4, c5, c6⟩ := dev_cells h.dev
  have := dead_any d _ _ w c4 c5
  rw [hb] at this
  exact this

theorem steps_dev {w : World} {F : Nat → Prop} {d : Nat} {S : St} {L : Lay} (h : DevAt w F d S L) (b : Int) (hb : S.steps = b) :
    Calls Try.prog 18 #[.pointer (some ⟨d, 0, none⟩)] w fun e w' => e = .returned (.int .i64 b) ∧ w' = w := by
  obtain ⟨c0, c1, c2, c3, c4, c5, c6⟩ := dev_cells h.dev
  have := steps_any d _ w c3
  rw [hb] at this
  exact this

/-- The steps that the fuse gives. -/
def fuseOf (left : Int) : Int := (if left < 0 then -(left + 1) else left) % 401

end Go.Proofs.Ytfiekdgpdboolab
