import Derived.Test.YtfiekdgpdboolacN3
import Derived.Test.YtfiekdgpdboolacO1
namespace Go.Proofs.Ytfiekdgpdboolac
open Go.RowKit Go.Maps

/-- What some calls have made of a device. -/
def Moved (F : Nat → Prop) (d : Nat) (w w' : World) (T : St) : Prop := ∃ F' L', DevAt w' F' d T L' ∧ Keeps F w w' ∧ Fresh F F' w

theorem moved_next {F F1 : Nat → Prop} {d : Nat} {w w1 w2 : World} {T : St} (hk : Keeps F w w1) (hf : Fresh F F1 w) (h : Moved F1 d w1 w2 T) : Moved F d w w2 T := by
  obtain ⟨F', L', h1, h2, h3⟩ := h
  refine ⟨F', L', h1, ?_, ?_⟩
  · have a : Keeps (fun k => F k ∨ w.heap.size ≤ k) w w1 := hk.mono fun k _ h => Or.inl h
    have b : Keeps (fun k => F k ∨ w.heap.size ≤ k) w1 w2 := h2.mono fun k _ h => hf k h
    exact (a.trans b).mono fun k hk h => h.resolve_right (by omega)
  · intro k hk'
    rcases h3 k hk' with h | h
    · exact hf k h
    · exact Or.inr (Nat.le_trans hk.size h)

/-- Has its fuse burnt? -/
def St.isDead (S : St) : Bool := S.armed && (S.left == 0)

theorem isDead_yes {S : St} (h : S.isDead = true) : S.armed = true ∧ S.left = 0 := by simpa [St.isDead] using h
theorem isDead_no {S : St} (h : ¬ S.isDead = true) : ¬ (S.armed = true ∧ S.left = 0) := fun ⟨h1, h2⟩ => h (by simp [St.isDead, h1, h2])

/-- Words stored one behind the other, up to the first that is refused; the answer. -/
def runStores (S : St) (at_ : Int) : List Int → Int × St
  | [] => (0, S)
  | v :: l => if S.isDead then (13, S) else runStores (S.store at_ v) (at_ + 8) l

/-- Lines flushed one behind the other, up to the first that is refused; the answer. -/
def runFlushes (S : St) (at_ : Int) : Nat → Int × St
  | 0 => (0, S)
  | k + 1 => if S.isDead then (13, S) else runFlushes (S.flush at_) (at_ + 64) k

theorem runStores_facts (l : List Int) : ∀ (S : St) (a : Int), (runStores S a l).2.old = S.old ∧ (runStores S a l).2.armed = S.armed ∧ (runStores S a l).2.steps ≤ S.steps + l.length ∧ (S.armed = false → (runStores S a l).1 = 0) := by
  induction l with
  | nil => intro S a; exact ⟨rfl, rfl, by simp [runStores], fun _ => rfl⟩
  | cons v l ih =>
    intro S a
    unfold runStores
    split
    · rename_i h
      exact ⟨rfl, rfl, by simp; omega, fun h2 => by have := (isDead_yes h).1; rw [h2] at this; cases this⟩
    · obtain ⟨h1, h2, h3, h4⟩ := ih (S.store a v) (a + 8)
      refine ⟨h1.trans rfl, h2.trans rfl, ?_, fun h => h4 h⟩
      simp only [St.store, St.tick, List.length_cons] at h3 ⊢
      omega

theorem runFlushes_facts (n : Nat) : ∀ (S : St) (a : Int), (runFlushes S a n).2.old = S.old ∧ (runFlushes S a n).2.armed = S.armed ∧ (runFlushes S a n).2.steps ≤ S.steps + n ∧ (S.armed = false → (runFlushes S a n).1 = 0) := by
  induction n with
  | zero => intro S a; exact ⟨rfl, rfl, by simp [runFlushes], fun _ => rfl⟩
  | succ n ih =>
    intro S a
    unfold runFlushes
    split
    · rename_i h
      exact ⟨rfl, rfl, by simp; omega, fun h2 => by have := (isDead_yes h).1; rw [h2] at this; cases this⟩
    · obtain ⟨h1, h2, h3, h4⟩ := ih (S.flush a) (a + 64)
      refine ⟨h1.trans rfl, h2.trans rfl, ?_, fun h => h4 h⟩
      simp only [St.flush, St.flushTo, St.tick] at h3 ⊢
      omega

theorem drop_cons {l : List Int} {k : Nat} (h : k < l.length) : l.drop k = l.getD k 0 :: l.drop (k + 1) := by
  rw [List.drop_eq_getElem_cons h]
  simp [List.getD_eq_getElem?_getD, h]

/-- A list of words that lies in memory. -/
def WordsAt (w : World) (p : Option Addr) (l : List Int) : Prop :=
  0 < l.length → ∃ b o, p = some ⟨b, o, none⟩ ∧ b < w.heap.size ∧ ∀ i, i < l.length →
    w.cell? ⟨b, o + i, none⟩ = some (.int .u64 (l.getD i 0)) ∧ (0 ≤ l.getD i 0 ∧ l.getD i 0 < 18446744073709551616)

theorem WordsAt.kept {w w' : World} {p : Option Addr} {l : List Int} {X : Nat → Prop} (h : WordsAt w p l) (k : Keeps X w w') (hX : ∀ i, X i → w.heap.size ≤ i) : WordsAt w' p l := by
  intro h0
  obtain ⟨b, o, e, hb, hc⟩ := h h0
  have hn : ¬ X b := fun hx => by have := hX b hx; omega
  refine ⟨b, o, e, Nat.lt_of_lt_of_le hb k.size, fun i hi => ?_⟩
  obtain ⟨c1, c4⟩ := hc i hi
  exact ⟨k.cell c1 hn, c4⟩

theorem WordsAt.take {w : World} {p : Option Addr} {l : List Int} (h : WordsAt w p l) (m : Nat) : WordsAt w p (l.take m) := by
  intro h0
  have h1 : 0 < l.length := by rw [List.length_take] at h0; omega
  obtain ⟨b, o, e, hb, hc⟩ := h h1
  refine ⟨b, o, e, hb, fun i hi => ?_⟩
  have hi2 : i < l.length ∧ i < m := by rw [List.length_take] at hi; omega
  have e2 : (l.take m).getD i 0 = l.getD i 0 := by
    simp [List.getD_eq_getElem?_getD, hi2.2]
  rw [e2]
  exact hc i hi2.1

end Go.Proofs.Ytfiekdgpdboolac
