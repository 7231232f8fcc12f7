import Derived.Test.YtfiekdgpdboolabD3
import Derived.Test.YtfiekdgpdboolabC2
namespace Go.Proofs.Ytfiekdgpdboolab
open Go.RowKit Go.Maps

/-- The word at a is durable and has the value v. -/
def Holds (S : St) (a : Nat) (v : Int) : Prop := S.pd a = [] ∧ wordAt S.old a = v

theorem wordAt_congr {bs cs : List Int} {a : Nat} (h : ∀ i, i < 8 → bs.getD (a + i) 0 = cs.getD (a + i) 0) : wordAt bs a = wordAt cs a := gsum_congr h

theorem flush_ms (S : St) (a : Int) : (S.flush a).ms a = (S.pd a).length := by
  unfold St.flush St.flushTo
  simp only [St.tick]
  rw [if_pos (by omega)]

theorem settled_word (S : St) (a : Nat) (v : Int) (h1 : a + 8 ≤ S.old.length) (h8 : a % 8 = 0) (hv : 0 ≤ v ∧ v < 18446744073709551616) (hp : S.pd a ≠ []) (hl : (S.pd a).getD ((S.pd a).length - 1) 0 = v) (hm : S.ms a = (S.pd a).length) :
    Holds S.fence a v := by
  constructor
  · simp [St.fence, St.fenced, St.tick, hm]
  · unfold wordAt
    conv => rhs; rw [← gsum_bytes hv]
    apply gsum_congr
    intro i hi
    have hlen : 0 < (S.pd (a : Int)).length := by
      rcases h : S.pd (a : Int) with _ | ⟨x, l⟩
      · exact absurd h hp
      · simp
    have e1 : S.fence.old.getD (a + i) 0 = S.tick.byteIn (fun _ => false) (a + i) := fenced_get S.tick _ _ (by simp only [St.tick]; omega)
    rw [e1]
    have e2 : 8 * ((a + i) / 8) = a := by omega
    have e3 : (a + i) % 8 = i := by omega
    simp only [St.byteIn, e2, e3, St.tick]
    rw [if_pos ⟨trivial, by rw [hm]; exact hlen⟩, hm, hl]

theorem fenced_holds (S : St) (a : Nat) (v : Int) (h1 : a + 8 ≤ S.old.length) (h8 : a % 8 = 0) (hv : 0 ≤ v ∧ v < 18446744073709551616) : Holds ((S.store a v).flush a).fence a v := by
  refine settled_word _ a v ?_ h8 hv ?_ ?_ ?_
  · exact h1
  · simp [St.flush, St.flushTo, St.tick, St.store]
  · simp [St.flush, St.flushTo, St.tick, St.store, List.getD_eq_getElem?_getD]
  · exact flush_ms _ _

theorem fence_holds (S : St) (a : Nat) (v : Int) (h1 : a + 8 ≤ S.old.length) (h8 : a % 8 = 0) (hm : S.ms a ≤ (S.pd a).length) (h : Holds S a v) : Holds S.fence a v := by
  obtain ⟨hp, hw⟩ := h
  have hm0 : S.ms (a : Int) = 0 := by rw [hp] at hm; simpa using hm
  constructor
  · simp [St.fence, St.fenced, St.tick, hp]
  · rw [← hw]
    apply wordAt_congr
    intro i hi
    have e1 : S.fence.old.getD (a + i) 0 = S.tick.byteIn (fun _ => false) (a + i) := fenced_get S.tick _ _ (by simp only [St.tick]; omega)
    rw [e1]
    have e2 : 8 * ((a + i) / 8) = a := by omega
    simp only [St.byteIn, e2, St.tick]
    rw [if_neg (by rw [hm0]; simp)]

theorem note_holds (S : St) (k b x : Int) (n a : Nat) (v : Int) (h1 : a + 8 ≤ S.old.length) (h8 : a % 8 = 0) (hm : S.ms a ≤ (S.pd a).length) (hne : ¬ (k = 1 ∧ wordOf b n = a)) (h : Holds S a v) : Holds (S.note k b x n) a v := by
  unfold St.note
  split
  · rename_i hk
    have : (a : Int) ≠ wordOf b n := fun e => hne ⟨hk, e.symm⟩
    exact ⟨by simp [St.store, this, h.1], h.2⟩
  · split
    · exact ⟨h.1, h.2⟩
    · exact fence_holds S a v h1 h8 hm h

theorem crash_word {w : World} {F : Nat → Prop} {d : Nat} {S : St} {L : Lay} (hd : DevAt w F d S L) (a : Nat) (v : Int) (h8 : a % 8 = 0) (h : Holds S a v) (ks cs : List Int) (hR : Rising S ks) : wordAt (S.crash ks cs) a = v := by
  have key : ∀ (l : List (Int × Int)) (bs : List Int), bs.length = S.old.length → (∀ x ∈ l, x.1 ∈ ks) → wordAt (l.foldl S.pick bs) a = wordAt bs a := by
    intro l
    induction l with
    | nil => intro bs _ _; rfl
    | cons x l ih =>
      intro bs hbs hl
      have hx := (hR.2 x.1).1 (hl x (by simp))
      have hdom := hd.dom x.1 hx
      rw [List.foldl_cons, ih _ ((pick_len hdom.1 (by omega)).trans hbs) (fun y hy => hl y (by simp [hy]))]
      unfold St.pick
      split
      · have hne : x.1 ≠ (a : Int) := fun e => hx (by rw [e]; exact h.1)
        exact wordAt_other _ _ _ _ (by omega) (by omega)
      · rfl
  rw [← h.2]
  exact key _ _ rfl (fun x hx => (List.of_mem_zip hx).1)

theorem crash_len {w : World} {F : Nat → Prop} {d : Nat} {S : St} {L : Lay} (hd : DevAt w F d S L) (ks cs : List Int) (hR : Rising S ks) : (S.crash ks cs).length = S.old.length ∧ ∀ b ∈ S.crash ks cs, 0 ≤ b ∧ b ≤ 255 := by
  refine ⟨fold_len _ _ _ rfl ?_, fold_byts _ _ hd.byts⟩
  intro x hx
  have := hd.dom x.1 ((hR.2 _).1 (List.of_mem_zip hx).1)
  exact ⟨this.1, this.2.1⟩

end Go.Proofs.Ytfiekdgpdboolab
