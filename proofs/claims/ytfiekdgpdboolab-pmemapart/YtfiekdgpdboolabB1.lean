import Derived.Test.YtfiekdgpdboolabA9
import Derived.Test.YtfiekdgpdboolabA6
namespace Go.Proofs.Ytfiekdgpdboolab
open Go.RowKit Go.Maps

/-- A word's bytes laid over bytes. -/
def layB (old : List Int) (a : Nat) (v : Int) : List Int := splice old a ((List.range 8).map (byteOf v))

theorem layB_len (old : List Int) (a : Nat) (v : Int) (h : a + 8 ≤ old.length) : (layB old a v).length = old.length := length_splice _ _ _ (by simpa using h)

theorem u8s_layB (old : List Int) (a : Nat) (v : Int) : u8s (layB old a v) = splice (u8s old) a (wordCells v) := by
  simp [u8s, layB, splice, wordCells, List.map_take, List.map_drop, Function.comp_def]

theorem splice_get {α : Type} (L cs : List α) (a i : Nat) (z : α) (h : a + cs.length ≤ L.length) : (splice L a cs).getD i z = if a ≤ i ∧ i < a + cs.length then cs.getD (i - a) z else L.getD i z := by
  unfold splice
  simp only [List.getD_eq_getElem?_getD]
  by_cases h1 : i < a
  · rw [List.getElem?_append_left (by simp; omega), List.getElem?_take_of_lt h1, if_neg (by omega)]
  · rw [List.getElem?_append_right (by simp; omega)]
    have e1 : (List.take a L).length = a := by simp; omega
    rw [e1]
    by_cases h2 : i < a + cs.length
    · rw [List.getElem?_append_left (by omega), if_pos (by omega)]
    · rw [List.getElem?_append_right (by omega), if_neg (by omega), List.getElem?_drop]
      congr 2; omega

theorem layB_get (old : List Int) (a i : Nat) (v : Int) (h : a + 8 ≤ old.length) : (layB old a v).getD i 0 = if a ≤ i ∧ i < a + 8 then byteOf v (i - a) else old.getD i 0 := by
  unfold layB
  rw [splice_get _ _ _ _ _ (by simpa using h)]
  simp only [List.length_map, List.length_range]
  split
  · rename_i h1
    have h2 : i - a < 8 := by omega
    simp [List.getD_eq_getElem?_getD, h2]
  · rfl

theorem layB_mem (old : List Int) (a : Nat) (v : Int) (h : ∀ b ∈ old, 0 ≤ b ∧ b ≤ 255) : ∀ b ∈ layB old a v, 0 ≤ b ∧ b ≤ 255 := by
  intro b hb
  simp only [layB, splice, List.mem_append, List.mem_map] at hb
  rcases hb with hb | ⟨i, _, rfl⟩ | hb
  · exact h b (List.mem_of_mem_take hb)
  · exact byteOf_bd v i
  · exact h b (List.mem_of_mem_drop hb)

theorem list_eq_getD {α : Type} {l m : List α} (z : α) (hl : l.length = m.length) (h : ∀ i, i < l.length → l.getD i z = m.getD i z) : l = m := by
  apply List.ext_getElem hl
  intro i h1 h2
  have := h i h1
  simpa [List.getD_eq_getElem?_getD, List.getElem?_eq_getElem h1, List.getElem?_eq_getElem h2] using this

/-- One word's marked news become durable. -/
def St.settle (S : St) (a : Int) : St := { S with old := layB S.old a.toNat ((S.pd a).getD (S.ms a - 1) 0), pd := upd S.pd a ((S.pd a).drop (S.ms a)), ms := upd S.ms a 0 }

/-- The byte that word number i / 8 has behind a Fence that has passed all words but those of T. -/
def St.byteIn (S : St) (T : Int → Bool) (i : Nat) : Int :=
  if T (8 * (i / 8) : Nat) = false ∧ 0 < S.ms (8 * (i / 8) : Nat) then byteOf ((S.pd (8 * (i / 8) : Nat)).getD (S.ms (8 * (i / 8) : Nat) - 1) 0) (i % 8) else S.old.getD i 0

/-- A Fence that has passed all words but those of T. -/
def St.fenced (S : St) (T : Int → Bool) : St :=
  { S with old := (List.range S.old.length).map (S.byteIn T), pd := fun a => if T a then S.pd a else (S.pd a).drop (S.ms a), ms := fun a => if T a then S.ms a else 0 }

theorem fenced_len (S : St) (T : Int → Bool) : (S.fenced T).old.length = S.old.length := by simp [St.fenced]

theorem fenced_get (S : St) (T : Int → Bool) (i : Nat) (hi : i < S.old.length) : (S.fenced T).old.getD i 0 = S.byteIn T i := by
  simp [St.fenced, List.getD_eq_getElem?_getD, hi]

def less (T : Int → Bool) (a : Int) : Int → Bool := fun x => T x && decide (x ≠ a)

theorem fenced_settle (S : St) (T : Int → Bool) (a : Int) (hT : T a = true) (hm : 0 < S.ms a) (h0 : 0 ≤ a) (h1 : a + 8 ≤ S.old.length) (h8 : a % 8 = 0) :
    (S.fenced T).settle a = S.fenced (less T a) := by
  have e1 : (S.fenced T).pd a = S.pd a := by simp [St.fenced, hT]
  have e2 : (S.fenced T).ms a = S.ms a := by simp [St.fenced, hT]
  have ea : ((a.toNat : Nat) : Int) = a := by omega
  have eo : layB (S.fenced T).old a.toNat ((S.pd a).getD (S.ms a - 1) 0) = (S.fenced (less T a)).old := by
    apply list_eq_getD 0
    · rw [layB_len _ _ _ (by rw [fenced_len]; omega), fenced_len, fenced_len]
    · intro i hi
      rw [layB_len _ _ _ (by rw [fenced_len]; omega), fenced_len] at hi
      rw [layB_get _ _ _ _ (by rw [fenced_len]; omega), fenced_get _ _ _ hi, fenced_get _ _ _ hi]
      by_cases hc : a.toNat ≤ i ∧ i < a.toNat + 8
      · rw [if_pos hc]
        have e3 : ((8 * (i / 8) : Nat) : Int) = a := by omega
        have e4 : i % 8 = i - a.toNat := by omega
        simp only [St.byteIn, e3, less, e4]
        rw [if_pos ⟨by simp, hm⟩]
      · rw [if_neg hc]
        have e3 : ((8 * (i / 8) : Nat) : Int) ≠ a := by omega
        simp only [St.byteIn, less]
        simp only [decide_eq_true e3, Bool.and_true]
  unfold St.settle
  rw [e1, e2, eo]
  simp only [St.fenced, St.mk.injEq, true_and, and_true]
  constructor
  · funext x
    by_cases hx : x = a
    · subst hx; simp [upd, less]
    · simp [upd, less, hx]
  · funext x
    by_cases hx : x = a
    · subst hx; simp [upd, less]
    · simp [upd, less, hx]

theorem fenced_skip (S : St) (T : Int → Bool) (a : Int) (hm : S.ms a = 0) : S.fenced (less T a) = S.fenced T := by
  simp only [St.fenced, St.mk.injEq, and_true]
  refine ⟨?_, ?_, ?_⟩
  · congr 1
    funext i
    simp only [St.byteIn, less]
    by_cases e3 : ((8 * (i / 8) : Nat) : Int) = a
    · rw [e3, hm]; simp
    · simp only [ne_eq, e3, not_false_eq_true, Bool.and_true, decide_true]
  · funext x
    by_cases hx : x = a
    · subst hx; simp [less, hm]
    · simp [less, hx]
  · funext x
    by_cases hx : x = a
    · subst hx; simp [less, hm]
    · simp [less, hx]

theorem fenced_start (S : St) (T : Int → Bool) (hT : ∀ a, T a = false → S.pd a = []) (hm : ∀ a, S.ms a ≤ (S.pd a).length) : S.fenced T = S := by
  have h0 : ∀ a, T a = false → S.ms a = 0 := fun a ha => by have := hm a; rw [hT a ha] at this; simpa using this
  have eo : (List.range S.old.length).map (S.byteIn T) = S.old := by
    apply list_eq_getD 0
    · simp
    · intro i hi
      simp only [List.length_map, List.length_range] at hi
      simp only [List.getD_eq_getElem?_getD, List.getElem?_map, List.getElem?_range hi, Option.map_some, Option.getD_some, St.byteIn]
      rw [if_neg]
      intro h
      have := h0 _ h.1
      omega
  have ep : (fun a => if T a then S.pd a else (S.pd a).drop (S.ms a)) = S.pd := by
    funext a
    by_cases ha : T a = true
    · simp [ha]
    · simp only [Bool.not_eq_true] at ha; simp [ha, hT a ha]
  have em : (fun a => if T a then S.ms a else 0) = S.ms := by
    funext a
    by_cases ha : T a = true
    · simp [ha]
    · simp only [Bool.not_eq_true] at ha; simp [ha, h0 a ha]
  unfold St.fenced
  rw [eo, ep, em]

theorem fenced_congr (S : St) (T T' : Int → Bool) (h : ∀ a, T a = T' a) : S.fenced T = S.fenced T' := by
  rw [show T = T' from funext h]

/-- Behind the step that makes one word durable the device is the settled one. -/
theorem DevAt.settled {w w' : World} {F : Nat → Prop} {d : Nat} {S : St} {L : Lay} (h : DevAt w F d S L) (a : Int) (ha : S.pd a ≠ []) (hm : 0 < S.ms a) (D' : DataW Unit)
    (hk : Keeps (fun i => i = L.ob ∨ i = L.pp a ∨ i = L.gg a ∨ i = L.bm) w w')
    (hob : w'.heap[L.ob]? = some (.cells (splice (u8s S.old) a.toNat (wordCells ((S.pd a).getD (S.ms a - 1) 0))).toArray 5 (0, 0)))
    (hp : w'.heap[L.pp a]? = some (pendCells (.slice (some ⟨L.gg a, 0, none⟩) ((S.pd a).length - S.ms a) (L.cp a)) 0))
    (hrow : w'.ownsRow 0 47 1 (.slice (some ⟨L.gg a, 0, none⟩) ((S.pd a).length - S.ms a) (L.cp a)) ((S.pd a).length - S.ms a) (u64s ((S.pd a).drop (S.ms a))))
    (hmap : w'.ownsMap Try.prog 3 ptrElem L.bm L.nn D') (hD : ∀ b z, D'.atKey (.int .i64 b) z = if b = a ∧ (S.pd a).drop (S.ms a) = [] then z else L.D.atKey (.int .i64 b) z) :
    DevAt w' F d (S.settle a) { L with D := D' } := {
  dev := by
    have e1 : (S.settle a).old.length = S.old.length := layB_len _ _ _ (by have := h.dom a ha; omega)
    rw [e1]
    exact (hk.block d (heap_lt h.dev) (by simp [Ne.symm h.d_ne_ob, Ne.symm (h.p_ne_d ha), Ne.symm (h.g_ne_d ha), Ne.symm h.d_ne_bm])).trans h.dev
  bytes := by rw [hob]; simp [St.settle, u8s_layB]
  hmap := hmap
  hD := fun b z => by
    rw [hD, h.hD]
    by_cases hb : b = a
    · subst hb
      simp only [St.settle, upd, true_and, if_pos, if_neg ha]
    · simp [St.settle, upd, hb]
  pend := fun b hb => by
    by_cases hba : b = a
    · subst hba
      simp only [St.settle, upd, if_pos, Lay.sl, List.length_drop]
      exact ⟨by simpa using hp, hrow⟩
    · simp only [St.settle, upd, if_neg hba] at hb
      have e1 : L.pp b ≠ L.pp a := fun e => hba (h.injp b a hb ha e)
      have e2 : L.gg b ≠ L.gg a := fun e => hba (h.injg b a hb ha e)
      have r1 := (hk.block _ (heap_lt (h.pend b hb).1) (by simp [h.p_ne_ob hb, e1, Ne.symm (h.g_ne_p ha hb), h.p_ne_bm hb])).trans (h.pend b hb).1
      have r2 := hk.row (h.pend b hb).2 (fun g' hg' => by simp [Value.ownBlock] at hg'; subst hg'; simp [h.g_ne_ob hb, h.g_ne_p hb ha, e2, h.g_ne_bm hb])
      simpa only [St.settle, upd, if_neg hba, Lay.sl] using And.intro r1 r2
  marks := fun b => by
    by_cases hba : b = a
    · subst hba; simp [St.settle, upd]
    · simpa [St.settle, upd, hba] using h.marks b
  injp := fun b c hb hc => by
    have sub : ∀ x, (S.settle a).pd x ≠ [] → S.pd x ≠ [] := fun x hx => by
      by_cases hxa : x = a
      · rw [hxa]; exact ha
      · simpa [St.settle, upd, hxa] using hx
    exact h.injp b c (sub b hb) (sub c hc)
  injg := fun b c hb hc => by
    have sub : ∀ x, (S.settle a).pd x ≠ [] → S.pd x ≠ [] := fun x hx => by
      by_cases hxa : x = a
      · rw [hxa]; exact ha
      · simpa [St.settle, upd, hxa] using hx
    exact h.injg b c (sub b hb) (sub c hc)
  dom := fun b hb => by
    have e1 : (S.settle a).old.length = S.old.length := layB_len _ _ _ (by have := h.dom a ha; omega)
    rw [e1]
    by_cases hba : b = a
    · rw [hba]; exact h.dom a ha
    · exact h.dom b (by simpa [St.settle, upd, hba] using hb)
  vals := fun b x hx => by
    by_cases hba : b = a
    · subst hba; simp only [St.settle, upd, if_pos] at hx; exact h.vals b x (List.mem_of_mem_drop hx)
    · exact h.vals b x (by simpa [St.settle, upd, hba] using hx)
  byts := layB_mem _ _ _ h.byts
  lens := fun b => by
    have := h.lens b
    by_cases hba : b = a
    · subst hba; simp [St.settle, upd]; omega
    · simpa [St.settle, upd, hba] using this
  nns := h.nns
  rooms := h.rooms
  lefts := h.lefts
  size := by
    have e1 : (S.settle a).old.length = S.old.length := layB_len _ _ _ (by have := h.dom a ha; omega)
    rw [e1]; exact h.size
  fd := h.fd
  fo := h.fo
  fm := h.fm
  fp := fun b hb => h.fp b (by
    by_cases hxa : b = a
    · rw [hxa]; exact ha
    · simpa [St.settle, upd, hxa] using hb)
  fsz := fun i hi => Nat.lt_of_lt_of_le (h.fsz i hi) hk.size }

end Go.Proofs.Ytfiekdgpdboolab
