import Derived.Test.YtfiekdgpdboolabA5
namespace Go.Proofs.Ytfiekdgpdboolab
open Go.RowKit Go.Maps

/-- What a device is: its durable bytes, each word's news and mark, its steps and its fuse. -/
structure St where
  old : List Int
  pd : Int → List Int
  ms : Int → Nat
  steps : Int
  armed : Bool
  left : Int

/-- Where its parts lie. -/
structure Lay where
  ob : Nat
  bm : Nat
  nn : Nat
  room : Int
  D : DataW Unit
  pp : Int → Nat
  gg : Int → Nat
  cp : Int → Nat

def u8s (l : List Int) : List Value := l.map (Value.int .u8)
def u64s (l : List Int) : List Value := l.map (Value.int .u64)

/-- The slice of a word's news. -/
abbrev Lay.sl (L : Lay) (S : St) (a : Int) : Value := .slice (some ⟨L.gg a, 0, none⟩) (S.pd a).length (L.cp a)

structure DevAt (w : World) (F : Nat → Prop) (d : Nat) (S : St) (L : Lay) : Prop where
  dev : w.heap[d]? = some (devCells (.slice (some ⟨L.ob, 0, none⟩) S.old.length S.old.length) (.map (some L.bm)) L.room S.steps S.armed S.left)
  bytes : w.heap[L.ob]? = some (.cells (u8s S.old).toArray 5 (0, 0))
  hmap : w.ownsMap Try.prog 3 ptrElem L.bm L.nn L.D
  hD : ∀ a z, L.D.atKey (.int .i64 a) z = if S.pd a = [] then z else .lit (.int .i64 (L.pp a))
  pend : ∀ a, S.pd a ≠ [] → w.heap[L.pp a]? = some (pendCells (L.sl S a) (S.ms a)) ∧ w.ownsRow 0 47 1 (L.sl S a) (S.pd a).length (u64s (S.pd a))
  marks : ∀ a, S.ms a ≤ (S.pd a).length
  injp : ∀ a b, S.pd a ≠ [] → S.pd b ≠ [] → L.pp a = L.pp b → a = b
  injg : ∀ a b, S.pd a ≠ [] → S.pd b ≠ [] → L.gg a = L.gg b → a = b
  dom : ∀ a, S.pd a ≠ [] → 0 ≤ a ∧ a + 8 ≤ S.old.length ∧ a % 8 = 0
  vals : ∀ a v, v ∈ S.pd a → 0 ≤ v ∧ v < 18446744073709551616
  byts : ∀ b ∈ S.old, 0 ≤ b ∧ b ≤ 255
  lens : ∀ a, ((S.pd a).length : Int) ≤ S.steps
  nns : (L.nn : Int) ≤ S.steps
  rooms : 0 ≤ L.room ∧ L.room ≤ S.steps
  lefts : 0 ≤ S.left ∧ S.left ≤ 9223372036854775807
  size : S.old.length ≤ 524288
  fd : F d
  fo : F L.ob
  fm : F L.bm
  fp : ∀ a, S.pd a ≠ [] → F (L.pp a) ∧ F (L.gg a)
  fsz : ∀ k, F k → k < w.heap.size

theorem DevAt.nonneg {w : World} {F : Nat → Prop} {d : Nat} {S : St} {L : Lay} (h : DevAt w F d S L) : 0 ≤ S.steps := by have := h.nns; omega

/-- The same device in a world where none of its blocks has turned. -/
theorem DevAt.kept {w w' : World} {F X : Nat → Prop} {d : Nat} {S : St} {L : Lay} (h : DevAt w F d S L) (k : Keeps X w w') (hX : ∀ i, F i → ¬ X i) : DevAt w' F d S L := {
  dev := (k.block d (Array.getElem?_eq_some_iff.1 h.dev).1 (hX _ h.fd)).trans h.dev
  bytes := (k.block _ (Array.getElem?_eq_some_iff.1 h.bytes).1 (hX _ h.fo)).trans h.bytes
  hmap := k.map h.hmap (hX _ h.fm)
  hD := h.hD
  pend a ha := ⟨(k.block _ (Array.getElem?_eq_some_iff.1 (h.pend a ha).1).1 (hX _ (h.fp a ha).1)).trans (h.pend a ha).1,
    k.row (h.pend a ha).2 (fun g hg => by simp [Value.ownBlock] at hg; subst hg; exact hX _ (h.fp a ha).2)⟩
  marks := h.marks
  injp := h.injp
  injg := h.injg
  dom := h.dom
  vals := h.vals
  byts := h.byts
  lens := h.lens
  nns := h.nns
  rooms := h.rooms
  lefts := h.lefts
  size := h.size
  fd := h.fd
  fo := h.fo
  fm := h.fm
  fp := h.fp
  fsz i hi := Nat.lt_of_lt_of_le (h.fsz i hi) k.size }

/-- Of two worlds with one heap. -/
theorem DevAt.heap {w w' : World} {F : Nat → Prop} {d : Nat} {S : St} {L : Lay} (h : DevAt w F d S L) (e : w'.heap = w.heap) : DevAt w' F d S L :=
  ⟨by rw [e]; exact h.dev, by rw [e]; exact h.bytes, by obtain ⟨es, cl, hb, r⟩ := h.hmap; exact ⟨es, cl, by rw [e]; exact hb, r⟩, h.hD,
   fun a ha => ⟨by rw [e]; exact (h.pend a ha).1, by
     obtain ⟨h1, h2⟩ := (h.pend a ha).2
     refine ⟨h1, ?_⟩
     rcases h2 with h2 | ⟨g, cap, cur, hv, hg, hh, r⟩
     · exact Or.inl h2
     · exact Or.inr ⟨g, cap, cur, hv, hg, by rw [e]; exact hh, r⟩⟩,
   h.marks, h.injp, h.injg, h.dom, h.vals, h.byts, h.lens, h.nns, h.rooms, h.lefts, h.size, h.fd, h.fo, h.fm, h.fp, by rw [e]; exact h.fsz⟩

section
variable {w : World} {F : Nat → Prop} {d : Nat} {S : St} {L : Lay}

theorem DevAt.d_ne_ob (h : DevAt w F d S L) : L.ob ≠ d := by
  intro e; have h1 := h.bytes; rw [e, h.dev] at h1; simp [devCells] at h1
theorem DevAt.d_ne_bm (h : DevAt w F d S L) : L.bm ≠ d := by
  intro e; obtain ⟨es, cl, hb, _⟩ := h.hmap; rw [e, h.dev] at hb; simp [devCells] at hb
theorem DevAt.ob_ne_bm (h : DevAt w F d S L) : L.bm ≠ L.ob := by
  intro e; obtain ⟨es, cl, hb, _⟩ := h.hmap; rw [e, h.bytes] at hb; simp at hb
theorem DevAt.p_ne_d (h : DevAt w F d S L) {a : Int} (ha : S.pd a ≠ []) : L.pp a ≠ d := by
  intro e; have h1 := (h.pend a ha).1; rw [e, h.dev] at h1; simp [devCells, pendCells] at h1
theorem DevAt.p_ne_ob (h : DevAt w F d S L) {a : Int} (ha : S.pd a ≠ []) : L.pp a ≠ L.ob := by
  intro e; have h1 := (h.pend a ha).1; rw [e, h.bytes] at h1; simp [pendCells] at h1
theorem DevAt.p_ne_bm (h : DevAt w F d S L) {a : Int} (ha : S.pd a ≠ []) : L.pp a ≠ L.bm := by
  intro e; obtain ⟨es, cl, hb, _⟩ := h.hmap; have h1 := (h.pend a ha).1; rw [e, hb] at h1; simp [pendCells] at h1
theorem DevAt.g_ne_d (h : DevAt w F d S L) {a : Int} (ha : S.pd a ≠ []) : L.gg a ≠ d := row_ne (h.pend a ha).2 h.dev (by decide)
theorem DevAt.g_ne_ob (h : DevAt w F d S L) {a : Int} (ha : S.pd a ≠ []) : L.gg a ≠ L.ob := row_ne (h.pend a ha).2 h.bytes (by decide)
theorem DevAt.g_ne_bm (h : DevAt w F d S L) {a : Int} (ha : S.pd a ≠ []) : L.gg a ≠ L.bm := row_ne_map (h.pend a ha).2 h.hmap
theorem DevAt.g_ne_p (h : DevAt w F d S L) {a b : Int} (ha : S.pd a ≠ []) (hb : S.pd b ≠ []) : L.gg a ≠ L.pp b := row_ne (h.pend a ha).2 (h.pend b hb).1 (by decide)
theorem DevAt.at_some (h : DevAt w F d S L) {a : Int} (ha : S.pd a ≠ []) : ∀ z, L.D.atKey (.int .i64 a) z = .lit (.int .i64 (L.pp a)) := fun z => by rw [h.hD, if_neg ha]
theorem DevAt.at_none (h : DevAt w F d S L) {a : Int} (ha : S.pd a = []) : ∀ z, L.D.atKey (.int .i64 a) z = z := fun z => by rw [h.hD, if_pos ha]

/-- The mark of a word in doubt is set. -/
theorem DevAt.setMark (h : DevAt w F d S L) {a : Int} (ha : S.pd a ≠ []) (m : Nat) (hm : m ≤ (S.pd a).length) :
    DevAt (w.setCell ⟨L.pp a, 1, none⟩ (.int .i64 m)) F d { S with ms := fun x => if x = a then m else S.ms x } L := {
  dev := by rw [Below.heap_setCell _ _ _ _ (Ne.symm (h.p_ne_d ha))]; exact h.dev
  bytes := by rw [Below.heap_setCell _ _ _ _ (Ne.symm (h.p_ne_ob ha))]; exact h.bytes
  hmap := h.hmap.kept (grownBy_setCell w ⟨L.pp a, 1, none⟩ _) (by simpa using Ne.symm (h.p_ne_bm ha))
  hD := h.hD
  pend b hb := by
    refine ⟨?_, (h.pend b hb).2.kept (grownBy_setCell w ⟨L.pp a, 1, none⟩ _) (Or.inr (by simpa [Value.ownBlock] using h.g_ne_p hb ha))⟩
    by_cases hba : b = a
    · subst hba
      have := setCell_block (a := ⟨L.pp b, 1, none⟩) (v := .int .i64 m) (h.pend b hb).1 rfl
      simpa [pendCells] using this
    · rw [Below.heap_setCell _ _ _ _ (fun e => hba (h.injp b a hb ha e))]
      simpa [hba] using (h.pend b hb).1
  marks b := by
    by_cases hba : b = a
    · subst hba; simpa using hm
    · simpa [hba] using h.marks b
  injp := h.injp
  injg := h.injg
  dom := h.dom
  vals := h.vals
  byts := h.byts
  lens := h.lens
  nns := h.nns
  rooms := h.rooms
  lefts := h.lefts
  size := h.size
  fd := h.fd
  fo := h.fo
  fm := h.fm
  fp := h.fp
  fsz i hi := by have := h.fsz i hi; simpa [World.setCell] using this }

/-- A step is counted. -/
theorem DevAt.ticked {w' : World} (h : DevAt w F d S L) (hd : w'.heap[d]? = some (devCells (.slice (some ⟨L.ob, 0, none⟩) S.old.length S.old.length) (.map (some L.bm)) L.room (S.steps + 1) S.armed (tick S.armed S.left))) (hg : w.grownBy w' (some d))
    (live : ¬ (S.armed = true ∧ S.left = 0)) : DevAt w' F d { S with steps := S.steps + 1, left := tick S.armed S.left } L := {
  dev := hd
  bytes := (hg.block _ (Array.getElem?_eq_some_iff.1 h.bytes).1 (by simpa using h.d_ne_ob)).trans h.bytes
  hmap := h.hmap.kept hg (by simpa using h.d_ne_bm)
  hD := h.hD
  pend a ha := ⟨(hg.block _ (Array.getElem?_eq_some_iff.1 (h.pend a ha).1).1 (by simpa using h.p_ne_d ha)).trans (h.pend a ha).1,
    (h.pend a ha).2.kept hg (Or.inr (by simpa [Value.ownBlock] using h.g_ne_d ha))⟩
  marks := h.marks
  injp := h.injp
  injg := h.injg
  dom := h.dom
  vals := h.vals
  byts := h.byts
  lens a := by have := h.lens a; simp only; omega
  nns := by have := h.nns; simp only; omega
  rooms := by have := h.rooms; simp only; omega
  lefts := by
    have := h.lefts
    simp only [tick]
    split
    · rename_i ha; simp [ha] at live; omega
    · exact this
  size := h.size
  fd := h.fd
  fo := h.fo
  fm := h.fm
  fp := h.fp
  fsz i hi := Nat.lt_of_lt_of_le (h.fsz i hi) hg.size }
end

end Go.Proofs.Ytfiekdgpdboolab
