import Derived.Test.YtfiekdgpdboolabA8
namespace Go.Proofs.Ytfiekdgpdboolab
open Go.RowKit Go.Maps

/-- What a Store leaves. -/
def St.store (S : St) (at_ v : Int) : St := { S.tick with pd := fun x => if x = at_ then S.pd at_ ++ [v] else S.pd x }

/-- What belongs to the device has grown by new blocks alone. -/
def Fresh (F F' : Nat → Prop) (w : World) : Prop := ∀ k, F' k → F k ∨ w.heap.size ≤ k

def upd {α : Type} (f : Int → α) (a : Int) (v : α) : Int → α := fun x => if x = a then v else f x
theorem upd_same {α : Type} (f : Int → α) (a : Int) (v : α) : upd f a v a = v := if_pos rfl
theorem upd_ne {α : Type} (f : Int → α) {a b : Int} (v : α) (h : b ≠ a) : upd f a v b = f b := if_neg h

theorem isKey_int (a : Int) : WideAt.IsKeyLit (.int .i64 a) := by trivial

theorem heap_lt {w : World} {i : Nat} {o : Obj} (hh : w.heap[i]? = some o) : i < w.heap.size := (Array.getElem?_eq_some_iff.1 hh).1

theorem tick_left {ar : Bool} {lf : Int} (h : 0 ≤ lf ∧ lf ≤ 9223372036854775807) (live : ¬ (ar = true ∧ lf = 0)) : 0 ≤ tick ar lf ∧ tick ar lf ≤ 9223372036854775807 := by
  unfold tick
  split
  · rename_i ha; simp [ha] at live; omega
  · exact h

theorem DevAt.stored {w w' : World} {F : Nat → Prop} {d : Nat} {S : St} {L : Lay} (h : DevAt w F d S L) (at_ v : Int) (h0 : 0 ≤ at_) (h1 : at_ + 8 ≤ S.old.length) (h8 : at_ % 8 = 0) (hv : 0 ≤ v ∧ v < 18446744073709551616)
    (live : ¬ (S.armed = true ∧ S.left = 0)) (p g gc nn' : Nat) (D' : DataW Unit)
    (hd : w'.heap[d]? = some (devCells (.slice (some ⟨L.ob, 0, none⟩) S.old.length S.old.length) (.map (some L.bm)) L.room (S.steps + 1) S.armed (tick S.armed S.left)))
    (hbytes : w'.heap[L.ob]? = w.heap[L.ob]?) (hmap : w'.ownsMap Try.prog 3 ptrElem L.bm nn' D') (hD : ∀ a z, D'.atKey (.int .i64 a) z = if a = at_ then .lit (.int .i64 p) else L.D.atKey (.int .i64 a) z)
    (hkeep : ∀ a, a ≠ at_ → S.pd a ≠ [] → w'.heap[L.pp a]? = some (pendCells (L.sl S a) (S.ms a)) ∧ w'.ownsRow 0 47 1 (L.sl S a) (S.pd a).length (u64s (S.pd a)))
    (hpn : w'.heap[p]? = some (pendCells (.slice (some ⟨g, 0, none⟩) ((S.pd at_).length + 1) gc) (S.ms at_))) (hrow : w'.ownsRow 0 47 1 (.slice (some ⟨g, 0, none⟩) ((S.pd at_).length + 1) gc) ((S.pd at_).length + 1) (u64s (S.pd at_ ++ [v])))
    (hpi : ∀ b, b ≠ at_ → S.pd b ≠ [] → L.pp b ≠ p) (hgi : ∀ b, b ≠ at_ → S.pd b ≠ [] → L.gg b ≠ g) (hnn : (nn' : Int) ≤ S.steps + 1) (hszs : w.heap.size ≤ w'.heap.size) :
    DevAt w' (fun k => F k ∨ k = p ∨ k = g) d (S.store at_ v) { L with nn := nn', D := D', pp := upd L.pp at_ p, gg := upd L.gg at_ g, cp := upd L.cp at_ gc } := {
  dev := hd
  bytes := hbytes.trans h.bytes
  hmap := hmap
  hD := fun a z => by
    by_cases ha : a = at_
    · subst ha
      rw [hD, if_pos rfl]
      simp [St.store, upd]
    · rw [hD, if_neg ha, h.hD]
      simp [St.store, upd, ha, St.tick]
  pend := fun a ha => by
    by_cases hat : a = at_
    · subst hat
      simp only [St.store, upd, Lay.sl, St.tick]
      exact ⟨by simpa using hpn, by simpa using hrow⟩
    · simp only [St.store, if_neg hat, St.tick] at ha
      simpa only [St.store, upd, if_neg hat, Lay.sl, St.tick] using hkeep a hat ha
  marks := fun a => by
    have := h.marks a
    by_cases hat : a = at_
    · subst hat; simp [St.store, St.tick]; omega
    · simpa [St.store, St.tick, hat] using this
  injp := fun a b ha hb => by
    simp only [upd]
    by_cases hat : a = at_ <;> by_cases hbt : b = at_
    · intro; rw [hat, hbt]
    · simp only [St.store, if_neg hbt, St.tick] at hb
      rw [if_pos hat, if_neg hbt]; intro e; exact absurd e.symm (hpi b hbt hb)
    · simp only [St.store, if_neg hat, St.tick] at ha
      rw [if_neg hat, if_pos hbt]; intro e; exact absurd e (hpi a hat ha)
    · simp only [St.store, if_neg hbt, St.tick] at hb
      simp only [St.store, if_neg hat, St.tick] at ha
      rw [if_neg hat, if_neg hbt]; exact h.injp a b ha hb
  injg := fun a b ha hb => by
    simp only [upd]
    by_cases hat : a = at_ <;> by_cases hbt : b = at_
    · intro; rw [hat, hbt]
    · simp only [St.store, if_neg hbt, St.tick] at hb
      rw [if_pos hat, if_neg hbt]; intro e; exact absurd e.symm (hgi b hbt hb)
    · simp only [St.store, if_neg hat, St.tick] at ha
      rw [if_neg hat, if_pos hbt]; intro e; exact absurd e (hgi a hat ha)
    · simp only [St.store, if_neg hbt, St.tick] at hb
      simp only [St.store, if_neg hat, St.tick] at ha
      rw [if_neg hat, if_neg hbt]; exact h.injg a b ha hb
  dom := fun a ha => by
    by_cases hat : a = at_
    · subst hat; exact ⟨h0, h1, h8⟩
    · simp only [St.store, if_neg hat, St.tick] at ha; exact h.dom a ha
  vals := fun a x hx => by
    by_cases hat : a = at_
    · subst hat; simp [St.store] at hx
      rcases hx with hx | hx
      · exact h.vals a x hx
      · subst hx; exact hv
    · simp only [St.store, if_neg hat, St.tick] at hx; exact h.vals a x hx
  byts := h.byts
  lens := fun a => by
    have := h.lens a
    by_cases hat : a = at_
    · subst hat; simp [St.store, St.tick]; omega
    · simp [St.store, St.tick, hat]; omega
  nns := hnn
  rooms := by have := h.rooms; simp only [St.store, St.tick]; omega
  lefts := tick_left h.lefts live
  size := h.size
  fd := Or.inl h.fd
  fo := Or.inl h.fo
  fm := Or.inl h.fm
  fp := fun a ha => by
    by_cases hat : a = at_
    · simp [upd, hat]
    · simp only [St.store, if_neg hat, St.tick] at ha
      simp [upd, hat, (h.fp a ha).1, (h.fp a ha).2]
  fsz := by
    rintro k (hk | rfl | rfl)
    · exact Nat.lt_of_lt_of_le (h.fsz k hk) hszs
    · exact heap_lt hpn
    · exact row_lt hrow }

theorem store_dev (w : World) (F : Nat → Prop) (d : Nat) (S : St) (L : Lay) (at_ v : Int) (h : DevAt w F d S L) (h0 : 0 ≤ at_) (h1 : at_ + 8 ≤ S.old.length) (h8 : at_ % 8 = 0) (hv : 0 ≤ v ∧ v < 18446744073709551616)
    (hs' : S.steps ≤ 1000000) (live : ¬ (S.armed = true ∧ S.left = 0)) :
    Calls Try.prog 35 #[.pointer (some ⟨d, 0, none⟩), .int .i64 at_, .int .u64 v] w fun e w' => e = .returned (.int .i64 0) ∧ ∃ F' L', DevAt w' F' d (S.store at_ v) L' ∧ Keeps F w w' ∧ Fresh F F' w := by
  have hsz := h.size
  have hbad : badWord S.old.length at_ = 0 := by unfold badWord; rw [if_pos (by omega), if_pos h8]
  have hwf := wf_i64 h0 (by omega : at_ ≤ 1000000000)
  have hnn := h.nns
  have hlen := h.lens at_
  by_cases hp : S.pd at_ = []
  · refine (store_new d _ _ _ L.bm L.nn at_ v L.room S.steps S.left S.armed L.D w h.dev hbad hwf h.nonneg (by omega) h.lefts.1 h.lefts.2 live h.hmap (h.at_none hp) (by omega)).mono ?_
    rintro e w' ⟨rfl, g, gc, hd, hpn, hrow, hg, hm, hk⟩
    have hms : S.ms at_ = 0 := by have := h.marks at_; rw [hp] at this; simpa using this
    refine ⟨rfl, _, _, h.stored at_ v h0 h1 h8 hv live w.heap.size g gc (L.nn + 1) _ hd (hk.block _ (heap_lt h.bytes) (by simp [h.d_ne_ob, Ne.symm h.ob_ne_bm])) hm ?_ ?_ ?_ ?_ ?_ ?_ (by omega) hk.size, hk.mono ?_, ?_⟩
    · intro a z
      by_cases ha : a = at_
      · subst ha
        rw [atKey_put_same h.hmap.isMap (isKey_int _), if_pos rfl]
      · rw [atKey_put_other (by intro e; cases e; exact ha rfl), if_neg ha]
    · intro a _ ha
      exact ⟨(hk.block _ (heap_lt (h.pend a ha).1) (by simp [h.p_ne_d ha, h.p_ne_bm ha])).trans (h.pend a ha).1,
        hk.row (h.pend a ha).2 (fun g' hg' => by simp [Value.ownBlock] at hg'; subst hg'; simp [h.g_ne_d ha, h.g_ne_bm ha])⟩
    · rw [hp, hms]; exact hpn
    · rw [hp]; simpa [u64s] using hrow
    · intro b _ hb e; have := heap_lt (h.pend b hb).1; omega
    · intro b _ hb e; have := row_lt (h.pend b hb).2; omega
    · rintro k _ (rfl | rfl)
      · exact h.fd
      · exact h.fm
    · rintro k (hk' | rfl | rfl)
      · exact Or.inl hk'
      · exact Or.inr (Nat.le_refl _)
      · exact Or.inr hg
  · have hpe := h.pend at_ hp
    refine (store_old d _ _ _ L.bm L.nn (L.pp at_) (S.pd at_).length (L.gg at_) (L.cp at_) at_ v L.room S.steps S.left (S.ms at_) S.armed L.D (u64s (S.pd at_)) w h.dev hbad hwf h.nonneg (by omega) h.lefts.1 h.lefts.2 live h.hmap (h.at_some hp) hpe.1 hpe.2 (by omega)).mono ?_
    rintro e w' ⟨rfl, g, gc, hd, hpn, hrow, hg, hk⟩
    refine ⟨rfl, _, _, h.stored at_ v h0 h1 h8 hv live (L.pp at_) g gc L.nn L.D hd (hk.block _ (heap_lt h.bytes) (by simp [h.d_ne_ob, Ne.symm (h.p_ne_ob hp), Ne.symm (h.g_ne_ob hp)])) (hk.map h.hmap (by simp [h.d_ne_bm, Ne.symm (h.p_ne_bm hp), Ne.symm (h.g_ne_bm hp)])) ?_ ?_ hpn ?_ ?_ ?_ (by omega) hk.size, hk.mono ?_, ?_⟩
    · intro a z
      by_cases ha : a = at_
      · subst ha
        rw [h.at_some hp, if_pos rfl]
      · rw [if_neg ha]
    · intro a hne ha
      have e1 : L.pp a ≠ L.pp at_ := fun e => hne (h.injp a at_ ha hp e)
      have e2 : L.gg a ≠ L.gg at_ := fun e => hne (h.injg a at_ ha hp e)
      exact ⟨(hk.block _ (heap_lt (h.pend a ha).1) (by simp [h.p_ne_d ha, e1, Ne.symm (h.g_ne_p hp ha)])).trans (h.pend a ha).1,
        hk.row (h.pend a ha).2 (fun g' hg' => by simp [Value.ownBlock] at hg'; subst hg'; simp [h.g_ne_d ha, h.g_ne_p ha hp, e2])⟩
    · simpa [u64s] using hrow
    · intro b hne hb e; exact hne (h.injp b at_ hb hp e)
    · intro b hne hb e
      rcases hg with rfl | hg
      · exact hne (h.injg b at_ hb hp e)
      · have := row_lt (h.pend b hb).2; omega
    · rintro k _ (rfl | rfl | rfl)
      · exact h.fd
      · exact (h.fp at_ hp).1
      · exact (h.fp at_ hp).2
    · rintro k (hk' | rfl | rfl)
      · exact Or.inl hk'
      · exact Or.inl (h.fp at_ hp).1
      · rcases hg with rfl | hg
        · exact Or.inl (h.fp at_ hp).2
        · exact Or.inr hg

end Go.Proofs.Ytfiekdgpdboolab
