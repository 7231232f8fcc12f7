import Derived.Test.YtfiekdgpdboolabC1
namespace Go.Proofs.Ytfiekdgpdboolab
open Go.RowKit Go.Maps

set_option maxHeartbeats 400000 in
theorem word_dev (w : World) (F : Nat → Prop) (d at_ : Nat) (S : St) (L : Lay) (h : DevAt w F d S L) (h1 : at_ + 8 ≤ S.old.length) (h8 : at_ % 8 = 0) (hp : S.pd at_ = []) :
    Calls Try.prog 77 #[.pointer (some ⟨d, 0, none⟩), .int .i64 at_] w fun e w' => e = .returned (.tuple #[.int .u64 (wordAt S.old at_), .int .i64 0]) ∧ w' = w := by
  have hsz := h.size
  obtain ⟨c0, c1, c2, c3, c4, c5, c6⟩ := dev_cells h.dev
  have hcw := checkWord_any d _ _ _ (at_ : Int) w c0
  have hbad : badWord S.old.length (at_ : Int) = 0 := by unfold badWord; rw [if_pos (by omega), if_pos (by omega)]
  rw [hbad] at hcw
  have hm := h.hmap
  have hat := h.at_none hp
  have hwf : (Lit.int .i64 (at_ : Int)).wf = true := wf_i64 (by omega) (by omega)
  have hg := gather_any L.ob at_ (S.old.length - at_) (S.old.length - at_) (fun i => S.old.getD (at_ + i) 0) w (by omega) (fun j hj => by
    have h2 := h.bytes
    have h3 : at_ + j < S.old.length := by omega
    simp [World.cell?, h2, u8s, List.getD_eq_getElem?_getD, h3]) (fun j hj => by
    simp only [List.getD_eq_getElem?_getD]
    rcases hb : S.old[at_ + j]? with _ | b
    · simp
    · exact h.byts b (List.mem_of_getElem? hb))
  have b1 : (0 : Int) ≤ (at_ : Int) := by omega
  have b2 : (at_ : Int) ≤ (S.old.length : Int) := by omega
  have b3 : ¬ S.old.length = at_ := by omega
  have b4 : at_ ≤ S.old.length := by omega
  clear h c2 c3 c4 c5 c6 hbad hp
  go_enter Try.func77, Try.ntmps77
  go_wp2_with (first
    | (go_at_call 57; refine hcw.mono ?_; rintro e w' ⟨rfl, hw⟩; subst w')
    | (at_lookup; refine wpList_lookup_none _ rfl _ _ rfl L.bm L.nn L.D rfl hm at_ rfl hwf hat ?_)
    | (go_at_call 36; refine hg.mono ?_; rintro e w' ⟨rfl, hw⟩; subst w'))
  go_ret2
  exact ⟨rfl, rfl⟩

/-- The device that Load gives. -/
def St.fresh (bs : List Int) : St := { old := bs, pd := fun _ => [], ms := fun _ => 0, steps := 0, armed := false, left := 0 }

theorem DevAt.fresh {w : World} {ob bm d : Nat} {bs : List Int} (hd : w.heap[d]? = some (devCells (.slice (some ⟨ob, 0, none⟩) bs.length bs.length) (.map (some bm)) 0 0 false 0))
    (hb : w.heap[ob]? = some (.cells (u8s bs).toArray 5 (0, 0))) (hm : w.heap[bm]? = some (.map #[] 0)) (hsz : bs.length ≤ 524288) (hbs : ∀ b ∈ bs, 0 ≤ b ∧ b ≤ 255) :
    DevAt w (fun k => k = d ∨ k = ob ∨ k = bm) d (St.fresh bs) ⟨ob, bm, 0, 0, .map [], fun _ => 0, fun _ => 0, fun _ => 0⟩ := {
  dev := hd
  bytes := hb
  hmap := ⟨#[], 0, hm, ⟨by simp, MapKept.stamped_empty 0, by simp⟩, Nat.le_refl _, rfl⟩
  hD a z := by simp [St.fresh]; rfl
  pend a ha := absurd rfl ha
  marks a := Nat.le_refl _
  injp a b ha := absurd rfl ha
  injg a b ha := absurd rfl ha
  dom a ha := absurd rfl ha
  vals a v hv := by simp [St.fresh] at hv
  byts := hbs
  lens a := by simp [St.fresh]
  nns := by simp [St.fresh]
  rooms := by simp [St.fresh]
  lefts := by simp [St.fresh]
  size := hsz
  fd := Or.inl rfl
  fo := Or.inr (Or.inl rfl)
  fm := Or.inr (Or.inr rfl)
  fp a ha := absurd rfl ha
  fsz := by
    rintro k (rfl | rfl | rfl)
    · exact heap_lt hd
    · exact heap_lt hb
    · exact heap_lt hm }

end Go.Proofs.Ytfiekdgpdboolab
