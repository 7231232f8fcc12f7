import Derived.Test.YtfiekdgpdboolaaH2
namespace Go.Proofs.Ytfiekdgpdboolaa
open Go.RowKit Go.Maps

theorem calm_pd {w : World} {F : Nat → Prop} {d : Nat} {S : St} {L : Lay} (h : DevAt w F d S L) (m : Nat) (hm : S.old.length = 64 * m) (a : Int) : ((S.flushN m).fence).pd a = [] := by
  have e : ((S.flushN m).fence).pd a = (S.pd a).drop ((S.flushN m).ms a) := by simp [St.fence, St.fenced, St.tick, flushN_pd]
  rw [e]
  by_cases hp : S.pd a = []
  · simp [hp]
  · have := h.dom a hp
    rw [flushN_ms S m a this.1 (by omega)]
    simp

theorem calm_old (S : St) (m : Nat) (hm : S.old.length = 64 * m) : ((S.flushN m).fence).old = S.view := by
  have hl : ((S.flushN m).fence).old.length = S.old.length := by
    have : ((S.flushN m).fence).old.length = (S.flushN m).tick.old.length := fenced_len _ _
    rw [this]; simp [St.tick, flushN_old]
  apply list_eq_getD 0
  · rw [hl, St.view, viewTo_len]
  · intro i hi
    rw [hl] at hi
    have e1 : ((S.flushN m).fence).old.getD i 0 = (S.flushN m).tick.byteIn (fun _ => false) i := fenced_get _ _ _ (by simp only [St.tick, flushN_old]; exact hi)
    rw [e1, St.view, viewTo_get _ _ _ hi]
    have e2 := flushN_ms S m (8 * (i / 8) : Nat) (by omega) (by omega)
    simp only [St.byteIn, St.viewIn, St.tick, flushN_pd, flushN_old, e2]
    generalize ((8 * (i / 8) : Nat) : Int) = a
    by_cases hp : S.pd a = []
    · rw [if_neg (by simp [hp]), if_neg (by simp [hp])]
    · have h0 : 0 < (S.pd a).length := by
        rcases hq : S.pd a with _ | ⟨q, l⟩
        · exact absurd hq hp
        · simp
      rw [if_pos ⟨trivial, h0⟩, if_pos ⟨trivial, hp⟩]

theorem view_calm (S : St) (h : ∀ a, S.pd a = []) : S.view = S.old := viewTo_start S _ (fun a _ => h a)

theorem cells_u8 {w : World} {g : Nat} {bs : List Int} (h : w.heap[g]? = some (.cells (u8s bs).toArray 5 (0, 0))) : ∀ i, i < bs.length → w.cell? ⟨g, i, none⟩ = some (.int .u8 (bs.getD i 0)) := by
  intro i hi
  simp [World.cell?, h, u8s, List.getD_eq_getElem?_getD, hi]

set_option maxHeartbeats 1000000 in
set_option maxRecDepth 20000 in
theorem calm_walk (w : World) (pages : Int) (p cp : Option Addr) (cap ccap : Nat) (l : List Note3) (cs : List Int) (hN : NotesAt w p l)
    (hcs : 0 < cs.length → ∃ cb co, cp = some ⟨cb, co, none⟩ ∧ cb < w.heap.size ∧ ∀ i, i < cs.length → w.cell? ⟨cb, co + i, none⟩ = some (.int .i64 (cs.getD i 0))) (hl1 : l.length ≤ maxLen) (hl3 : cs.length ≤ maxLen) :
    Calls Try.prog 5 #[.int .i64 pages, .slice p l.length cap, .slice cp cs.length ccap] w fun e w' => e = .returned (.bool true) ∧ Below w.heap.size w w' := by
  obtain ⟨n, hn⟩ : ∃ n, n = sizeOf8 pages := ⟨_, rfl⟩
  have hsz := sizeOf8_le pages
  have hsize := size_any pages
  rw [← hn] at hsz hsize
  obtain ⟨m, hm⟩ : ∃ m, n = 64 * m := ⟨n / 64, by omega⟩
  have HN := Hid.mk' hN
  have HCS := Hid.mk' hcs
  have HL1 := Hid.mk' hl1
  have HL3 := Hid.mk' hl3
  have HM := Hid.mk' hm
  have hm64 : (n : Int) / 64 = m := by omega
  clear hn hN hcs hl1 hl3 hm
  go_enter Try.func5, Try.ntmps5
  go_wp2_with (first
    | (go_at_call 9; refine (hsize _).mono ?_; rintro e w' ⟨rfl, hw⟩; subst w')
    | (go_at_call 10; refine (made_yes n _ hsz.2.1 (by omega) hsz.2.2).mono ?_; rintro e w1 ⟨rfl, hw1⟩
       have HG1 := Hid.mk' (going_made _ _ n hsz.1 hw1)
       clear hw1)
    | (go_at_call 22; refine (notes_going w w1 w.heap.size (w.heap.size + 2) n _ p cap l HG1.out HN.out (Nat.le_refl _) HL1.out hsz.2.2 hsz.2.1 (by simp [St.fresh]) (by simp [St.fresh])).mono ?_; rintro e w2 ⟨rfl, T, hg2, hst1, hst2⟩
       simp only [St.fresh] at hst1 hst2
       have HG2 := Hid.mk' hg2
       obtain ⟨⟨F, L, hdev, hF⟩, hkp, hlen, harm, hBs⟩ := hg2
       have hvw := view_dev w2 F (w.heap.size + 2) T L hdev (by omega)
       rw [hlen] at hvw
       have HD2 := Hid.mk' (show DevAt w2 F (w.heap.size + 2) T L ∧ (∀ k, F k → w.heap.size ≤ k) ∧ T.old.length = n ∧ T.armed = false from ⟨hdev, hF, hlen, harm⟩)
       have HK2 := Hid.mk' (show Keeps (fun k => w.heap.size ≤ k) w w2 ∧ w.heap.size ≤ w2.heap.size from ⟨hkp, hBs⟩)
       clear hdev hF hkp hlen harm hBs HG1)
    | (go_at_call 13; refine hvw.mono ?_; rintro e w3 ⟨rfl, hb3, hk3⟩
       clear hvw
       have HB3 := Hid.mk' hb3
       have hd3 := HD2.out.1.kept hk3 (by simp)
       have HD3 := Hid.mk' hd3
       have HK3 := Hid.mk' hk3
       have hsteps := steps_any (w.heap.size + 2) T.steps w3 (dev_cells hd3.dev).2.2.2.1
       have hfa := flushAll_dev w3 F (w.heap.size + 2) n m T L hd3 HD2.out.2.2.1 HM.out hsz.2.2 hsz.2.1 (by omega) HD2.out.2.2.2
       clear hb3 hk3 hd3)
    | (go_at_call 23; refine hsteps.mono ?_; rintro e w' ⟨rfl, hw⟩; subst w'; clear hsteps)
    | (go_at_call 24; refine hfa.mono ?_; rintro e w4 ⟨rfl, hd4, hk4⟩
       clear hfa
       have HK4 := Hid.mk' hk4
       have hfe := fence_dev w4 F (w.heap.size + 2) (T.flushN m) L hd4 (by rw [flushN_steps]; omega) (by rw [flushN_armed, HD2.out.2.2.2]; simp)
       clear hd4 hk4)
    | (go_at_call 19; refine hfe.mono ?_; rintro e w5 ⟨rfl, F5, L5, hd5, hk5, hf5⟩
       clear hfe
       have HK5 := Hid.mk' (show Keeps F w4 w5 ∧ Fresh F F5 w4 from ⟨hk5, hf5⟩)
       have HD5 := Hid.mk' hd5
       have hst5 : ((T.flushN m).fence).steps = T.steps + m + 1 := by show (T.flushN m).steps + 1 = _; rw [flushN_steps]
       have hsteps2 := steps_any (w.heap.size + 2) ((T.flushN m).fence).steps w5 (dev_cells hd5.dev).2.2.2.1
       rw [hst5] at hsteps2
       have hdo := doubts_none w5 F5 (w.heap.size + 2) ((T.flushN m).fence) L5 hd5 (by rw [hst5]; omega) (calm_pd HD2.out.1 m (HD2.out.2.2.1.trans HM.out))
       clear hd5 hk5 hf5 hst5)
    | (go_at_call 23; refine hsteps2.mono ?_; rintro e w' ⟨rfl, hw⟩; subst w'; clear hsteps2)
    | (go_at_call 25; refine hdo.mono ?_; rintro e w6 ⟨rfl, hk6⟩
       clear hdo
       have hd6 := HD5.out.kept hk6 (by simp)
       have ho5 : ((T.flushN m).fence).old = T.view := calm_old T m (HD2.out.2.2.1.trans HM.out)
       have hp5 := calm_pd HD2.out.1 m (HD2.out.2.2.1.trans HM.out)
       have hl5 : ((T.flushN m).fence).old.length = n := by rw [ho5, St.view, viewTo_len]; exact HD2.out.2.2.1
       have hst6 : ((T.flushN m).fence).steps ≤ 900000000 := by show (T.flushN m).steps + 1 ≤ _; rw [flushN_steps]; omega
       have hkw : Keeps (fun k => w.heap.size ≤ k) w w6 := (((HK2.out.1.trans (HK3.out.mono (by simp))).trans (HK4.out.mono (fun k _ hk => HD2.out.2.1 k hk))).trans (HK5.out.1.mono (fun k _ hk => HD2.out.2.1 k hk))).trans (hk6.mono (by simp))
       have hcr := crash_dev w6 F5 (w.heap.size + 2) ((T.flushN m).fence) L5 hd6 hst6 (by omega) cp ccap cs HL3.out (fun h0 => by
         obtain ⟨cb, co, q1, q2, q3⟩ := HCS.out h0
         exact ⟨cb, co, q1, Nat.lt_of_lt_of_le q2 hkw.size, fun i hi => hkw.cell (q3 i hi) (by simp; omega)⟩)
       rw [hl5] at hcr
       have HO := Hid.mk' (show ((T.flushN m).fence).old = T.view ∧ (∀ a, ((T.flushN m).fence).pd a = []) ∧ ((T.flushN m).fence).old.length = n ∧ ((T.flushN m).fence).steps ≤ 900000000 from ⟨ho5, hp5, hl5, hst6⟩)
       have HD6 := Hid.mk' hd6
       have HKW := Hid.mk' hkw
       have hvb : w6.heap[w2.heap.size]? = some (.cells (u8s T.view).toArray 5 (0, 0)) := by
         have nf : ¬ F w2.heap.size := fun hf => by have := HD2.out.1.fsz _ hf; omega
         have l3 := heap_lt HB3.out
         rw [hk6.block _ (Nat.lt_of_lt_of_le l3 (Nat.le_trans HK4.out.size HK5.out.1.size)) (by simp), HK5.out.1.block _ (Nat.lt_of_lt_of_le l3 HK4.out.size) nf, HK4.out.block _ l3 nf]
         exact HB3.out
       have HVB := Hid.mk' hvb
       clear hk6 hd6 ho5 hp5 hl5 hst6 hkw hvb)
    | (go_at_call 12; refine hcr.mono ?_; rintro e w7 ⟨ks, hR, rfl, hb7, hk7⟩
       clear hcr
       obtain rfl := rising_nil hR HO.out.2.1
       have eb : ((T.flushN m).fence).crash [] cs = T.view := by rw [← HO.out.1]; rfl
       rw [eb] at hb7
       have hlv : T.view.length = n := by rw [St.view, viewTo_len]; exact HD2.out.2.2.1
       have hvb7 := (hk7.block _ (heap_lt HVB.out) (by simp)).trans HVB.out
       have hsm := same_yes w6.heap.size w2.heap.size n n n T.view w7 (fun i hi => cells_u8 hb7 i (by omega)) (fun i hi => cells_u8 hvb7 i (by omega)) (by omega)
       have HK7 := Hid.mk' (show Keeps (fun k => w.heap.size ≤ k) w w7 from HKW.out.trans (hk7.mono (by simp)))
       have HD7 := Hid.mk' (HD6.out.kept hk7 (by simp))
       have HVB7 := Hid.mk' hvb7
       clear hR hb7 hk7 eb hlv hvb7)
    | (go_at_call 26; refine hsm.mono ?_; rintro e w8 ⟨rfl, q8, hw8⟩
       clear hsm
       have hd8 : DevAt w8 F5 (w.heap.size + 2) ((T.flushN m).fence) L5 := HD7.out.heap (by rw [hw8]; rfl)
       have hvw8 := view_dev w8 F5 (w.heap.size + 2) ((T.flushN m).fence) L5 hd8 HO.out.2.2.2
       rw [HO.out.2.2.1, view_calm _ HO.out.2.1, HO.out.1] at hvw8
       have HK8 := Hid.mk' (show Keeps (fun k => w.heap.size ≤ k) w w8 from HK7.out.trans ⟨by rw [hw8]; rfl, by rw [hw8]; rfl, by rw [hw8]; rfl, by rw [hw8]; exact Nat.le_refl _, fun _ _ _ => by rw [hw8]; rfl⟩)
       have HVB8 := Hid.mk' (show w8.heap[w2.heap.size]? = some (.cells (u8s T.view).toArray 5 (0, 0)) by rw [hw8]; exact HVB7.out)
       clear hw8 hd8)
    | (go_at_call 13; refine hvw8.mono ?_; rintro e w9 ⟨rfl, hb9, hk9⟩
       clear hvw8
       have hlv : T.view.length = n := by rw [St.view, viewTo_len]; exact HD2.out.2.2.1
       have hvb9 := (hk9.block _ (heap_lt HVB8.out) (by simp)).trans HVB8.out
       have hsm2 := same_yes w8.heap.size w2.heap.size n n n T.view w9 (fun i hi => cells_u8 hb9 i (by omega)) (fun i hi => cells_u8 hvb9 i (by omega)) (by omega)
       have HK9 := Hid.mk' (show Keeps (fun k => w.heap.size ≤ k) w w9 from HK8.out.trans (hk9.mono (by simp)))
       clear hb9 hk9 hlv hvb9)
    | (go_at_call 26; refine hsm2.mono ?_; rintro e w10 ⟨rfl, q10, hw10⟩
       clear hsm2
       have HK10 := Hid.mk' (show Keeps (fun k => w.heap.size ≤ k) w w10 from HK9.out.trans ⟨by rw [hw10]; rfl, by rw [hw10]; rfl, by rw [hw10]; rfl, by rw [hw10]; exact Nat.le_refl _, fun _ _ _ => by rw [hw10]; rfl⟩)
       clear hw10))
  go_ret
  exact ⟨rfl, HK10.out.below (Nat.le_refl _) (fun k hk => hk)⟩

end Go.Proofs.Ytfiekdgpdboolaa
