import Derived.Test.YtendmohjodeelabA8
import Derived.Shelf.SlMaps.Clone
namespace Go.Proofs.Ytendmohjodeelab
open Go.RowKit Go.Maps Go.Great

/-! Clear and Copy. -/
def clrS (S : List Rw) (d : Int) : List Rw := S.filter fun r => !inDir d r

/-- What is left while Clear goes over the map: rows of other directories, and those still to come. -/
def leftS (S : List Rw) (d : Int) (left : Lit → Bool) : List Rw := S.filter fun r => !inDir d r || lfR left r

theorem leftS_start {D : DataW Unit} {S : List Rw} (h : Tie D S) (d : Int) : leftS S d (Maps.has D) = S := by
  unfold leftS
  exact List.filter_eq_self.2 (fun r hr => by simp [lfR, (h.has _).2 ⟨r, hr, rfl⟩])
theorem leftS_end (S : List Rw) (d : Int) (left : Lit → Bool) (hl : ∀ kl, left kl = false) : leftS S d left = clrS S d := by
  unfold leftS clrS
  exact List.filter_congr (fun r _ => by simp [lfR, hl])
theorem mem_left {S : List Rw} {d : Int} {left : Lit → Bool} {r : Rw} : r ∈ leftS S d left ↔ r ∈ S ∧ (r.1 ≠ d ∨ lfR left r = true) := by
  simp only [leftS, List.mem_filter, inDir, Bool.or_eq_true, Bool.not_eq_true', decide_eq_false_iff_not, ne_eq]
theorem left_skip {D : DataW Unit} {S : List Rw} (h : Tie D S) (d : Int) (left : Lit → Bool) {r : Rw} (hr : r ∈ S) (hd : r.1 ≠ d) : leftS S d (fun z => left z && !z.sameKey (kL r.1 r.2.1)) = leftS S d left := by
  unfold leftS
  apply List.filter_congr
  intro q hq
  rw [lf_step h left hr q hq]
  by_cases e : q = r
  · subst e; simp [inDir, hd]
  · simp [e]
theorem left_drop {D : DataW Unit} {S : List Rw} (h : Tie D S) (d : Int) (left : Lit → Bool) {r : Rw} (hr : r ∈ S) (hd : r.1 = d) : leftS S d (fun z => left z && !z.sameKey (kL r.1 r.2.1)) = delS (leftS S d left) r.1 r.2.1 := by
  unfold leftS delS
  rw [List.filter_filter]
  apply List.filter_congr
  intro q hq
  rw [lf_step h left hr q hq]
  by_cases e : q = r
  · subst e; simp [inDir, hd, same]
  · have : same r.1 r.2.1 q = false := by
      rw [Bool.eq_false_iff]
      exact fun e2 => e (h.rise.inj hq hr (same_iff.1 e2))
    simp [this, e]

set_option maxRecDepth 100000 in
theorem clone_any (b n : Nat) (D : DataW Unit) (w : World) (h : w.ownsMap Try.prog 51 (plainElem Try.prog 3) b n D) :
    Calls Try.prog 28 #[.map (some b)] w fun e w' => e = .returned (.map (some w.heap.size)) ∧ w'.ownsMap Try.prog 51 (plainElem Try.prog 3) w.heap.size n D ∧ ∃ o, w' = w.alloc o := by
  obtain ⟨es, clock, hb, F, hs, hD⟩ := h
  have hq := fun w => run_eql_map_nil_sl (P := Try.prog) w 46 _ _ (some b) Try.underlying46
  go_enter Try.func28, Try.ntmps28
  go_wp2
  rw [run_callFunc_extern Try.func37 (by kernel_rfl) (by kernel_rfl) (by kernel_rfl) (e := Extern.MapsClone.clone) (by kernel_rfl), run_maps_clone_sl w 46 hb]
  simp only [Result.andThen]
  rw [Oper.upon_value]
  go_wp2
  rw [run_typeAssert_map_sl _ 46 20 _ _ _ Try.underlying46]
  simp only [Result.andThen]
  rw [Oper.upon_value]
  go_wp2
  go_ret
  exact ⟨rfl, ⟨es, clock, (MapKept.heap_alloc w _).1, F, hs, hD⟩, _, rfl⟩

set_option maxHeartbeats 1000000 in
theorem copyI_any (w : World) (x bm : Nat) (S : List Rw) (h : IxAt w x bm S) :
    Calls Try.prog 13 #[.pointer (some ⟨x, 0, none⟩)] w fun e w' => e = .returned (.pointer (some ⟨w.heap.size + 1, 0, none⟩)) ∧ Hid (IxAt w' (w.heap.size + 1) w.heap.size S ∧ Keeps (fun _ => False) w w' ∧ w'.heap.size = w.heap.size + 2) := by
  obtain ⟨D, ho, ht⟩ := h.map
  have c0 := cell0 h.cell
  have h28 := clone_any bm S.length D w ho
  clear ho h
  go_enter Try.func13, Try.ntmps13
  go_wp2_with (first | (go_at_call 28; refine h28.mono ?_; rintro e w1 ⟨rfl, hown, o, hw1⟩))
  subst hw1
  go_ret
  refine ⟨rfl, ⟨?_, _, hown.alloc _, ht⟩, ((Keeps.refl _ w).alloc _).alloc _, ?_⟩
  · have := heap_alloc_last (w.alloc o) (.cells #[.map (some w.heap.size)] 48); rwa [World.size_alloc] at this
  · simp

/-- What Clear's loop holds. -/
def ClR (w wr : World) (x bm : Nat) (S : List Rw) (d : Int) (k : Nat) : Prop :=
  ∃ left cnt D, wr.ranges Try.prog 51 (plainElem Try.prog 3) bm w.heap.size S.length D left cnt ∧ Tie D (leftS S d left) ∧ (∀ kl, left kl = true → Maps.has D kl = true) ∧ Keeps (fun i => i = bm) w wr ∧ wr.heap[x]? = some (.cells #[.map (some bm)] 48 (0, 0)) ∧ (came S (inDir d) left).length = k

theorem ranges_drewN {w : World} {k : TypeId} {R : Value → Option (DataW Unit × List MemPlace)} {b r n : Nat} {D : DataW Unit} {left : Lit → Bool} {cnt : Nat} (h : w.ranges Try.prog k R b r n D left cnt) (m : Nat) : (w.drewN m).ranges Try.prog k R b r n D left cnt := h

set_option maxHeartbeats 2000000 in
set_option maxRecDepth 100000 in
theorem clear_any (w : World) (x bm : Nat) (S : List Rw) (h : IxAt w x bm S) (d : Int) (hl : S.length < 35184372088832) :
    Calls Try.prog 14 #[.pointer (some ⟨x, 0, none⟩), .int .i64 d] w fun e w' => e = .returned (.int .i64 ((S.filter (inDir d)).length : Int)) ∧ Hid (IxAt w' x bm (clrS S d) ∧ Keeps (fun i => i = bm) w w') := by
  obtain ⟨D, ho, ht⟩ := h.map
  have c0 := cell0 h.cell
  have HX : Hid (IxAt w x bm S) := h
  have hne := h.ne
  have HT : Hid (Tie D S) := ht
  clear h ht
  go_enter Try.func14, Try.ntmps14
  go_wp2_with (first | (at_range; refine wpList_range_own _ rfl _ 46 rfl 51 3 keyLaw Try.underlying46 (plainElem Try.prog 3) bm S.length D rfl ho ?_; intro w0 hrg0 hg0 hs0))
  try go_frame
  have HR0 : Hid (ClR w w0 x bm S d 0) := by
    refine ⟨_, _, D, hrg0, by rw [leftS_start HT.out]; exact HT.out, fun _ h => h, (Keeps.refl _ w).step hg0 (by simp), ?_, by rw [came_start HT.out]; rfl⟩
    rw [hg0.block x (heap_lt HX.out.cell) (by simp)]; exact HX.out.cell
  clear hrg0 hg0 hs0 ho c0
  go_loopw [5] (fun v wr => ∃ k : Nat, v = .int .i64 k ∧ Hid (ClR w wr x bm S d k)) (fun _ wr => wr.rangeLeft bm w.heap.size)
  case atStart => exact ⟨0, rfl, HR0⟩
  case round =>
    obtain ⟨k, rfl, hh⟩ := hrel
    obtain ⟨left, cnt, D1, hrg, ht1, hsub, hkp, hcx, hk⟩ := hh.out
    have hkl : k ≤ S.length := by rw [← hk]; exact came_le ..
    have HC : Hid (Tie D1 (leftS S d left) ∧ (∀ kl, left kl = true → Maps.has D1 kl = true) ∧ Keeps (fun i => i = bm) w wr ∧ (came S (inDir d) left).length = k ∧ wr.rangeLeft bm w.heap.size = cnt ∧ wr.heap[x]? = some (.cells #[.map (some bm)] 48 (0, 0))) := ⟨ht1, hsub, hkp, hk, hrg.left_eq, hcx⟩
    have hrb : x ≠ w.heap.size := by have := heap_lt HX.out.cell; omega
    clear hh ht1 hsub hkp hk hcx
    go_wp2_with (first | (at_next; refine wpList_next_ranges _ rfl _ rfl 51 keyLaw (plainElem Try.prog 3) id (Value.int .i64) invK55 invV55 bm w.heap.size S.length D1 left cnt rfl hrg ?_ ?_))
    · intro _ hl0
      have HO : Hid (wr.ownsMap Try.prog 51 (plainElem Try.prog 3) bm S.length D1) := hrg.owns
      clear hrg
      go_wp2
      go_ret
      refine ⟨ret_int (by rw [← HC.out.2.2.2.1, came_end _ _ hl0]), ⟨HC.out.2.2.2.2.2, D1, ?_, ?_⟩, HC.out.2.2.1⟩
      · have h1 := HC.out.1
        rw [leftS_end _ _ _ hl0] at h1
        exact owns_tight HO.out h1.size
      · have h1 := HC.out.1
        rwa [leftS_end _ _ _ hl0] at h1
    · intro key c kl yd yp w1 cnt1 hkey hlk hv hat hrg1 hlt hg1 hs1 hen
      obtain ⟨r, hrL, e1, e2, e3⟩ := came_out HC.out.1 hkey (HC.out.2.1 kl hlk) hv hat
      have hrS : r ∈ S := (mem_left.1 hrL).1
      subst e2 e3
      subst e1
      clear hat hv hkey
      have HK1 : Hid (Keeps (fun i => i = bm) w w1) := HC.out.2.2.1.step hg1 (fun k e => by cases e; exact Or.inr (Nat.le_refl _))
      have HX1 : Hid (w1.heap[x]? = some (.cells #[.map (some bm)] 48 (0, 0))) := by
        show _ = _
        rw [hg1.block x (heap_lt HC.out.2.2.2.2.2) (by simpa using hrb)]; exact HC.out.2.2.2.2.2
      have hc := key_dir w1 r.1 r.2.1
      have HP : Hid ((came S (inDir d) (fun z => left z && !z.sameKey (kL r.1 r.2.1))).Perm ((if inDir d r then [r] else []) ++ came S (inDir d) left)) := came_step HT.out (inDir d) left hrS hlk
      have HRG : Hid ((w1.alloc (.cells (kcells r.1 r.2.1) 51)).ranges Try.prog 51 (plainElem Try.prog 3) bm w.heap.size S.length D1 (fun z => left z && !z.sameKey (kL r.1 r.2.1)) cnt1) := hrg1.alloc _
      have HLT : Hid (cnt1 < cnt) := hlt
      have HHD : Hid (hasS (leftS S d left) r.1 r.2.1 = true) := hasS_iff.2 ⟨r, hrL, rfl, rfl⟩
      have hbm1 : w1.heap.size ≠ bm := by have := hrg1.owns.lt; omega
      have hb := heap_alloc_last w1 (.cells (kcells r.1 r.2.1) 51)
      have hx2 : (w1.alloc (.cells (kcells r.1 r.2.1) 51)).heap[x]? = some (.cells #[.map (some bm)] 48 (0, 0)) := by rw [(MapKept.heap_alloc _ _).2 _ (heap_lt HX1.out)]; exact HX1.out
      clear hg1 hs1 hrg1 hrg hlt
      rcases Bool.eq_false_or_eq_true (decide (r.1 = d)) with hdd | hdd
      · have hd2 : (r.1 == d) = true := by simpa using hdd
        have HD : Hid (r.1 = d) := show r.1 = d by simpa using hdd
        clear hdd
        go_wp2_with (first
          | (refine wpList_alloc_k rfl rfl ?_)
          | (refine wpList_store_row rfl 51 _ _ rfl _ (kcells r.1 r.2.1) rfl rfl 51 kzero (heap_alloc_last _ _) (size55' _ _) (by rw [size_kcells]; exact size_kzero) (kcells_one _ _) ?_; rw [World.setRow_alloc_new]))
        refine wp_region_held_drew (S := RegS x bm w1.heap.size (kcells r.1 r.2.1)) (by kernel_rfl) ⟨hx2, hb⟩ (fun hS => ?_)
        refine takeH 0 (some 20) (.pointer (some ⟨x, 0, none⟩)) rfl rfl (by kernel_rfl) (by kernel_rfl) (by kernel_rfl) (fun _ _ _ h => h) (Or.inl ⟨by rfl, fun w hw => ?_⟩) hS ?_
        · go_simp
        simp only [Act.put, List.setIfInBounds_toArray, List.set_cons_zero, List.set_cons_succ]
        refine takeH 1 (some 21) (.pointer (some ⟨x, 0, none⟩)) rfl rfl (by kernel_rfl) (by kernel_rfl) (by kernel_rfl) (fun _ _ _ h => h) (Or.inl ⟨by rfl, fun w hw => ?_⟩) hS ?_
        · go_simp
        simp only [Act.put, List.setIfInBounds_toArray, List.set_cons_zero, List.set_cons_succ]
        refine takeH 2 (some 22) (.pointer (some ⟨x, 0, none⟩)) rfl rfl (by kernel_rfl) (by kernel_rfl) (by kernel_rfl) (fun _ _ _ h => h) (Or.inl ⟨by rfl, fun w hw => ?_⟩) hS ?_
        · go_simp
        simp only [Act.put, List.setIfInBounds_toArray, List.set_cons_zero, List.set_cons_succ]
        refine takeH 3 (some 23) (.map (some bm)) rfl rfl (by kernel_rfl) (by kernel_rfl) (by kernel_rfl) (fun _ _ _ h => h) (Or.inl ⟨by rfl, fun w hw => ?_⟩) hS ?_
        · have := cell0 hw.1
          go_simp
        simp only [Act.put, List.setIfInBounds_toArray, List.set_cons_zero, List.set_cons_succ]
        refine takeH 4 (some 24) (.agg (kcells r.1 r.2.1)) rfl rfl (by kernel_rfl) (by kernel_rfl) (by kernel_rfl) (fun _ _ _ h => h) (Or.inl ⟨by rfl, fun w hw => ?_⟩) hS ?_
        · exact run_load55 w w1.heap.size (kcells r.1 r.2.1) hw.2 (size_kcells _ _) _ _ _ rfl rfl
        simp only [Act.put, List.setIfInBounds_toArray, List.set_cons_zero, List.set_cons_succ]
        have hrg' : (w1.alloc (.cells (kcells r.1 r.2.1) 51)).drew.ranges Try.prog 51 (plainElem Try.prog 3) bm w.heap.size S.length D1 (fun z => left z && !z.sameKey (kL r.1 r.2.1)) cnt1 := HRG.out
        obtain ⟨w2, cnt2, hrun, hrg2, hle, htu⟩ := hrg'.drop keyLaw Try.underlying46 (key := .agg (kcells r.1 r.2.1)) (kl := kL r.1 r.2.1) (keyOf_mk _ _ (HT.out.ok r hrS).wf (HT.out.ok r hrS).sz) 0
        rw [strike_twice] at hrg2
        have hgr := htu.grown
        have hS2 : RegS x bm w1.heap.size (kcells r.1 r.2.1) w2 := ⟨by rw [hgr.block x (heap_lt hS.1) (by simpa using hne)]; exact hS.1, by rw [hgr.block _ (heap_lt hS.2) (by simpa using hbm1)]; exact hS.2⟩
        have hgr' : (w1.alloc (.cells (kcells r.1 r.2.1) 51)).grownBy w2 (some bm) := ⟨hgr.os, hgr.tape, hgr.output, hgr.size, hgr.block⟩
        have HN : Hid (ClR w w2 x bm S d (k + 1)) := by
          have ht2 := HC.out.1.del (HRG.out.owns.tidy keyLaw) (HT.out.ok r hrS).wf (HT.out.ok r hrS).sz HHD.out
          refine ⟨_, cnt2, _, hrg2, by rw [left_drop HT.out d left hrS HD.out]; exact ht2, ?_, (HK1.out.alloc _).then (Keeps.of (X := fun i => i = bm) hgr' (by rintro k e; cases e; exact Or.inl rfl)) (fun k h => Or.inl h), hS2.1, ?_⟩
          · intro kl hkl
            simp only [Bool.and_eq_true, Bool.not_eq_true'] at hkl
            have hne : kl ≠ kL r.1 r.2.1 := by
              rintro rfl
              have := hkl.2
              simp [kL, Lit.sameKey] at this
            rw [has_del_other hne]
            exact HC.out.2.1 kl hkl.1
          · rw [HP.out.length_eq, List.length_append, HC.out.2.2.2.1]
            simp [inDir, HD.out]; omega
        have HM : Hid (w2.rangeLeft bm w.heap.size < wr.rangeLeft bm w.heap.size) := by
          have := HLT.out
          show _ < _
          rw [hrg2.left_eq, HC.out.2.2.2.2.1]; omega
        clear hrg2 hrg' hle htu hgr hgr'
        refine wpAnyH_ready (rs := [5]) (by kernel_rfl) (by simp) (AllReadyH.cons rfl (fun K hK => ?_) AllReadyH.nil)
        refine step_delete rfl _ _ rfl _ _ rfl rfl w2 hrun ?_
        refine hK.out _ _ hS2 (fun hHeld => ?_)
        refine wpAnyH_done (by kernel_rfl) ?_ _
        clear hrun hS hS2 hK hHeld hb hx2 hc
        go_wp2
        go_roundw
        case rel => exact ⟨k + 1, by simp, HN⟩
        case measure => exact HM.out
      · have hd2 : (r.1 == d) = false := by simpa using hdd
        have HD : Hid (¬ r.1 = d) := show ¬ r.1 = d by simpa using hdd
        have HN : Hid (ClR w (w1.alloc (.cells (kcells r.1 r.2.1) 51)) x bm S d k) := by
          refine ⟨_, cnt1, D1, HRG.out, by rw [left_skip HT.out d left hrS HD.out]; exact HC.out.1, fun kl hk => HC.out.2.1 kl (by simp at hk; exact hk.1), HK1.out.alloc _, hx2, ?_⟩
          rw [HP.out.length_eq, List.length_append, HC.out.2.2.2.1]
          simp [inDir, HD.out]
        have HM : Hid ((w1.alloc (.cells (kcells r.1 r.2.1) 51)).rangeLeft bm w.heap.size < wr.rangeLeft bm w.heap.size) := by
          have := HLT.out
          show _ < _
          rw [HRG.out.left_eq, HC.out.2.2.2.2.1]; exact this
        clear hdd hb hx2
        go_wp2_with (first
          | (refine wpList_alloc_k rfl rfl ?_)
          | (refine wpList_store_row rfl 51 _ _ rfl _ (kcells r.1 r.2.1) rfl rfl 51 kzero (heap_alloc_last _ _) (size55' _ _) (by rw [size_kcells]; exact size_kzero) (kcells_one _ _) ?_; rw [World.setRow_alloc_new]))
        go_roundw
        case rel => exact ⟨k, rfl, HN⟩
        case measure => exact HM.out

end Go.Proofs.Ytendmohjodeelab
