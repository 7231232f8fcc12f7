import Derived.Test.YtfiekdgpdboolacV6
namespace Go.Proofs.Ytfiekdgpdboolac
open Go.RowKit Go.Maps

set_option maxHeartbeats 1000000 in
theorem looks_size (w : World) (H : Nat → Prop) (d r : Nat) (N : Int) (D a n v : Int) (pB pL : Option Addr) (lB lL cB cL : Nat) (h : PairOK w H d r N) :
    Calls Try.prog 13 #[.pointer (some ⟨d, 0, none⟩), .pointer (some ⟨r, 0, none⟩), .agg (opCells 4 D a n v pB pL lB lL cB cL)] w fun e w' => e = .returned (.bool true) ∧ Keeps (fun _ => False) w w' := by
  obtain ⟨F, G, S, L, R, M, h1, h2, h3, h4, h5, h6⟩ := h
  have hkA : Keeps (fun _ => False) w (w.alloc (.cells (opCells 4 D a n v pB pL lB lL cB cL) 32)) := Keeps.of (World.grownBy_alloc w _ none) (by simp)
  obtain ⟨x0, x1, x2, x3, x4, x5, x6⟩ := op_cells (H := fun _ => False) (Keeps.refl (fun _ => False) (w.alloc (.cells (opCells 4 D a n v pB pL lB lL cB cL) 32))) (by simp)
  obtain ⟨c0, _⟩ := dev_cells (h1.kept hkA (by simp)).dev
  have hp := sizeDev_any d _ _ _ _ c0
  have hq := rsize_any _ G r R M (h2.kept hkA (by simp))
  rw [h3.len, show ((64 * R.n : Nat) : Int) = 64 * (R.n : Int) by omega] at hp
  have HKA := Hid.mk' hkA
  clear h1 h2 h3 h4 h5 h6 hkA c0
  go_enter Try.func13, Try.ntmps13
  go_wp2_with (first
    | (go_at_call 23; refine hp.mono ?_; rintro e w' ⟨rfl, hw⟩; subst w'; clear hp)
    | (go_at_call 24; refine hq.mono ?_; rintro e w' ⟨rfl, hw⟩; subst w'; clear hq))
  go_ret
  exact ⟨ret_bool (by simp), HKA.out⟩

/-- A list of doubts, where it lies. -/
def DoubtsAt (w : World) (p : Option Addr) (n : Nat) (A O : Nat → Int) (X : Nat → List Int) : Prop :=
  0 < n → ∃ g, p = some ⟨g, 0, none⟩ ∧ ∀ i, i < n → w.cell? ⟨g, i * 3, none⟩ = some (.int .i64 (A i)) ∧ w.cell? ⟨g, i * 3 + 1, none⟩ = some (.int .u64 (O i)) ∧
    ∃ b c, w.cell? ⟨g, i * 3 + 2, none⟩ = some (.slice (some ⟨b, 0, none⟩) (X i).length c) ∧ ∀ j, j < (X i).length → w.cell? ⟨b, j, none⟩ = some (.int .u64 ((X i).getD j 0))

set_option maxHeartbeats 2000000 in
set_option maxRecDepth 20000 in
theorem sameDoubts_yes (w : World) (pa pb : Option Addr) (n ca cb : Nat) (A O : Nat → Int) (X : Nat → List Int) (ha : DoubtsAt w pa n A O X) (hb : DoubtsAt w pb n A O X) (hn : n ≤ 1000000000) (hX : ∀ i, i < n → (X i).length ≤ 1000000000) :
    Calls Try.prog 45 #[.slice pa n ca, .slice pb n cb] w fun e w' => e = .returned (.bool true) ∧ ∃ q, w' = w.drewN q := by
  have HA := Hid.mk' ha
  have HB := Hid.mk' hb
  have HX := Hid.mk' hX
  clear ha hb hX
  go_enter Try.func45, Try.ntmps45
  go_wp2
  go_loopw [5] (fun i wr => ∃ k : Nat, k ≤ n ∧ i = .int .i64 k ∧ Hid (∃ q, wr = w.drewN q)) (fun i _ => n - (intOf i).toNat)
  case atStart => exact ⟨0, by omega, rfl, 0, rfl⟩
  case round =>
    obtain ⟨k, hk, rfl, hrel⟩ := hrel
    by_cases hlt : k < n
    · obtain ⟨ga, rfl, hca⟩ := HA.out (by omega)
      obtain ⟨gb, rfl, hcb⟩ := HB.out (by omega)
      obtain ⟨q, hq⟩ := hrel
      have hcell : ∀ a, wr.cell? a = w.cell? a := fun a => by rw [hq]; rfl
      obtain ⟨a1, a2, ba, bca, a3, a4⟩ := hca k hlt
      obtain ⟨b1, b2, bb, bcb, b3, b4⟩ := hcb k hlt
      rw [← hcell] at a1 a2 a3 b1 b2 b3
      have hsw := fun nn => sameWords_yes ba bb (X k).length bca bcb (X k) (wr.drewN nn) (fun i hi => (hcell _).trans (a4 i hi)) (fun i hi => (hcell _).trans (b4 i hi)) (HX.out k hlt)
      have HQ := Hid.mk' hq
      generalize (X k).length = ln at *
      generalize A k = av at *
      generalize O k = ov at *
      have h3 : (0 : Int) ≤ (k : Int) := by omega
      have h4 : (k : Int) < (n : Int) := by omega
      clear hca hcb hcell a4 b4 hq
      go_upto_region 6 with fail
      go_quiet ((go_at_call 69; exact Calls.quiet_of (hsw _)))
      go_wp2
      go_roundw
      case rel => exact ⟨k + 1, by omega, by go_num, by obtain ⟨q0, e0⟩ : ∃ q0, wr = w.drewN q0 := ⟨_, HQ.out⟩; rw [e0]; exact ⟨_, by simp; rfl⟩⟩
      case measure => simp [intOf]; omega
    · obtain rfl : n = k := by omega
      have HR := hrel
      clear hrel
      go_wp2
      go_ret
      exact ⟨rfl, HR⟩

theorem doubtsAt_dev {w : World} {base : Nat} {S : St} {ng : Int → Nat} {ks : List Int} {p : Option Addr} {c : Nat} (h : w.ownsRow base 98 3 (.slice p ks.length c) ks.length (doubtCells S ng ks)) (hng : ∀ a ∈ ks, w.heap[ng a]? = some (.cells (u64s (S.pd a)).toArray 28 (0, 0))) :
    DoubtsAt w p ks.length (fun i => ks.getD i 0) (fun i => wordAt S.old (ks.getD i 0).toNat) (fun i => S.pd (ks.getD i 0)) := by
  intro h0
  rcases h.2 with ⟨_, e2⟩ | ⟨ga, cpa, cura, e1, _⟩
  · omega
  cases e1
  refine ⟨ga, rfl, fun i hi => ?_⟩
  obtain ⟨a1, a2, a3⟩ := doubtCells_get S ng ks i hi
  have hmem : ks.getD i 0 ∈ ks := by rw [List.getD_eq_getElem?_getD, List.getElem?_eq_getElem hi]; exact List.getElem_mem _
  exact ⟨(h.cellAt _ (by omega)).trans a1, (h.cellAt _ (by omega)).trans a2, _, _, (h.cellAt _ (by omega)).trans a3, fun j hj => cells_u64 (hng _ hmem) j hj⟩

theorem rdCells_get (R : Rf) (ns : Nat → Value) (ts : List Nat) (i : Nat) (hi : i < ts.length) :
    (rdCells R ns ts)[i * 3]? = some (.int .i64 ((8 * ts.getD i 0 : Nat) : Int)) ∧ (rdCells R ns ts)[i * 3 + 1]? = some (.int .u64 (R.oldW (ts.getD i 0))) ∧ (rdCells R ns ts)[i * 3 + 2]? = some (ns (ts.getD i 0)) := by
  induction ts generalizing i with
  | nil => simp at hi
  | cons a l ih =>
    have e : rdCells R ns (a :: l) = [.int .i64 ((8 * a : Nat) : Int), .int .u64 (R.oldW a), ns a] ++ rdCells R ns l := by simp [rdCells]
    rw [e]
    cases i with
    | zero => simp
    | succ i =>
      have hi' : i < l.length := by simpa using hi
      obtain ⟨h1, h2, h3⟩ := ih i hi'
      have e1 : (a :: l).getD (i + 1) 0 = l.getD i 0 := by simp [List.getD_eq_getElem?_getD]
      rw [e1]
      refine ⟨?_, ?_, ?_⟩
      · rw [List.getElem?_append_right (by simp; omega), ← h1]; congr 1; simp; omega
      · rw [List.getElem?_append_right (by simp; omega), ← h2]; congr 1; simp; omega
      · rw [List.getElem?_append_right (by simp; omega), ← h3]; congr 1; simp; omega

theorem doubtsAt_ref {w : World} {base t : Nat} {R : Rf} {v : Value} (h : RDoubts base R v t w) : ∃ p c, v = .slice p (R.tsTo t).length c ∧ DoubtsAt w p (R.tsTo t).length (fun i => ((8 * (R.tsTo t).getD i 0 : Nat) : Int)) (fun i => R.oldW ((R.tsTo t).getD i 0)) (fun i => R.newsW ((R.tsTo t).getD i 0)) := by
  obtain ⟨ns, h1, h2⟩ := h
  obtain ⟨p, c, hv, hp⟩ := row_form h1
  refine ⟨p, c, hv, fun h0 => ?_⟩
  obtain ⟨g, rfl⟩ := hp h0
  rw [hv] at h1
  refine ⟨g, rfl, fun i hi => ?_⟩
  obtain ⟨a1, a2, a3⟩ := rdCells_get R ns (R.tsTo t) i hi
  have hmem : (R.tsTo t).getD i 0 ∈ R.tsTo t := by rw [List.getD_eq_getElem?_getD, List.getElem?_eq_getElem hi]; exact List.getElem_mem _
  obtain ⟨b, cb, q1, q2⟩ := h2 _ hmem
  refine ⟨(h1.cellAt _ (by omega)).trans a1, (h1.cellAt _ (by omega)).trans a2, b, cb, ?_, fun j hj => ?_⟩
  · rw [(h1.cellAt _ (by omega)).trans a3, q1]
  · rw [q1] at q2
    show w.cell? ⟨b, j, none⟩ = some (.int .u64 ((R.newsW ((R.tsTo t).getD i 0)).getD j 0))
    have hj' : j < (R.newsW ((R.tsTo t).getD i 0)).length := hj
    clear hj a1 a2 a3 h1 h2 q1
    generalize R.newsW ((R.tsTo t).getD i 0) = nl at *
    rw [q2.cellAt j (by omega)]
    simp [u64s, List.getD_eq_getElem?_getD, hj']

theorem wordsOf_get (ts : List Nat) (i : Nat) (hi : i < ts.length) : (wordsOf ts).getD i 0 = ((8 * ts.getD i 0 : Nat) : Int) := by
  simp [wordsOf, List.getD_eq_getElem?_getD, hi]

set_option maxHeartbeats 2000000 in
set_option maxRecDepth 20000 in
theorem tells_doubts (w : World) (H : Nat → Prop) (d r : Nat) (N : Int) (D a n v : Int) (pB pL : Option Addr) (lB lL cB cL : Nat) (h : PairOK w H d r N) (hN : N ≤ 100000000) :
    Calls Try.prog 15 #[.pointer (some ⟨d, 0, none⟩), .pointer (some ⟨r, 0, none⟩), .agg (opCells 15 D a n v pB pL lB lL cB cL)] w fun e w' => e = .returned (.bool true) ∧ Keeps (fun _ => False) w w' := by
  obtain ⟨F, G, S, L, R, M, h1, h2, h3, h4, h5, h6⟩ := h
  have hkA : Keeps (fun _ => False) w (w.alloc (.cells (opCells 15 D a n v pB pL lB lL cB cL) 32)) := Keeps.of (World.grownBy_alloc w _ none) (by simp)
  obtain ⟨x0, x1, x2, x3, x4, x5, x6⟩ := op_cells (H := fun _ => False) (Keeps.refl (fun _ => False) (w.alloc (.cells (opCells 15 D a n v pB pL lB lL cB cL) 32))) (by simp)
  have d1 := h1.kept hkA (by simp)
  have d2 := h2.kept hkA (by simp)
  have hp := doubts_dev _ F d S L d1 (by rw [h3.steps]; omega)
  have HALL := Hid.mk' (show DevAt (w.alloc (.cells (opCells 15 D a n v pB pL lB lL cB cL) 32)) F d S L ∧ RefAt (w.alloc (.cells (opCells 15 D a n v pB pL lB lL cB cL) 32)) G r R M ∧ Rel S R ∧ R.now ≤ 100000000 from ⟨d1, d2, h3, by omega⟩)
  have HKA := Hid.mk' hkA
  clear h1 h2 h3 h4 h5 h6 hkA d1 d2
  go_enter Try.func15, Try.ntmps15
  go_wp2_with (first
    | (go_at_call 46; refine hp.mono ?_; rintro e w2 ⟨v2, ks, ng, rfl, hR, hrow, hng, hk2, hkl⟩
       obtain ⟨pa, ca, hva, _⟩ := row_form hrow
       subst hva
       have hq := rdoubts_any w2 G r R M (HALL.out.2.1.kept hk2 (by simp)) (by have := HALL.out.2.2.2; omega)
       have H2 := Hid.mk' (show ks = wordsOf (R.tsTo (8 * R.n)) ∧ DoubtsAt w2 pa ks.length (fun i => ks.getD i 0) (fun i => wordAt S.old (ks.getD i 0).toNat) (fun i => S.pd (ks.getD i 0)) ∧ Keeps (fun _ => False) w w2 from ⟨rising_unique hR (rising_ts HALL.out.1 HALL.out.2.2.1), doubtsAt_dev hrow (fun a ha => (hng a ha).2), HKA.out.trans hk2⟩)
       clear hp hR hrow hng hk2)
    | (go_at_call 47; refine hq.mono ?_; rintro e w3 ⟨v3, rfl, hd3, hk3⟩
       obtain ⟨pb, cb, hvb, hdb⟩ := doubtsAt_ref hd3
       subst hvb
       have hlen : ks.length = (R.tsTo (8 * R.n)).length := by rw [H2.out.1]; simp [wordsOf]
       have hn8 := HALL.out.2.2.1.nb
       have htl := tsTo_len R (8 * R.n)
       have hlt8 : ∀ i, i < (R.tsTo (8 * R.n)).length → (R.tsTo (8 * R.n)).getD i 0 < 8 * R.n := fun i hi => tsTo_lt R _ _ (by rw [List.getD_eq_getElem?_getD, List.getElem?_eq_getElem hi]; exact List.getElem_mem _)
       have hda : DoubtsAt w3 pa (R.tsTo (8 * R.n)).length (fun i => ((8 * (R.tsTo (8 * R.n)).getD i 0 : Nat) : Int)) (fun i => R.oldW ((R.tsTo (8 * R.n)).getD i 0)) (fun i => R.newsW ((R.tsTo (8 * R.n)).getD i 0)) := fun h0 => by
         obtain ⟨g, e1, e2⟩ := H2.out.2.1 (by omega)
         refine ⟨g, e1, fun i hi => ?_⟩
         obtain ⟨c1, c2, b, c, c3, c4⟩ := e2 i (by omega)
         have e5 : ks.getD i 0 = ((8 * (R.tsTo (8 * R.n)).getD i 0 : Nat) : Int) := by rw [H2.out.1]; exact wordsOf_get _ _ hi
         simp only [e5] at c1 c2 c3 c4
         rw [HALL.out.2.2.1.pd _ (hlt8 i hi)] at c3 c4
         have e6 : wordAt S.old (((8 * (R.tsTo (8 * R.n)).getD i 0 : Nat) : Int)).toNat = R.oldW ((R.tsTo (8 * R.n)).getD i 0) := HALL.out.2.2.1.old _ (hlt8 i hi)
         rw [e6] at c2
         exact ⟨hk3.cell c1 (by simp), hk3.cell c2 (by simp), b, c, hk3.cell c3 (by simp), fun j hj => hk3.cell (c4 j hj) (by simp)⟩
       have hsd := sameDoubts_yes w3 pa pb (R.tsTo (8 * R.n)).length ca cb _ _ _ hda hdb (by omega) (fun i hi => by
         have := newsW_len HALL.out.2.1 _ (hlt8 i hi)
         have := HALL.out.2.2.2
         omega)
       rw [hlen]
       have H3 := Hid.mk' (H2.out.2.2.trans hk3)
       clear hq hd3 hk3 hdb hda hlen hn8 htl hlt8)
    | (go_at_call 45; refine hsd.mono ?_; rintro e w4 ⟨rfl, qq, hw4⟩
       have H4 := Hid.mk' (H3.out.trans (keeps_drewN' (fun _ => False) _ _ _ hw4))
       clear hsd hw4))
  go_ret
  exact ⟨rfl, H4.out⟩

end Go.Proofs.Ytfiekdgpdboolac

namespace Go.Proofs.Ytfiekdgpdboolac
open Go.RowKit Go.Maps

set_option maxHeartbeats 2000000 in
set_option maxRecDepth 20000 in
theorem tells_view (w : World) (H : Nat → Prop) (d r : Nat) (N : Int) (D a n v : Int) (pB pL : Option Addr) (lB lL cB cL : Nat) (h : PairOK w H d r N) (hN : N ≤ 100000000) :
    Calls Try.prog 15 #[.pointer (some ⟨d, 0, none⟩), .pointer (some ⟨r, 0, none⟩), .agg (opCells 17 D a n v pB pL lB lL cB cL)] w fun e w' => e = .returned (.bool true) ∧ Keeps (fun _ => False) w w' := by
  obtain ⟨F, G, S, L, R, M, h1, h2, h3, h4, h5, h6⟩ := h
  have hkA : Keeps (fun _ => False) w (w.alloc (.cells (opCells 17 D a n v pB pL lB lL cB cL) 32)) := Keeps.of (World.grownBy_alloc w _ none) (by simp)
  obtain ⟨x0, x1, x2, x3, x4, x5, x6⟩ := op_cells (H := fun _ => False) (Keeps.refl (fun _ => False) (w.alloc (.cells (opCells 17 D a n v pB pL lB lL cB cL) 32))) (by simp)
  have d1 := h1.kept hkA (by simp)
  have d2 := h2.kept hkA (by simp)
  have hp := view_dev _ F d S L d1 (by rw [h3.steps]; omega)
  rw [rel_view d1 h3, h3.len] at hp
  have HALL := Hid.mk' (show RefAt (w.alloc (.cells (opCells 17 D a n v pB pL lB lL cB cL) 32)) G r R M ∧ R.now ≤ 100000000 ∧ R.n ≤ 8192 from ⟨d2, by omega, h3.nb.2⟩)
  have HKA := Hid.mk' hkA
  obtain ⟨bs, hbs⟩ : ∃ bs, bs = wordsB R.nowW (64 * R.n) := ⟨_, rfl⟩
  have hbl : bs.length = 64 * R.n := by rw [hbs]; simp [wordsB]
  have HBS := Hid.mk' (show bs = wordsB R.nowW (64 * R.n) ∧ bs.length = 64 * R.n from ⟨hbs, hbl⟩)
  rw [← hbs] at hp
  clear h1 h2 h3 h4 h5 h6 hkA d1 d2 hbs hbl
  go_enter Try.func15, Try.ntmps15
  go_wp2_with (first
    | (go_at_call 50; refine hp.mono ?_; rintro e w2 ⟨rfl, hb2, hk2⟩
       have hq := rview_any w2 G r R M (HALL.out.1.kept hk2 (by simp)) (by have := HALL.out.2.1; omega)
       rw [← HBS.out.1] at hq
       rw [World.size_alloc] at hb2
       have H2 := Hid.mk' (show w2.heap[w.heap.size + 1]? = some (.cells (u8s bs).toArray 5 (0, 0)) ∧ Keeps (fun _ => False) w w2 from ⟨hb2, HKA.out.trans hk2⟩)
       clear hp hb2 hk2)
    | (go_at_call 51; refine hq.mono ?_; rintro e w3 ⟨rfl, hb3, hk3⟩
       have hb2 := (hk3.block _ (heap_lt H2.out.1) (by simp)).trans H2.out.1
       have hsm := same_yes (w.heap.size + 1) w2.heap.size (64 * R.n) (64 * R.n) (64 * R.n) bs w3 (fun i hi => cells_u8 hb2 i (by have := HBS.out.2; omega)) (fun i hi => cells_u8 hb3 i (by have := HBS.out.2; omega)) (by have := HALL.out.2.2; omega)
       have H3 := Hid.mk' (H2.out.2.trans hk3)
       clear hq hb3 hk3 hb2)
    | (go_at_call 22; refine hsm.mono ?_; rintro e w4 ⟨rfl, qq, hw4⟩
       have H4 := Hid.mk' (H3.out.trans (keeps_drewN' (fun _ => False) _ _ _ hw4))
       clear hsm hw4))
  go_ret
  exact ⟨rfl, H4.out⟩

theorem intsAt_row {w : World} {base n c : Nat} {p : Option Addr} {bs : List Int} (h : w.ownsRow base 3 1 (.slice p n c) n (i64s bs)) (hn : bs.length = n) : IntsAt w p bs := by
  intro h0
  rcases h.2 with ⟨_, e2⟩ | ⟨g, cp, cur, e1, _⟩
  · omega
  · cases e1
    refine ⟨g, 0, rfl, (h.lt g rfl).2, fun i hi => ?_⟩
    rw [Nat.zero_add, h.cellAt i (by omega)]
    simp only [i64s, List.getElem?_map, List.getElem?_eq_getElem hi, List.getD_eq_getElem?_getD]
    rfl

set_option maxHeartbeats 4000000 in
set_option maxRecDepth 20000 in
theorem tells_crash (w : World) (H : Nat → Prop) (d r : Nat) (N : Int) (D a n v : Int) (pB pL : Option Addr) (lB : Nat) (cs : List Int) (cB cL : Nat) (h : PairOK w H d r N) (hN : N ≤ 100000000) (hLL : IntsAt w pL cs) (hl : cs.length * 8 ≤ 140737488351232) :
    Calls Try.prog 15 #[.pointer (some ⟨d, 0, none⟩), .pointer (some ⟨r, 0, none⟩), .agg (opCells 16 D a n v pB pL lB cs.length cB cL)] w fun e w' => e = .returned (.bool true) ∧ Keeps (fun _ => False) w w' := by
  obtain ⟨F, G, S, L, R, M, h1, h2, h3, h4, h5, h6⟩ := h
  have hkA : Keeps (fun _ => False) w (w.alloc (.cells (opCells 16 D a n v pB pL lB cs.length cB cL) 32)) := Keeps.of (World.grownBy_alloc w _ none) (by simp)
  obtain ⟨x0, x1, x2, x3, x4, x5, x6⟩ := op_cells (H := fun _ => False) (Keeps.refl (fun _ => False) (w.alloc (.cells (opCells 16 D a n v pB pL lB cs.length cB cL) 32))) (by simp)
  have HX := Hid.mk' (fun wr (k : Keeps (fun _ => False) (w.alloc (.cells (opCells 16 D a n v pB pL lB cs.length cB cL) 32)) wr) => op_cells (H := fun _ => False) k (by simp))
  have d1 := h1.kept hkA (by simp)
  have d2 := h2.kept hkA (by simp)
  have hcp := copyI_any _ pL cL cs (hLL.kept (X := fun _ => False) hkA (by simp)) hl
  have HALL := Hid.mk' (show DevAt (w.alloc (.cells (opCells 16 D a n v pB pL lB cs.length cB cL) 32)) F d S L ∧ RefAt (w.alloc (.cells (opCells 16 D a n v pB pL lB cs.length cB cL) 32)) G r R M ∧ Rel S R ∧ R.now ≤ 100000000 from ⟨d1, d2, h3, by omega⟩)
  have HKA := Hid.mk' hkA
  have HLL := Hid.mk' hLL
  obtain ⟨bs, hbs⟩ : ∃ bs, bs = wordsB (R.crashW cs) (64 * R.n) := ⟨_, rfl⟩
  have hbl : bs.length = 64 * R.n := by rw [hbs]; simp [wordsB]
  have HBS := Hid.mk' (show bs = wordsB (R.crashW cs) (64 * R.n) ∧ bs.length = 64 * R.n from ⟨hbs, hbl⟩)
  have HL := Hid.mk' (show cs.length ≤ maxLen by unfold maxLen; omega)
  clear h1 h2 h3 h4 h5 h6 hkA d1 d2 hbs hbl hLL
  go_enter Try.func15, Try.ntmps15
  go_wp2_with (first
    | (go_at_call 48; refine hcp.mono ?_; rintro e w2 ⟨vi, rfl, hown, hk2⟩
       obtain ⟨pi, ci, hvi, _⟩ := row_form hown
       subst hvi
       have hcr := crash_dev w2 F d S L (HALL.out.1.kept hk2 (by simp)) (by rw [HALL.out.2.2.1.steps]; have := HALL.out.2.2.2; omega) (by rw [HALL.out.2.2.1.len]; have := HALL.out.2.2.1.nb; omega) pi ci cs HL.out (intsAt_row hown rfl)
       rw [HALL.out.2.2.1.len] at hcr
       have H2 := Hid.mk' (show IntsAt w2 pi cs ∧ Keeps (fun _ => False) (w.alloc (.cells (opCells 16 D a n v pB pL lB cs.length cB cL) 32)) w2 from ⟨intsAt_row hown rfl, hk2⟩)
       clear hcp hown hk2)
    | (go_at_call 49; refine hcr.mono ?_; rintro e w3 ⟨ks, hR, rfl, hb3, hk3⟩
       rw [rel_crash HALL.out.1 HALL.out.2.2.1 ks cs hR, ← HBS.out.1] at hb3
       have H3 := Hid.mk' (show w3.heap[w2.heap.size]? = some (.cells (u8s bs).toArray 5 (0, 0)) ∧ Keeps (fun _ => False) (w.alloc (.cells (opCells 16 D a n v pB pL lB cs.length cB cL) 32)) w3 ∧ IntsAt w3 pi cs from ⟨hb3, H2.out.2.trans hk3, H2.out.1.kept hk3 (by simp)⟩)
       clear hcr hR hb3 hk3))
  clear x0 x1 x2 x3 x4 x5 x6
  go_loopw [9] (fun i wr => ∃ k : Nat, k ≤ cs.length ∧ i = .int .i64 k ∧ Hid (∃ q, wr = w3.drewN q)) (fun i _ => cs.length - (intOf i).toNat)
  case atStart => exact ⟨0, by omega, rfl, 0, rfl⟩
  case round =>
    obtain ⟨k, hk, rfl, hrel⟩ := hrel
    obtain ⟨q, hq⟩ := hrel
    have kk := keeps_drewN' (fun _ => False) _ _ _ hq
    obtain ⟨x0, x1, x2, x3, x4, x5, x6⟩ := HX.out wr (H3.out.2.1.trans kk)
    by_cases hlt : k < cs.length
    · obtain ⟨ga, oa, rfl, _, hca⟩ := (H3.out.2.2.kept kk (by simp)) (by omega)
      obtain ⟨gb, ob, rfl, _, hcb⟩ := (HLL.out.kept ((HKA.out.trans H3.out.2.1).trans kk) (by simp)) (by omega)
      have h1 := hca k hlt
      have h2 := hcb k hlt
      have h3 : (0 : Int) ≤ (k : Int) := by omega
      have h4 : (k : Int) < (cs.length : Int) := by omega
      generalize cs.getD k 0 = x at h1 h2
      have HQ := Hid.mk' hq
      clear hca hcb hq kk x0 x1 x2 x3 x4 x5
      go_upto_region 10 with fail
      go_quiet (fail)
      go_wp2
      go_roundw
      case rel => exact ⟨k + 1, by omega, by go_num, by obtain ⟨q0, e0⟩ : ∃ q0, wr = w3.drewN q0 := ⟨_, HQ.out⟩; rw [e0]; exact ⟨_, by simp; rfl⟩⟩
      case measure => simp [intOf]; omega
    · obtain rfl : k = cs.length := by omega
      have hcr := rcrash_any wr G r R M pL cL cs (HALL.out.2.1.kept (H3.out.2.1.trans kk) (by simp)) (by have := HALL.out.2.2.2; omega) HL.out (HLL.out.kept ((HKA.out.trans H3.out.2.1).trans kk) (by simp))
      rw [← HBS.out.1] at hcr
      have H6 := Hid.mk' (show wr.heap[w2.heap.size]? = some (.cells (u8s bs).toArray 5 (0, 0)) ∧ Keeps (fun _ => False) w wr from ⟨(kk.block _ (heap_lt H3.out.1) (by simp)).trans H3.out.1, (HKA.out.trans H3.out.2.1).trans kk⟩)
      have hlt' : ¬ (cs.length : Int) < (cs.length : Int) := by omega
      clear hq kk x0 x1 x2 x3 x4 x5 hlt hk
      go_wp2_with (first
        | (go_at_call 18; refine hcr.mono ?_; rintro e w7 ⟨rfl, hb7, hk7⟩
           have hb6 := (hk7.block _ (heap_lt H6.out.1) (by simp)).trans H6.out.1
           have hsm := same_yes w2.heap.size wr.heap.size (64 * R.n) (64 * R.n) (64 * R.n) bs w7 (fun i hi => cells_u8 hb6 i (by have := HBS.out.2; omega)) (fun i hi => cells_u8 hb7 i (by have := HBS.out.2; omega)) (by have := HALL.out.2.2.1.nb; omega)
           have H7 := Hid.mk' (H6.out.2.trans hk7)
           clear hcr hb7 hk7 hb6)
        | (go_at_call 22; refine hsm.mono ?_; rintro e w8 ⟨rfl, qq, hw8⟩
           have H8 := Hid.mk' (H7.out.trans (keeps_drewN' (fun _ => False) _ _ _ hw8))
           clear hsm hw8))
      go_ret
      exact ⟨rfl, H8.out⟩

end Go.Proofs.Ytfiekdgpdboolac
