import Derived.Test.YtfiekdgpdboolabP2
namespace Go.Proofs.Ytfiekdgpdboolab
open Go.RowKit Go.Maps

/-- What a Fence makes of a device, dead or not. -/
def St.fenceIf (S : St) : St := if S.isDead then S else S.fence

theorem fenceIf_len (S : St) : S.fenceIf.old.length = S.old.length := by
  unfold St.fenceIf
  split
  · rfl
  · simp [St.fence, fenced_len, St.tick]

theorem fenceIf_steps (S : St) : S.fenceIf.steps ≤ S.steps + 1 := by
  unfold St.fenceIf
  split
  · omega
  · show S.steps + 1 ≤ S.steps + 1
    omega

theorem fence_any (w : World) (F : Nat → Prop) (d : Nat) (S : St) (L : Lay) (h : DevAt w F d S L) (hs' : S.steps ≤ 1000000000) :
    Calls Try.prog 20 #[.pointer (some ⟨d, 0, none⟩)] w fun e w' => ∃ x, e = .returned (.int .i64 x) ∧ Moved F d w w' S.fenceIf := by
  by_cases hd : S.isDead = true
  · refine (fence_dead w F d S L h (isDead_yes hd).1 (isDead_yes hd).2).mono ?_
    rintro e w' ⟨rfl, rfl⟩
    exact ⟨13, rfl, by unfold St.fenceIf; rw [if_pos hd]; exact ⟨F, L, h, Keeps.refl _ _, fun k hk => Or.inl hk⟩⟩
  · refine (fence_dev w F d S L h hs' (isDead_no hd)).mono ?_
    rintro e w' ⟨rfl, hx⟩
    exact ⟨0, rfl, by unfold St.fenceIf; rw [if_neg hd]; exact hx⟩

theorem tmod_count {count m : Int} (hm : 0 < m) : ∃ cc : Nat, (cc : Int) < m ∧ ((count < 0 ∧ (count + 1).tmod m = -(cc : Int)) ∨ (¬ count < 0 ∧ count.tmod m = (cc : Int))) := by
  by_cases hneg : count < 0
  · have h1 := Int.emod_lt_of_pos (-(count + 1)) hm
    have h2 := Int.emod_nonneg (-(count + 1)) (show m ≠ 0 by omega)
    refine ⟨((-(count + 1)) % m).toNat, by omega, Or.inl ⟨hneg, ?_⟩⟩
    have h3 : (-(count + 1)).tmod m = (-(count + 1)) % m := Int.tmod_eq_emod_of_nonneg (by omega)
    rw [Int.neg_tmod] at h3
    omega
  · have h1 := Int.emod_lt_of_pos count hm
    have h2 := Int.emod_nonneg count (show m ≠ 0 by omega)
    refine ⟨(count % m).toNat, by omega, Or.inr ⟨hneg, ?_⟩⟩
    have h3 : count.tmod m = count % m := Int.tmod_eq_emod_of_nonneg (by omega)
    omega

set_option maxHeartbeats 4000000 in
set_option maxRecDepth 20000 in
theorem many_walk (w : World) (pages at_ from_ count left : Int) (p : Option Addr) (cap : Nat) (l : List Int) (hN : WordsAt w p l) (hl1 : l.length ≤ maxLen) (hcap : l.length ≤ cap)
    (hc1 : -9223372036854775808 ≤ count) (hc2 : count ≤ 9223372036854775807) :
    Calls Try.prog 3 #[.agg #[.int .i64 pages, .int .i64 at_, .slice p l.length cap, .int .i64 from_, .int .i64 count, .int .i64 left]] w fun e w' => e = .returned (.bool true) ∧ Below w.heap.size w w' := by
  obtain ⟨n, hn⟩ : ∃ n, n = sizeOf8 pages := ⟨_, rfl⟩
  have hsz := sizeOf8_le pages
  have hsize := size_any pages
  rw [← hn] at hsz hsize
  unfold maxLen at hl1
  obtain ⟨A, hA⟩ : ∃ A : Nat, wordOf at_ n = (A : Int) := Int.eq_ofNat_of_zero_le (wordOf_in at_ (show 8 ≤ n by omega)).1
  obtain ⟨a0, a1, a2⟩ := wordOf_in at_ (show 8 ≤ n by omega)
  rw [hA] at a0 a1 a2
  have hword := fun w => word_any at_ n w (by omega) (by omega)
  rw [hA] at hword
  obtain ⟨W, hW⟩ : ∃ W, W = wordOf from_ (8 * n) := ⟨_, rfl⟩
  have hwordf := fun w => word_any from_ (8 * n) w (by omega) (by omega)
  rw [show ((8 * n : Nat) : Int) = 8 * (n : Int) by omega, ← hW] at hwordf
  obtain ⟨b0, b1, b2⟩ := wordOf_in from_ (show 8 ≤ 8 * n by omega)
  rw [← hW] at b0 b1 b2
  obtain ⟨fr, hfr⟩ : ∃ fr : Nat, W / 8 = (fr : Int) := ⟨(W / 8).toNat, by omega⟩
  have hfr2 : fr < n := by omega
  have hWt : W.tdiv 8 = (fr : Int) := by rw [Int.tdiv_eq_ediv_of_nonneg b0]; exact hfr
  have hW9 : IntKind.i64.wrap (fr : Int) = (fr : Int) := wrap_id (by omega) (by omega)
  have hW1 : W ≤ 1000000 := by omega
  obtain ⟨mw, hmw⟩ : ∃ mw : Nat, ((n : Int) - (A : Int)).tdiv 8 = (mw : Int) ∧ 8 * mw + A ≤ n ∧ mw ≤ 512 := by
    refine ⟨(n - A) / 8, ?_, by omega, by omega⟩
    rw [Int.tdiv_eq_ediv_of_nonneg (by omega)]
    omega
  obtain ⟨hmw1, hmw2, hmw3⟩ := hmw
  obtain ⟨cc, hcc, hcount⟩ := tmod_count (count := count) (m := (n : Int) - (fr : Int) + 1) (by omega)
  have hcc2 : fr + cc ≤ n := by omega
  obtain ⟨lf, hlf, hlf2⟩ : ∃ lf : Int, left.tmod 200 = lf ∧ (0 ≤ left → 0 ≤ lf ∧ lf < 200) := ⟨_, rfl, fun h => by rw [Int.tmod_eq_emod_of_nonneg h]; omega⟩
  obtain ⟨S1, hS1, hS1o, hS1s, hS1a⟩ : ∃ S1 : St, S1 = (if 0 ≤ left then (St.fresh (List.replicate n 0)).arm lf else St.fresh (List.replicate n 0)) ∧ S1.old.length = n ∧ S1.steps = 0 ∧ (¬ 0 ≤ left → S1.armed = false) := by
    refine ⟨_, rfl, ?_, ?_, ?_⟩
    · split <;> simp [St.fresh, St.arm]
    · split <;> rfl
    · intro h; rw [if_neg h]; rfl
  obtain ⟨lw, hlw, hlw1, hlw2, hlwN⟩ : ∃ lw : List Int, lw = l.take mw ∧ 8 * lw.length + A ≤ n ∧ lw.length ≤ 512 ∧ WordsAt w p lw := ⟨_, rfl, by rw [List.length_take]; omega, by rw [List.length_take]; omega, hN.take mw⟩
  have HS1 := Hid.mk' (show S1 = (if 0 ≤ left then (St.fresh (List.replicate n 0)).arm lf else St.fresh (List.replicate n 0)) ∧ S1.old.length = n ∧ S1.steps = 0 ∧ (¬ 0 ≤ left → S1.armed = false) from ⟨hS1, hS1o, hS1s, hS1a⟩)
  have HLW := Hid.mk' (show WordsAt w p lw from hlwN)
  have HLV : Hid (∀ i, i < lw.length → 0 ≤ lw.getD i 0 ∧ lw.getD i 0 < 18446744073709551616) := fun i hi => by
    obtain ⟨_, _, _, _, hc⟩ := hlwN (by omega)
    exact (hc i hi).2
  obtain ⟨X1, T1, hX1⟩ : ∃ X1 T1, runStores S1 (A : Int) lw = (X1, T1) := ⟨_, _, rfl⟩
  obtain ⟨q, hq⟩ : ∃ q, q = fr / 64 := ⟨_, rfl⟩
  obtain ⟨m, hm⟩ : ∃ m, m = if cc = 0 then 0 else (fr + cc - 1) / 64 - q + 1 := ⟨_, rfl⟩
  obtain ⟨X2, T2, hX2⟩ : ∃ X2 T2, runFlushes T1 (64 * (q : Int)) m = (X2, T2) := ⟨_, _, rfl⟩
  have hmb : m ≤ 100 := by rw [hm]; split <;> omega
  have f1 := runStores_facts lw S1 (A : Int)
  have f2 := runFlushes_facts m T1 (64 * (q : Int))
  rw [hX1] at f1
  rw [hX2] at f2
  simp only at f1 f2
  have hT1o : T1.old.length = n := by rw [f1.1]; exact hS1o
  have hT2o : T2.old.length = n := by rw [f2.1]; exact hT1o
  have hT1s : T1.steps ≤ 512 := by omega
  have hT2s : T2.steps ≤ 612 := by omega
  have hX1a : ¬ 0 ≤ left → X1 = 0 := fun h => f1.2.2.2 (hS1a h)
  have hX2a : ¬ 0 ≤ left → X2 = 0 := fun h => f2.2.2.2 (f1.2.1.trans (hS1a h))
  have HT := Hid.mk' (show runStores S1 (A : Int) lw = (X1, T1) ∧ runFlushes T1 (64 * (q : Int)) m = (X2, T2) ∧ T1.old.length = n ∧ T2.old.length = n ∧ T1.steps ≤ 512 ∧ T2.steps ≤ 612 ∧ q = fr / 64 ∧ m = (if cc = 0 then 0 else (fr + cc - 1) / 64 - q + 1) from ⟨hX1, hX2, hT1o, hT2o, hT1s, hT2s, hq, hm⟩)
  obtain ⟨x0, hx0⟩ : ∃ x0 : Obj, x0 = .cells #[.int .i64 pages, .int .i64 at_, .slice p l.length cap, .int .i64 from_, .int .i64 count, .int .i64 left] 24 := ⟨_, rfl⟩
  have HBX : Hid (∀ wr, Keeps (fun k => w.heap.size + 1 ≤ k) (w.alloc x0) wr →
      (wr.cell? ⟨w.heap.size, 1, none⟩ = some (.int .i64 at_) ∧ wr.cell? ⟨w.heap.size, 2, none⟩ = some (.slice p l.length cap) ∧ wr.cell? ⟨w.heap.size, 3, none⟩ = some (.int .i64 from_) ∧
       wr.cell? ⟨w.heap.size, 4, none⟩ = some (.int .i64 count) ∧ wr.cell? ⟨w.heap.size, 5, none⟩ = some (.int .i64 left)) ∧
      Keeps (fun k => w.heap.size + 1 ≤ k) w wr) := by
    intro wr hk
    subst hx0
    have hb := (MapKept.heap_alloc w (.cells #[.int .i64 pages, .int .i64 at_, .slice p l.length cap, .int .i64 from_, .int .i64 count, .int .i64 left] 24)).1
    have hb2 := (hk.block _ (heap_lt hb) (by omega)).trans hb
    refine ⟨by simp [World.cell?, hb2], ?_⟩
    exact (Keeps.of (World.grownBy_alloc w _ none) (by simp)).trans hk
  have hcutw : ((mw : Int) < (l.length : Int) ∧ ∃ b o, p = some ⟨b, o, none⟩) ∨ (¬ (mw : Int) < (l.length : Int) ∧ lw = l) := by
    by_cases h : mw < l.length
    · obtain ⟨b, o, e, _⟩ := hN (by omega)
      exact Or.inl ⟨by omega, b, o, e⟩
    · exact Or.inr ⟨by omega, by rw [hlw, List.take_of_length_le (by omega)]⟩
  have hlwl : mw < l.length → lw.length = mw := fun h => by rw [hlw, List.length_take]; omega
  have hcase : 0 ≤ left ∨ ¬ 0 ≤ left := by omega
  have hnl : (0 : Int) ≤ (mw : Int) := by omega
  have hkw : ∀ w', Keeps (fun k => w.heap.size + 1 ≤ k) w w' → WordsAt w' p lw := fun w' k => hlwN.kept k (fun i hi => by omega)
  have HKW := Hid.mk' hkw
  have HPB : Hid (0 < lw.length → ∀ b o, p = some ⟨b, o, none⟩ → b < w.heap.size) := fun h0 b o e => by
    obtain ⟨b', o', e', hb', _⟩ := hlwN h0
    rw [e] at e'; cases e'; exact hb'
  subst hx0
  clear hn hA hW b1 b2 hfr hq hm f1 f2 hS1 hS1o hS1s hS1a hX1 hX2 hT1o hT2o hT1s hT2s hlw hN hlwN hkw
  rcases hcutw with ⟨hcw, pb, po, rfl⟩ | ⟨hcw, hll⟩
  · have HLL := Hid.mk' (hlwl (by omega))
    have hq1 : (mw : Int) ≤ (cap : Int) := by omega
    have hq2 : mw ≤ cap := by omega
    have hq3 : ¬ cap = 0 := by omega
    clear hlwl
    rcases hcase with hleft | hleft
    · rcases hcount with ⟨hneg, hx⟩ | ⟨hneg, hx⟩
      all_goals
        go_enter Try.func3, Try.ntmps3
        go_wp2_with (first
          | (go_at_call 9; refine (hsize _).mono ?_; rintro e w' ⟨rfl, hw⟩; subst w'; clear hsize)
          | (go_at_call 10; have hg0 := HG1.out; refine (made_yes n _ hsz.2.1 (by omega) hsz.2.2).mono ?_; rintro e w2 ⟨rfl, hw2⟩
             obtain ⟨F1, L1, F2, L2, hduo⟩ := duo_made HG1.out (going_made _ _ n hsz.1 hw2)
             rw [World.size_alloc] at hduo
             obtain ⟨⟨x1, x2, x3, x4, x5⟩, _⟩ := HBX.out _ hduo.keeps
             have harm := arm_dev w2 F1 (w.heap.size + 1 + 2) _ L1 lf hduo.one
             have HDUO := Hid.mk' hduo
             clear hg0 hw2 HG1 hduo)
          | (go_at_call 10; refine (made_yes n _ hsz.2.1 (by omega) hsz.2.2).mono ?_; rintro e w1 ⟨rfl, hw1⟩
             have HG1 := Hid.mk' (going_made _ _ n hsz.1 hw1)
             clear hw1)
          | (go_at_call 11; refine (hword _).mono ?_; rintro e w' ⟨rfl, hw⟩; subst w'; clear hword)
          | (go_at_call 11; refine (hwordf _).mono ?_; rintro e w' ⟨rfl, hw⟩; subst w'; clear hwordf)
          | (go_at_call 12; refine (harm (hlf2 hleft).1 (by have := hlf2 hleft; omega) rfl).mono ?_; rintro e w3 ⟨rfl, hx1, hx2⟩
             obtain ⟨F3, L3, hduo⟩ := HDUO.out.step ⟨F1, L1, hx1, hx2, fun k hk => Or.inl hk⟩ rfl
             obtain ⟨⟨x1, x2, x3, x4, x5⟩, _⟩ := HBX.out _ hduo.keeps
             have harm2 := arm_dev w3 F2 (w1.heap.size + 2) _ L2 lf hduo.two (hlf2 hleft).1 (by have := hlf2 hleft; omega) rfl
             have HDUO2 := Hid.mk' hduo
             clear harm hx1 hx2 HDUO hduo)
          | (go_at_call 12; refine harm2.mono ?_; rintro e w4 ⟨rfl, hx1, hx2⟩
             obtain ⟨F4, L4, hduo⟩ := HDUO2.out.swap.step ⟨F2, L2, hx1, hx2, fun k hk => Or.inl hk⟩ rfl
             have HDUO3 := Hid.mk' hduo.swap
             clear harm2 hx1 hx2 HDUO2 hduo)
          | (go_at_call 14; have hduo : Duo (w.alloc (.cells #[.int .i64 pages, .int .i64 at_, .slice (some ⟨pb, po, none⟩) l.length cap, .int .i64 from_, .int .i64 count, .int .i64 left] 24)) (w.heap.size + 1) n (w.heap.size + 1 + 2) (w1.heap.size + 2) F3 F4 S1 S1 L3 L4 w4 := by rw [HS1.out.1, if_pos hleft]; exact HDUO3.out
             have hla := laid_any w4 (some ⟨pb, po, none⟩) cap lw (HKW.out _ (HBX.out _ hduo.keeps).2) (by omega)
             try rw [HLL.out] at hla
             refine hla.mono ?_
             rintro e w5 ⟨qb, qc, rfl, ⟨hl5, hl6⟩, hk5⟩
             have hd5 := hduo.kept hk5
             have hwr := write_dev w5 F3 (w.heap.size + 1 + 2) S1 L3 A qb qc lw hd5.one (by first | exact hl5 | (rw [HLL.out]; exact hl5)) (fun h0 => by obtain ⟨g, e, g1, g2, g3⟩ := hl6 h0; exact ⟨g, e, fun hF => by have := hduo.one.fsz g hF; omega, g2, g3⟩) HLV.out a0 a2 (by have := HS1.out.2.1; omega) (by have := HS1.out.2.2.1; omega)
             rw [HT.out.1] at hwr
             try rw [HLL.out] at hwr
             have HD5 := Hid.mk' hd5
             clear hla hl5 hl6 hk5 hduo hd5)
          | (go_at_call 13; refine hwr.mono ?_; rintro e w6 ⟨rfl, hx6⟩
             obtain ⟨F6, L6, hd6⟩ := HD5.out.step hx6 (HT.out.2.2.1.trans HS1.out.2.1.symm)
             have hse := storeEach_dev w6 F4 (w1.heap.size + 2) S1 L4 A (some ⟨pb, po, none⟩) cap lw hd6.two (HKW.out _ (HBX.out _ hd6.keeps).2) (fun h0 b o e hF => by have := HPB.out h0 b o e; have := hd6.b2 b hF; omega) a0 a2 (by have := HS1.out.2.1; omega) (by have := HS1.out.2.2.1; omega)
             rw [HT.out.1] at hse
             try rw [HLL.out] at hse
             have HD6 := Hid.mk' hd6
             clear hwr hx6 HD5 hd6)
          | (go_at_call 15; refine hse.mono ?_; rintro e w7 ⟨rfl, hx7⟩
             obtain ⟨F7, L7, hd7⟩ := HD6.out.swap.step hx7 (HT.out.2.2.1.trans HS1.out.2.1.symm)
             obtain ⟨⟨_, _, _, _, x5⟩, _⟩ := HBX.out _ hd7.keeps
             have hfa := flushAll_gen w7 F6 (w.heap.size + 1 + 2) T1 L6 fr cc q m hd7.two (by rw [HT.out.2.2.1]; exact hsz.2.2) (by rw [HT.out.2.2.1]; omega) (by have := HT.out.2.2.2.2.1; omega) HT.out.2.2.2.2.2.2.1 HT.out.2.2.2.2.2.2.2
             rw [HT.out.2.1] at hfa
             have HD7 := Hid.mk' hd7.swap
             clear hse hx7 HD6 hd7)
          | (go_at_call 16; refine hfa.mono ?_; rintro e w8 ⟨rfl, hx8⟩
             obtain ⟨F8, L8, hd8⟩ := HD7.out.step hx8 (HT.out.2.2.2.1.trans HT.out.2.2.1.symm)
             have hfe := flushEach_dev w8 F7 (w1.heap.size + 2) T1 L7 fr cc q m hd8.two (by rw [HT.out.2.2.1]; exact hsz.2.2) (by rw [HT.out.2.2.1]; omega) (by have := HT.out.2.2.2.2.1; omega) HT.out.2.2.2.2.2.2.1 HT.out.2.2.2.2.2.2.2
             rw [HT.out.2.1] at hfe
             have HD8 := Hid.mk' hd8
             clear hfa hx8 HD7 hd8 x5)
          | (go_at_call 17; refine hfe.mono ?_; rintro e w9 ⟨rfl, hx9⟩
             obtain ⟨F9, L9, hd9⟩ := HD8.out.swap.step hx9 (HT.out.2.2.2.1.trans HT.out.2.2.1.symm)
             obtain ⟨⟨_, _, _, _, x5⟩, _⟩ := HBX.out _ hd9.keeps
             have hs1 := steps_dev hd9.two T2.steps rfl
             have hs2 := steps_dev hd9.one T2.steps rfl
             have hal := alike_yes w9 F8 F9 (w.heap.size + 1 + 2) (w1.heap.size + 2) n T2 T2 L8 L9 hd9.two hd9.one rfl rfl HT.out.2.2.2.1 (by omega) (by have := HT.out.2.2.2.2.2.1; omega) (by have := HT.out.2.2.2.2.2.1; omega)
             have HD9 := Hid.mk' hd9.swap
             clear hfe hx9 HD8 hd9)
          | (go_at_call 18; refine hs1.mono ?_; rintro e w' ⟨rfl, hw⟩; subst w'; clear hs1)
          | (go_at_call 18; refine hs2.mono ?_; rintro e w' ⟨rfl, hw⟩; subst w'; clear hs2)
          | (go_at_call 19; refine hal.mono ?_; rintro e w10 ⟨rfl, hk10⟩
             have hd10 := HD9.out.kept hk10
             have hf1 := fence_any w10 F8 (w.heap.size + 1 + 2) T2 L8 hd10.one (by have := HT.out.2.2.2.2.2.1; omega)
             have HD10 := Hid.mk' hd10
             clear hal hk10 HD9 hd10)
          | (go_at_call 20; refine hf1.mono ?_; rintro e w11 ⟨y1, rfl, hx11⟩
             obtain ⟨F11, L11, hd11⟩ := HD10.out.step hx11 (fenceIf_len _)
             have hf2 := fence_any w11 F9 (w1.heap.size + 2) T2 L9 hd11.two (by have := HT.out.2.2.2.2.2.1; omega)
             have HD11 := Hid.mk' hd11
             clear hf1 hx11 HD10 hd11)
          | (go_at_call 20; refine hf2.mono ?_; rintro e w12 ⟨y2, rfl, hx12⟩
             obtain ⟨F12, L12, hd12⟩ := HD11.out.swap.step hx12 (fenceIf_len _)
             have hal2 := alike_yes w12 F11 F12 (w.heap.size + 1 + 2) (w1.heap.size + 2) n T2.fenceIf T2.fenceIf L11 L12 hd12.two hd12.one rfl rfl ((fenceIf_len _).trans HT.out.2.2.2.1) (by omega) (by have := HT.out.2.2.2.2.2.1; have := fenceIf_steps T2; omega) (by have := HT.out.2.2.2.2.2.1; have := fenceIf_steps T2; omega)
             have HK12 := Hid.mk' (HBX.out _ hd12.keeps).2
             clear hf2 hx12 HD11 hd12)
          | (go_at_call 19; refine hal2.mono ?_; rintro e w13 ⟨rfl, hk13⟩
             have HK13 := Hid.mk' hk13
             clear hal2 hk13))
        go_ret
        exact ⟨rfl, (HK12.out.trans (HK13.out.mono (by simp))).below (Nat.le_refl _) (fun k hk => by omega)⟩
    · obtain rfl := hX1a hleft
      obtain rfl := hX2a hleft
      rcases hcount with ⟨hneg, hx⟩ | ⟨hneg, hx⟩
      all_goals
        go_enter Try.func3, Try.ntmps3
        go_wp2_with (first
          | (go_at_call 9; refine (hsize _).mono ?_; rintro e w' ⟨rfl, hw⟩; subst w'; clear hsize)
          | (go_at_call 10; have hg0 := HG1.out; refine (made_yes n _ hsz.2.1 (by omega) hsz.2.2).mono ?_; rintro e w2 ⟨rfl, hw2⟩
             obtain ⟨F1, L1, F2, L2, hduo⟩ := duo_made HG1.out (going_made _ _ n hsz.1 hw2)
             rw [World.size_alloc] at hduo
             obtain ⟨⟨x1, x2, x3, x4, x5⟩, _⟩ := HBX.out _ hduo.keeps
             have harm := arm_dev w2 F1 (w.heap.size + 1 + 2) _ L1 lf hduo.one
             have HDUO := Hid.mk' hduo
             clear hg0 hw2 HG1 hduo)
          | (go_at_call 10; refine (made_yes n _ hsz.2.1 (by omega) hsz.2.2).mono ?_; rintro e w1 ⟨rfl, hw1⟩
             have HG1 := Hid.mk' (going_made _ _ n hsz.1 hw1)
             clear hw1)
          | (go_at_call 11; refine (hword _).mono ?_; rintro e w' ⟨rfl, hw⟩; subst w'; clear hword)
          | (go_at_call 11; refine (hwordf _).mono ?_; rintro e w' ⟨rfl, hw⟩; subst w'; clear hwordf)
          | (go_at_call 12; refine (harm (hlf2 hleft).1 (by have := hlf2 hleft; omega) rfl).mono ?_; rintro e w3 ⟨rfl, hx1, hx2⟩
             obtain ⟨F3, L3, hduo⟩ := HDUO.out.step ⟨F1, L1, hx1, hx2, fun k hk => Or.inl hk⟩ rfl
             obtain ⟨⟨x1, x2, x3, x4, x5⟩, _⟩ := HBX.out _ hduo.keeps
             have harm2 := arm_dev w3 F2 (w1.heap.size + 2) _ L2 lf hduo.two (hlf2 hleft).1 (by have := hlf2 hleft; omega) rfl
             have HDUO2 := Hid.mk' hduo
             clear harm hx1 hx2 HDUO hduo)
          | (go_at_call 12; refine harm2.mono ?_; rintro e w4 ⟨rfl, hx1, hx2⟩
             obtain ⟨F4, L4, hduo⟩ := HDUO2.out.swap.step ⟨F2, L2, hx1, hx2, fun k hk => Or.inl hk⟩ rfl
             have HDUO3 := Hid.mk' hduo.swap
             clear harm2 hx1 hx2 HDUO2 hduo)
          | (go_at_call 14; have hduo : Duo (w.alloc (.cells #[.int .i64 pages, .int .i64 at_, .slice (some ⟨pb, po, none⟩) l.length cap, .int .i64 from_, .int .i64 count, .int .i64 left] 24)) (w.heap.size + 1) n (w.heap.size + 1 + 2) (w1.heap.size + 2) F1 F2 S1 S1 L1 L2 w2 := by rw [HS1.out.1, if_neg (show ¬ 0 ≤ left by omega)]; exact HDUO.out
             have hla := laid_any w2 (some ⟨pb, po, none⟩) cap lw (HKW.out _ (HBX.out _ hduo.keeps).2) (by omega)
             try rw [HLL.out] at hla
             refine hla.mono ?_
             rintro e w5 ⟨qb, qc, rfl, ⟨hl5, hl6⟩, hk5⟩
             have hd5 := hduo.kept hk5
             have hwr := write_dev w5 F1 (w.heap.size + 1 + 2) S1 L1 A qb qc lw hd5.one (by first | exact hl5 | (rw [HLL.out]; exact hl5)) (fun h0 => by obtain ⟨g, e, g1, g2, g3⟩ := hl6 h0; exact ⟨g, e, fun hF => by have := hduo.one.fsz g hF; omega, g2, g3⟩) HLV.out a0 a2 (by have := HS1.out.2.1; omega) (by have := HS1.out.2.2.1; omega)
             rw [HT.out.1] at hwr
             try rw [HLL.out] at hwr
             have HD5 := Hid.mk' hd5
             clear hla hl5 hl6 hk5 hduo hd5)
          | (go_at_call 13; refine hwr.mono ?_; rintro e w6 ⟨rfl, hx6⟩
             obtain ⟨F6, L6, hd6⟩ := HD5.out.step hx6 (HT.out.2.2.1.trans HS1.out.2.1.symm)
             have hse := storeEach_dev w6 F2 (w1.heap.size + 2) S1 L2 A (some ⟨pb, po, none⟩) cap lw hd6.two (HKW.out _ (HBX.out _ hd6.keeps).2) (fun h0 b o e hF => by have := HPB.out h0 b o e; have := hd6.b2 b hF; omega) a0 a2 (by have := HS1.out.2.1; omega) (by have := HS1.out.2.2.1; omega)
             rw [HT.out.1] at hse
             try rw [HLL.out] at hse
             have HD6 := Hid.mk' hd6
             clear hwr hx6 HD5 hd6)
          | (go_at_call 15; refine hse.mono ?_; rintro e w7 ⟨rfl, hx7⟩
             obtain ⟨F7, L7, hd7⟩ := HD6.out.swap.step hx7 (HT.out.2.2.1.trans HS1.out.2.1.symm)
             obtain ⟨⟨_, _, _, _, x5⟩, _⟩ := HBX.out _ hd7.keeps
             have hfa := flushAll_gen w7 F6 (w.heap.size + 1 + 2) T1 L6 fr cc q m hd7.two (by rw [HT.out.2.2.1]; exact hsz.2.2) (by rw [HT.out.2.2.1]; omega) (by have := HT.out.2.2.2.2.1; omega) HT.out.2.2.2.2.2.2.1 HT.out.2.2.2.2.2.2.2
             rw [HT.out.2.1] at hfa
             have HD7 := Hid.mk' hd7.swap
             clear hse hx7 HD6 hd7)
          | (go_at_call 16; refine hfa.mono ?_; rintro e w8 ⟨rfl, hx8⟩
             obtain ⟨F8, L8, hd8⟩ := HD7.out.step hx8 (HT.out.2.2.2.1.trans HT.out.2.2.1.symm)
             have hfe := flushEach_dev w8 F7 (w1.heap.size + 2) T1 L7 fr cc q m hd8.two (by rw [HT.out.2.2.1]; exact hsz.2.2) (by rw [HT.out.2.2.1]; omega) (by have := HT.out.2.2.2.2.1; omega) HT.out.2.2.2.2.2.2.1 HT.out.2.2.2.2.2.2.2
             rw [HT.out.2.1] at hfe
             have HD8 := Hid.mk' hd8
             clear hfa hx8 HD7 hd8 x5)
          | (go_at_call 17; refine hfe.mono ?_; rintro e w9 ⟨rfl, hx9⟩
             obtain ⟨F9, L9, hd9⟩ := HD8.out.swap.step hx9 (HT.out.2.2.2.1.trans HT.out.2.2.1.symm)
             obtain ⟨⟨_, _, _, _, x5⟩, _⟩ := HBX.out _ hd9.keeps
             have hs1 := steps_dev hd9.two T2.steps rfl
             have hs2 := steps_dev hd9.one T2.steps rfl
             have hal := alike_yes w9 F8 F9 (w.heap.size + 1 + 2) (w1.heap.size + 2) n T2 T2 L8 L9 hd9.two hd9.one rfl rfl HT.out.2.2.2.1 (by omega) (by have := HT.out.2.2.2.2.2.1; omega) (by have := HT.out.2.2.2.2.2.1; omega)
             have HD9 := Hid.mk' hd9.swap
             clear hfe hx9 HD8 hd9)
          | (go_at_call 18; refine hs1.mono ?_; rintro e w' ⟨rfl, hw⟩; subst w'; clear hs1)
          | (go_at_call 18; refine hs2.mono ?_; rintro e w' ⟨rfl, hw⟩; subst w'; clear hs2)
          | (go_at_call 19; refine hal.mono ?_; rintro e w10 ⟨rfl, hk10⟩
             have hd10 := HD9.out.kept hk10
             have hf1 := fence_any w10 F8 (w.heap.size + 1 + 2) T2 L8 hd10.one (by have := HT.out.2.2.2.2.2.1; omega)
             have HD10 := Hid.mk' hd10
             clear hal hk10 HD9 hd10)
          | (go_at_call 20; refine hf1.mono ?_; rintro e w11 ⟨y1, rfl, hx11⟩
             obtain ⟨F11, L11, hd11⟩ := HD10.out.step hx11 (fenceIf_len _)
             have hf2 := fence_any w11 F9 (w1.heap.size + 2) T2 L9 hd11.two (by have := HT.out.2.2.2.2.2.1; omega)
             have HD11 := Hid.mk' hd11
             clear hf1 hx11 HD10 hd11)
          | (go_at_call 20; refine hf2.mono ?_; rintro e w12 ⟨y2, rfl, hx12⟩
             obtain ⟨F12, L12, hd12⟩ := HD11.out.swap.step hx12 (fenceIf_len _)
             have hal2 := alike_yes w12 F11 F12 (w.heap.size + 1 + 2) (w1.heap.size + 2) n T2.fenceIf T2.fenceIf L11 L12 hd12.two hd12.one rfl rfl ((fenceIf_len _).trans HT.out.2.2.2.1) (by omega) (by have := HT.out.2.2.2.2.2.1; have := fenceIf_steps T2; omega) (by have := HT.out.2.2.2.2.2.1; have := fenceIf_steps T2; omega)
             have HK12 := Hid.mk' (HBX.out _ hd12.keeps).2
             clear hf2 hx12 HD11 hd12)
          | (go_at_call 19; refine hal2.mono ?_; rintro e w13 ⟨rfl, hk13⟩
             have HK13 := Hid.mk' hk13
             clear hal2 hk13))
        go_ret
        exact ⟨rfl, (HK12.out.trans (HK13.out.mono (by simp))).below (Nat.le_refl _) (fun k hk => by omega)⟩
  · have HLL := Hid.mk' (show lw.length = l.length by rw [hll])
    clear hlwl hll
    rcases hcase with hleft | hleft
    · rcases hcount with ⟨hneg, hx⟩ | ⟨hneg, hx⟩
      all_goals
        go_enter Try.func3, Try.ntmps3
        go_wp2_with (first
          | (go_at_call 9; refine (hsize _).mono ?_; rintro e w' ⟨rfl, hw⟩; subst w'; clear hsize)
          | (go_at_call 10; have hg0 := HG1.out; refine (made_yes n _ hsz.2.1 (by omega) hsz.2.2).mono ?_; rintro e w2 ⟨rfl, hw2⟩
             obtain ⟨F1, L1, F2, L2, hduo⟩ := duo_made HG1.out (going_made _ _ n hsz.1 hw2)
             rw [World.size_alloc] at hduo
             obtain ⟨⟨x1, x2, x3, x4, x5⟩, _⟩ := HBX.out _ hduo.keeps
             have harm := arm_dev w2 F1 (w.heap.size + 1 + 2) _ L1 lf hduo.one
             have HDUO := Hid.mk' hduo
             clear hg0 hw2 HG1 hduo)
          | (go_at_call 10; refine (made_yes n _ hsz.2.1 (by omega) hsz.2.2).mono ?_; rintro e w1 ⟨rfl, hw1⟩
             have HG1 := Hid.mk' (going_made _ _ n hsz.1 hw1)
             clear hw1)
          | (go_at_call 11; refine (hword _).mono ?_; rintro e w' ⟨rfl, hw⟩; subst w'; clear hword)
          | (go_at_call 11; refine (hwordf _).mono ?_; rintro e w' ⟨rfl, hw⟩; subst w'; clear hwordf)
          | (go_at_call 12; refine (harm (hlf2 hleft).1 (by have := hlf2 hleft; omega) rfl).mono ?_; rintro e w3 ⟨rfl, hx1, hx2⟩
             obtain ⟨F3, L3, hduo⟩ := HDUO.out.step ⟨F1, L1, hx1, hx2, fun k hk => Or.inl hk⟩ rfl
             obtain ⟨⟨x1, x2, x3, x4, x5⟩, _⟩ := HBX.out _ hduo.keeps
             have harm2 := arm_dev w3 F2 (w1.heap.size + 2) _ L2 lf hduo.two (hlf2 hleft).1 (by have := hlf2 hleft; omega) rfl
             have HDUO2 := Hid.mk' hduo
             clear harm hx1 hx2 HDUO hduo)
          | (go_at_call 12; refine harm2.mono ?_; rintro e w4 ⟨rfl, hx1, hx2⟩
             obtain ⟨F4, L4, hduo⟩ := HDUO2.out.swap.step ⟨F2, L2, hx1, hx2, fun k hk => Or.inl hk⟩ rfl
             have HDUO3 := Hid.mk' hduo.swap
             clear harm2 hx1 hx2 HDUO2 hduo)
          | (go_at_call 14; have hduo : Duo (w.alloc (.cells #[.int .i64 pages, .int .i64 at_, .slice p l.length cap, .int .i64 from_, .int .i64 count, .int .i64 left] 24)) (w.heap.size + 1) n (w.heap.size + 1 + 2) (w1.heap.size + 2) F3 F4 S1 S1 L3 L4 w4 := by rw [HS1.out.1, if_pos hleft]; exact HDUO3.out
             have hla := laid_any w4 p cap lw (HKW.out _ (HBX.out _ hduo.keeps).2) (by omega)
             try rw [HLL.out] at hla
             refine hla.mono ?_
             rintro e w5 ⟨qb, qc, rfl, ⟨hl5, hl6⟩, hk5⟩
             have hd5 := hduo.kept hk5
             have hwr := write_dev w5 F3 (w.heap.size + 1 + 2) S1 L3 A qb qc lw hd5.one (by first | exact hl5 | (rw [HLL.out]; exact hl5)) (fun h0 => by obtain ⟨g, e, g1, g2, g3⟩ := hl6 h0; exact ⟨g, e, fun hF => by have := hduo.one.fsz g hF; omega, g2, g3⟩) HLV.out a0 a2 (by have := HS1.out.2.1; omega) (by have := HS1.out.2.2.1; omega)
             rw [HT.out.1] at hwr
             try rw [HLL.out] at hwr
             have HD5 := Hid.mk' hd5
             clear hla hl5 hl6 hk5 hduo hd5)
          | (go_at_call 13; refine hwr.mono ?_; rintro e w6 ⟨rfl, hx6⟩
             obtain ⟨F6, L6, hd6⟩ := HD5.out.step hx6 (HT.out.2.2.1.trans HS1.out.2.1.symm)
             have hse := storeEach_dev w6 F4 (w1.heap.size + 2) S1 L4 A p cap lw hd6.two (HKW.out _ (HBX.out _ hd6.keeps).2) (fun h0 b o e hF => by have := HPB.out h0 b o e; have := hd6.b2 b hF; omega) a0 a2 (by have := HS1.out.2.1; omega) (by have := HS1.out.2.2.1; omega)
             rw [HT.out.1] at hse
             try rw [HLL.out] at hse
             have HD6 := Hid.mk' hd6
             clear hwr hx6 HD5 hd6)
          | (go_at_call 15; refine hse.mono ?_; rintro e w7 ⟨rfl, hx7⟩
             obtain ⟨F7, L7, hd7⟩ := HD6.out.swap.step hx7 (HT.out.2.2.1.trans HS1.out.2.1.symm)
             obtain ⟨⟨_, _, _, _, x5⟩, _⟩ := HBX.out _ hd7.keeps
             have hfa := flushAll_gen w7 F6 (w.heap.size + 1 + 2) T1 L6 fr cc q m hd7.two (by rw [HT.out.2.2.1]; exact hsz.2.2) (by rw [HT.out.2.2.1]; omega) (by have := HT.out.2.2.2.2.1; omega) HT.out.2.2.2.2.2.2.1 HT.out.2.2.2.2.2.2.2
             rw [HT.out.2.1] at hfa
             have HD7 := Hid.mk' hd7.swap
             clear hse hx7 HD6 hd7)
          | (go_at_call 16; refine hfa.mono ?_; rintro e w8 ⟨rfl, hx8⟩
             obtain ⟨F8, L8, hd8⟩ := HD7.out.step hx8 (HT.out.2.2.2.1.trans HT.out.2.2.1.symm)
             have hfe := flushEach_dev w8 F7 (w1.heap.size + 2) T1 L7 fr cc q m hd8.two (by rw [HT.out.2.2.1]; exact hsz.2.2) (by rw [HT.out.2.2.1]; omega) (by have := HT.out.2.2.2.2.1; omega) HT.out.2.2.2.2.2.2.1 HT.out.2.2.2.2.2.2.2
             rw [HT.out.2.1] at hfe
             have HD8 := Hid.mk' hd8
             clear hfa hx8 HD7 hd8 x5)
          | (go_at_call 17; refine hfe.mono ?_; rintro e w9 ⟨rfl, hx9⟩
             obtain ⟨F9, L9, hd9⟩ := HD8.out.swap.step hx9 (HT.out.2.2.2.1.trans HT.out.2.2.1.symm)
             obtain ⟨⟨_, _, _, _, x5⟩, _⟩ := HBX.out _ hd9.keeps
             have hs1 := steps_dev hd9.two T2.steps rfl
             have hs2 := steps_dev hd9.one T2.steps rfl
             have hal := alike_yes w9 F8 F9 (w.heap.size + 1 + 2) (w1.heap.size + 2) n T2 T2 L8 L9 hd9.two hd9.one rfl rfl HT.out.2.2.2.1 (by omega) (by have := HT.out.2.2.2.2.2.1; omega) (by have := HT.out.2.2.2.2.2.1; omega)
             have HD9 := Hid.mk' hd9.swap
             clear hfe hx9 HD8 hd9)
          | (go_at_call 18; refine hs1.mono ?_; rintro e w' ⟨rfl, hw⟩; subst w'; clear hs1)
          | (go_at_call 18; refine hs2.mono ?_; rintro e w' ⟨rfl, hw⟩; subst w'; clear hs2)
          | (go_at_call 19; refine hal.mono ?_; rintro e w10 ⟨rfl, hk10⟩
             have hd10 := HD9.out.kept hk10
             have hf1 := fence_any w10 F8 (w.heap.size + 1 + 2) T2 L8 hd10.one (by have := HT.out.2.2.2.2.2.1; omega)
             have HD10 := Hid.mk' hd10
             clear hal hk10 HD9 hd10)
          | (go_at_call 20; refine hf1.mono ?_; rintro e w11 ⟨y1, rfl, hx11⟩
             obtain ⟨F11, L11, hd11⟩ := HD10.out.step hx11 (fenceIf_len _)
             have hf2 := fence_any w11 F9 (w1.heap.size + 2) T2 L9 hd11.two (by have := HT.out.2.2.2.2.2.1; omega)
             have HD11 := Hid.mk' hd11
             clear hf1 hx11 HD10 hd11)
          | (go_at_call 20; refine hf2.mono ?_; rintro e w12 ⟨y2, rfl, hx12⟩
             obtain ⟨F12, L12, hd12⟩ := HD11.out.swap.step hx12 (fenceIf_len _)
             have hal2 := alike_yes w12 F11 F12 (w.heap.size + 1 + 2) (w1.heap.size + 2) n T2.fenceIf T2.fenceIf L11 L12 hd12.two hd12.one rfl rfl ((fenceIf_len _).trans HT.out.2.2.2.1) (by omega) (by have := HT.out.2.2.2.2.2.1; have := fenceIf_steps T2; omega) (by have := HT.out.2.2.2.2.2.1; have := fenceIf_steps T2; omega)
             have HK12 := Hid.mk' (HBX.out _ hd12.keeps).2
             clear hf2 hx12 HD11 hd12)
          | (go_at_call 19; refine hal2.mono ?_; rintro e w13 ⟨rfl, hk13⟩
             have HK13 := Hid.mk' hk13
             clear hal2 hk13))
        go_ret
        exact ⟨rfl, (HK12.out.trans (HK13.out.mono (by simp))).below (Nat.le_refl _) (fun k hk => by omega)⟩
    · obtain rfl := hX1a hleft
      obtain rfl := hX2a hleft
      rcases hcount with ⟨hneg, hx⟩ | ⟨hneg, hx⟩
      all_goals
        go_enter Try.func3, Try.ntmps3
        go_wp2_with (first
          | (go_at_call 9; refine (hsize _).mono ?_; rintro e w' ⟨rfl, hw⟩; subst w'; clear hsize)
          | (go_at_call 10; have hg0 := HG1.out; refine (made_yes n _ hsz.2.1 (by omega) hsz.2.2).mono ?_; rintro e w2 ⟨rfl, hw2⟩
             obtain ⟨F1, L1, F2, L2, hduo⟩ := duo_made HG1.out (going_made _ _ n hsz.1 hw2)
             rw [World.size_alloc] at hduo
             obtain ⟨⟨x1, x2, x3, x4, x5⟩, _⟩ := HBX.out _ hduo.keeps
             have harm := arm_dev w2 F1 (w.heap.size + 1 + 2) _ L1 lf hduo.one
             have HDUO := Hid.mk' hduo
             clear hg0 hw2 HG1 hduo)
          | (go_at_call 10; refine (made_yes n _ hsz.2.1 (by omega) hsz.2.2).mono ?_; rintro e w1 ⟨rfl, hw1⟩
             have HG1 := Hid.mk' (going_made _ _ n hsz.1 hw1)
             clear hw1)
          | (go_at_call 11; refine (hword _).mono ?_; rintro e w' ⟨rfl, hw⟩; subst w'; clear hword)
          | (go_at_call 11; refine (hwordf _).mono ?_; rintro e w' ⟨rfl, hw⟩; subst w'; clear hwordf)
          | (go_at_call 12; refine (harm (hlf2 hleft).1 (by have := hlf2 hleft; omega) rfl).mono ?_; rintro e w3 ⟨rfl, hx1, hx2⟩
             obtain ⟨F3, L3, hduo⟩ := HDUO.out.step ⟨F1, L1, hx1, hx2, fun k hk => Or.inl hk⟩ rfl
             obtain ⟨⟨x1, x2, x3, x4, x5⟩, _⟩ := HBX.out _ hduo.keeps
             have harm2 := arm_dev w3 F2 (w1.heap.size + 2) _ L2 lf hduo.two (hlf2 hleft).1 (by have := hlf2 hleft; omega) rfl
             have HDUO2 := Hid.mk' hduo
             clear harm hx1 hx2 HDUO hduo)
          | (go_at_call 12; refine harm2.mono ?_; rintro e w4 ⟨rfl, hx1, hx2⟩
             obtain ⟨F4, L4, hduo⟩ := HDUO2.out.swap.step ⟨F2, L2, hx1, hx2, fun k hk => Or.inl hk⟩ rfl
             have HDUO3 := Hid.mk' hduo.swap
             clear harm2 hx1 hx2 HDUO2 hduo)
          | (go_at_call 14; have hduo : Duo (w.alloc (.cells #[.int .i64 pages, .int .i64 at_, .slice p l.length cap, .int .i64 from_, .int .i64 count, .int .i64 left] 24)) (w.heap.size + 1) n (w.heap.size + 1 + 2) (w1.heap.size + 2) F1 F2 S1 S1 L1 L2 w2 := by rw [HS1.out.1, if_neg (show ¬ 0 ≤ left by omega)]; exact HDUO.out
             have hla := laid_any w2 p cap lw (HKW.out _ (HBX.out _ hduo.keeps).2) (by omega)
             try rw [HLL.out] at hla
             refine hla.mono ?_
             rintro e w5 ⟨qb, qc, rfl, ⟨hl5, hl6⟩, hk5⟩
             have hd5 := hduo.kept hk5
             have hwr := write_dev w5 F1 (w.heap.size + 1 + 2) S1 L1 A qb qc lw hd5.one (by first | exact hl5 | (rw [HLL.out]; exact hl5)) (fun h0 => by obtain ⟨g, e, g1, g2, g3⟩ := hl6 h0; exact ⟨g, e, fun hF => by have := hduo.one.fsz g hF; omega, g2, g3⟩) HLV.out a0 a2 (by have := HS1.out.2.1; omega) (by have := HS1.out.2.2.1; omega)
             rw [HT.out.1] at hwr
             try rw [HLL.out] at hwr
             have HD5 := Hid.mk' hd5
             clear hla hl5 hl6 hk5 hduo hd5)
          | (go_at_call 13; refine hwr.mono ?_; rintro e w6 ⟨rfl, hx6⟩
             obtain ⟨F6, L6, hd6⟩ := HD5.out.step hx6 (HT.out.2.2.1.trans HS1.out.2.1.symm)
             have hse := storeEach_dev w6 F2 (w1.heap.size + 2) S1 L2 A p cap lw hd6.two (HKW.out _ (HBX.out _ hd6.keeps).2) (fun h0 b o e hF => by have := HPB.out h0 b o e; have := hd6.b2 b hF; omega) a0 a2 (by have := HS1.out.2.1; omega) (by have := HS1.out.2.2.1; omega)
             rw [HT.out.1] at hse
             try rw [HLL.out] at hse
             have HD6 := Hid.mk' hd6
             clear hwr hx6 HD5 hd6)
          | (go_at_call 15; refine hse.mono ?_; rintro e w7 ⟨rfl, hx7⟩
             obtain ⟨F7, L7, hd7⟩ := HD6.out.swap.step hx7 (HT.out.2.2.1.trans HS1.out.2.1.symm)
             obtain ⟨⟨_, _, _, _, x5⟩, _⟩ := HBX.out _ hd7.keeps
             have hfa := flushAll_gen w7 F6 (w.heap.size + 1 + 2) T1 L6 fr cc q m hd7.two (by rw [HT.out.2.2.1]; exact hsz.2.2) (by rw [HT.out.2.2.1]; omega) (by have := HT.out.2.2.2.2.1; omega) HT.out.2.2.2.2.2.2.1 HT.out.2.2.2.2.2.2.2
             rw [HT.out.2.1] at hfa
             have HD7 := Hid.mk' hd7.swap
             clear hse hx7 HD6 hd7)
          | (go_at_call 16; refine hfa.mono ?_; rintro e w8 ⟨rfl, hx8⟩
             obtain ⟨F8, L8, hd8⟩ := HD7.out.step hx8 (HT.out.2.2.2.1.trans HT.out.2.2.1.symm)
             have hfe := flushEach_dev w8 F7 (w1.heap.size + 2) T1 L7 fr cc q m hd8.two (by rw [HT.out.2.2.1]; exact hsz.2.2) (by rw [HT.out.2.2.1]; omega) (by have := HT.out.2.2.2.2.1; omega) HT.out.2.2.2.2.2.2.1 HT.out.2.2.2.2.2.2.2
             rw [HT.out.2.1] at hfe
             have HD8 := Hid.mk' hd8
             clear hfa hx8 HD7 hd8 x5)
          | (go_at_call 17; refine hfe.mono ?_; rintro e w9 ⟨rfl, hx9⟩
             obtain ⟨F9, L9, hd9⟩ := HD8.out.swap.step hx9 (HT.out.2.2.2.1.trans HT.out.2.2.1.symm)
             obtain ⟨⟨_, _, _, _, x5⟩, _⟩ := HBX.out _ hd9.keeps
             have hs1 := steps_dev hd9.two T2.steps rfl
             have hs2 := steps_dev hd9.one T2.steps rfl
             have hal := alike_yes w9 F8 F9 (w.heap.size + 1 + 2) (w1.heap.size + 2) n T2 T2 L8 L9 hd9.two hd9.one rfl rfl HT.out.2.2.2.1 (by omega) (by have := HT.out.2.2.2.2.2.1; omega) (by have := HT.out.2.2.2.2.2.1; omega)
             have HD9 := Hid.mk' hd9.swap
             clear hfe hx9 HD8 hd9)
          | (go_at_call 18; refine hs1.mono ?_; rintro e w' ⟨rfl, hw⟩; subst w'; clear hs1)
          | (go_at_call 18; refine hs2.mono ?_; rintro e w' ⟨rfl, hw⟩; subst w'; clear hs2)
          | (go_at_call 19; refine hal.mono ?_; rintro e w10 ⟨rfl, hk10⟩
             have hd10 := HD9.out.kept hk10
             have hf1 := fence_any w10 F8 (w.heap.size + 1 + 2) T2 L8 hd10.one (by have := HT.out.2.2.2.2.2.1; omega)
             have HD10 := Hid.mk' hd10
             clear hal hk10 HD9 hd10)
          | (go_at_call 20; refine hf1.mono ?_; rintro e w11 ⟨y1, rfl, hx11⟩
             obtain ⟨F11, L11, hd11⟩ := HD10.out.step hx11 (fenceIf_len _)
             have hf2 := fence_any w11 F9 (w1.heap.size + 2) T2 L9 hd11.two (by have := HT.out.2.2.2.2.2.1; omega)
             have HD11 := Hid.mk' hd11
             clear hf1 hx11 HD10 hd11)
          | (go_at_call 20; refine hf2.mono ?_; rintro e w12 ⟨y2, rfl, hx12⟩
             obtain ⟨F12, L12, hd12⟩ := HD11.out.swap.step hx12 (fenceIf_len _)
             have hal2 := alike_yes w12 F11 F12 (w.heap.size + 1 + 2) (w1.heap.size + 2) n T2.fenceIf T2.fenceIf L11 L12 hd12.two hd12.one rfl rfl ((fenceIf_len _).trans HT.out.2.2.2.1) (by omega) (by have := HT.out.2.2.2.2.2.1; have := fenceIf_steps T2; omega) (by have := HT.out.2.2.2.2.2.1; have := fenceIf_steps T2; omega)
             have HK12 := Hid.mk' (HBX.out _ hd12.keeps).2
             clear hf2 hx12 HD11 hd12)
          | (go_at_call 19; refine hal2.mono ?_; rintro e w13 ⟨rfl, hk13⟩
             have HK13 := Hid.mk' hk13
             clear hal2 hk13))
        go_ret
        exact ⟨rfl, (HK12.out.trans (HK13.out.mono (by simp))).below (Nat.le_refl _) (fun k hk => by omega)⟩

end Go.Proofs.Ytfiekdgpdboolab
