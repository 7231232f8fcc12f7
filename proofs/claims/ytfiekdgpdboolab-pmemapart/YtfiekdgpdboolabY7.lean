import Derived.Test.YtfiekdgpdboolabY6c
import Derived.Deep.RegionHeld3
import Derived.BigRegion
namespace Go.Proofs.Ytfiekdgpdboolab
open Go.RowKit Go.Maps

theorem ld_start (w : World) (B m : Nat) (v : Value) (ds : List Dbt) (hrow : w.ownsRow B 82 3 v ds.length (dCells ds))
    (hnews : ∀ (j : Nat) (x : Dbt), ds[j]? = some x → B ≤ x.g ∧ 0 < x.n ∧ x.n ≤ 1000 ∧ ∃ f, w.rowIs x.g 47 x.n f) :
    LD w ((w.alloc (.cells #[.slice none 0 0, .slice none 0 0, .slice none 0 0, .slice none 0 0, .int .i64 0] 60)).alloc (.cells #[v, .slice none 0 0, .slice none 0 0, .slice none 0 0, .int .i64 m] 60)) B w.heap.size (w.heap.size + 1) m v (.slice none 0 0) (.slice none 0 0) (.slice none 0 0) ds 0 0 (fun j _ => j < 0) := by
  have h1 := (MapKept.heap_alloc w (.cells #[.slice none 0 0, .slice none 0 0, .slice none 0 0, .slice none 0 0, .int .i64 0] 60)).1
  have h2 := (MapKept.heap_alloc (w.alloc (.cells #[.slice none 0 0, .slice none 0 0, .slice none 0 0, .slice none 0 0, .int .i64 0] 60)) (.cells #[v, .slice none 0 0, .slice none 0 0, .slice none 0 0, .int .i64 m] 60)).1
  rw [World.size_alloc] at h2
  refine ⟨(Below.heap_alloc _ _ _ (by simp)).trans h1, h2, ⟨ds, MarkedTo.zero m ds, (hrow.alloc _).alloc _⟩, by simpa [nCells] using World.ownsRow_nil _ B 22 1, fun j x hx => ?_, ?_⟩
  · obtain ⟨q1, _, _, f, q2⟩ := hnews j x hx
    exact ⟨q1, f, (q2.alloc _).alloc _, fun i _ hD => absurd hD (by omega)⟩
  · exact (Keeps.of (World.grownBy_alloc w _ none) (by simp)).step (World.grownBy_alloc _ _ none) (by simp)

theorem set5_stage {w : World} {R : Nat} {a b c d e : Value} {t : TypeId} (h : w.heap[R]? = some (.cells #[a, b, c, d, e] t (0, 0))) (x y z u v : Value) :
    (w.setCell ⟨R, 0, none⟩ x).cell? ⟨R, 0, none⟩ = some x ∧ ((w.setCell ⟨R, 0, none⟩ x).setCell ⟨R, 1, none⟩ y).cell? ⟨R, 1, none⟩ = some y ∧
    (((w.setCell ⟨R, 0, none⟩ x).setCell ⟨R, 1, none⟩ y).setCell ⟨R, 2, none⟩ z).cell? ⟨R, 2, none⟩ = some z ∧
    ((((w.setCell ⟨R, 0, none⟩ x).setCell ⟨R, 1, none⟩ y).setCell ⟨R, 2, none⟩ z).setCell ⟨R, 3, none⟩ u).cell? ⟨R, 3, none⟩ = some u ∧
    (((((w.setCell ⟨R, 0, none⟩ x).setCell ⟨R, 1, none⟩ y).setCell ⟨R, 2, none⟩ z).setCell ⟨R, 3, none⟩ u).setCell ⟨R, 4, none⟩ v).cell? ⟨R, 4, none⟩ = some v := by
  have h1 := setCell_block (a := ⟨R, 0, none⟩) (v := x) h rfl
  have h2 := setCell_block (a := ⟨R, 1, none⟩) (v := y) h1 rfl
  have h3 := setCell_block (a := ⟨R, 2, none⟩) (v := z) h2 rfl
  have h4 := setCell_block (a := ⟨R, 3, none⟩) (v := u) h3 rfl
  have h5 := setCell_block (a := ⟨R, 4, none⟩) (v := v) h4 rfl
  simp at h1 h2 h3 h4 h5
  exact ⟨by simp [World.cell?, h1], by simp [World.cell?, h2], by simp [World.cell?, h3], by simp [World.cell?, h4], by simp [World.cell?, h5]⟩

theorem grown5 (w : World) (R : Nat) (x y z u v : Value) : w.grownBy (((((w.setCell ⟨R, 0, none⟩ x).setCell ⟨R, 1, none⟩ y).setCell ⟨R, 2, none⟩ z).setCell ⟨R, 3, none⟩ u).setCell ⟨R, 4, none⟩ v) (some R) :=
  grownBy_trans (grownBy_trans (grownBy_trans (grownBy_trans (grownBy_setCell _ ⟨R, 0, none⟩ _) (grownBy_setCell _ ⟨R, 1, none⟩ _)) (grownBy_setCell _ ⟨R, 2, none⟩ _)) (grownBy_setCell _ ⟨R, 3, none⟩ _)) (grownBy_setCell _ ⟨R, 4, none⟩ _)

set_option maxHeartbeats 2000000 in
set_option maxRecDepth 20000 in
theorem lendDoubts_any (w : World) (B : Nat) (v : Value) (m : Nat) (ds : List Dbt) (hrow : w.ownsRow B 82 3 v ds.length (dCells ds))
    (hnews : ∀ (j : Nat) (x : Dbt), ds[j]? = some x → B ≤ x.g ∧ 0 < x.n ∧ x.n ≤ 1000 ∧ ∃ f, w.rowIs x.g 47 x.n f)
    (hd : Dist ds) (hB : B ≤ w.heap.size) (hm : m ≤ 100) (hl : ds.length ≤ 1000) :
    Calls Try.prog 26 #[v, .int .i64 m] w fun e w' => ∃ t : Told1, e = .returned (.agg t.five.toArray) ∧ t.Ok w' (fun b => B ≤ b ∧ b < w'.heap.size) ∧ Keeps (fun b => B ≤ b) w w' := by
  obtain ⟨p, cap, rfl, hcap, hp⟩ := row_open hrow
  obtain ⟨i0, hi, hz0, hz1, hz2⟩ := info_parts infoN
  have HST := Hid.mk' (ld_start w B m _ ds hrow hnews)
  have HP := Hid.mk' hp
  have HN := Hid.mk' (show ∀ (j : Nat) (x : Dbt), ds[j]? = some x → 0 < x.n ∧ x.n ≤ 1000 from fun j x h => ⟨(hnews j x h).2.1, (hnews j x h).2.2.1⟩)
  have HD := Hid.mk' hd
  obtain ⟨n, hn⟩ : ∃ n, n = ds.length := ⟨_, rfl⟩
  rw [← hn] at hcap hl HST HP
  rw [← hn]
  have HLEN := Hid.mk' hn
  clear hrow hp hnews hd hn
  go_enter Try.func26, Try.ntmps26
  go_wp2
  go_loopw [6] (fun i wr => ∃ k : Nat, k ≤ n ∧ i = .int .i64 k ∧ ∃ vN, Hid (LD w wr B w.heap.size (w.heap.size + 1) m (.slice p n cap) (.slice none 0 0) vN (.slice none 0 0) ds k k (fun j _ => j < k))) (fun i _ => n - (intOf i).toNat)
  case atStart => exact ⟨0, by omega, rfl, _, HST.out⟩
  case round =>
    obtain ⟨k, hk, rfl, vN, hrel⟩ := hrel
    by_cases hlt : k < n
    · obtain ⟨x, hx⟩ : ∃ x, ds[k]? = some x := ⟨_, List.getElem?_eq_getElem (by rw [← HLEN.out]; exact hlt)⟩
      obtain ⟨b, rfl, _⟩ := HP.out (by omega)
      obtain ⟨l, hml, hrow⟩ := hrel.out.l
      have hlk : l[k]? = some x := by rw [hml.2 k x hx, if_neg (by omega)]
      rw [← HLEN.out] at hrow
      obtain ⟨d0, d1, d2⟩ := dCells_get l k x hlk
      have c0 := (hrow.cellAt (k * 3) (by omega)).trans d0
      have c1 := (hrow.cellAt (k * 3 + 1) (by omega)).trans d1
      have c2 := (hrow.cellAt (k * 3 + 2) (by omega)).trans d2
      have f0 := hrow.frozenAt (k * 3)
      have f1 := hrow.frozenAt (k * 3 + 1)
      have HL2 := Hid.mk' (hrel.out.two hx (by rw [HLEN.out]))
      have hw : IntKind.u64.wrap (1000 * (m : Int) + (k : Int)) = 1000 * (m : Int) + (k : Int) := by simp [IntKind.wrap, IntKind.signed, IntKind.bits]; omega
      have h3 : (0 : Int) ≤ (k : Int) := by omega
      have h4 : (k : Int) < (n : Int) := by omega
      clear hrow hml hlk d0 d1 d2 HST
      go_upto_region 7 with fail
      generalize ((wr.setCell ⟨b, k * 3, none⟩ (.int .i64 (-1000 * (m : Int) - (k : Int) - 1))).setCell ⟨b, k * 3 + 1, none⟩ (.int .u64 (1000 * (m : Int) + (k : Int)))) = w2 at HL2 ⊢
      clear c0 c1 c2 f0 f1 hrel hw
      have HSK : Hid (∀ wx, Turns 22 w2 wx → wx.cell? ⟨w.heap.size + 1, 2, none⟩ = some vN ∧ wx.cell? ⟨b, k * 3 + 2, none⟩ = some (.slice (some ⟨x.g, 0, none⟩) x.n x.n) ∧ wx.frozen? ⟨w.heap.size + 1, 2, none⟩ = false) := by
        intro wx hT
        have ht := hT.blk _ _ _ _ HL2.out.t (by decide)
        obtain ⟨l, hml, hrow⟩ := HL2.out.l
        have hlk : l[k]? = some (mk1 m k x) := by rw [hml.2 k x hx, if_pos (by omega)]
        rw [← HLEN.out] at hrow
        refine ⟨by simp [World.cell?, ht], ?_, by simp [World.frozen?, ht]⟩
        exact ((hT.row hrow (by decide)).cellAt (k * 3 + 2) (by omega)).trans (dCells_get l k _ hlk).2.2
      have hN := HL2.out.nr
      have hBs := Nat.le_trans hB HL2.out.keeps.size
      have HK0 := Hid.mk' (turns_drew 22 w2)
      have hN1 := hN.alloc (.cells #[.slice (some ⟨x.g, 0, none⟩) x.n x.n] 22)
      have HK1 := Hid.mk' (turns_alloc 22 w2 (.cells #[.slice (some ⟨x.g, 0, none⟩) x.n x.n] 22))
      obtain ⟨s7, s8, s9⟩ := HSK.out _ HK1.out
      obtain ⟨s1, s2, s3⟩ := HSK.out w2 (Turns.refl _ _)
      go_region_law ((refine step_append_stay _ (by rfl) _ _ 58 (by rfl) B 22 i0 (.slice none 0 0) 1 24 Try.underlying58 hi hz0 hz1 hz2 rfl (by decide) vN k (nCells (ds.take k)) (by rfl) (show (w2.alloc (.cells #[.slice (some ⟨x.g, 0, none⟩) x.n x.n] 22)).drew.ownsRow B 22 1 vN k (nCells (ds.take k)) from hN1) ⟨w2.heap.size, 0, none⟩ 1 1 [.slice (some ⟨x.g, 0, none⟩) x.n x.n] (by rfl) (by rfl) (cell_one_new _ _ _) (by simp [Value.oneCell']) (by decide) (by unfold maxLen; omega) (by omega) (by simp; omega) (w2.heap.size + 1) (by simp) ?_; intro g2 cp2 w6 hown6 hgrow6 hloc6 hlt6; have hgr := (show (w2.alloc (.cells #[.slice (some ⟨x.g, 0, none⟩) x.n x.n] 22)).grownBy w6 vN.ownBlock from ⟨hgrow6.os, hgrow6.tape, hgrow6.output, hgrow6.size, hgrow6.block⟩); have HK6 : Hid (Turns 22 w2 w6) := HK1.out.trans (turns_row hN1 hgr); obtain ⟨s4, s5, s6⟩ := HSK.out _ HK6.out; have HL3 := Hid.mk' (HL2.out.take hx (by omega) (wd := w2) ⟨rfl, rfl, rfl, rfl⟩ hown6 hgr (by omega)); clear hgrow6 hloc6 hlt6 hown6 hgr))
      all_goals
        clear s1 s2 s3 s4 s5 s6 s7 s8 s9 HK0 HK1 HK6 HSK hN hN1 hBs
        generalize w6.setCell ⟨w.heap.size + 1, 2, none⟩ (.slice (some ⟨g2, 0, none⟩) (k + 1 : Nat) cp2) = w3 at HL3 ⊢
        clear HL2
        go_wp2
        go_loopw [7] (fun i wr => ∃ j : Nat, j ≤ x.n ∧ i = .int .i64 j ∧ Hid (LD w wr B w.heap.size (w.heap.size + 1) m (.slice (some ⟨b, 0, none⟩) n cap) (.slice none 0 0) (.slice (some ⟨g2, 0, none⟩) (k + 1 : Nat) cp2) (.slice none 0 0) ds (k + 1) (k + 1) (fun a i => a < k ∨ (a = k ∧ i < j)))) (fun i _ => x.n - (intOf i).toNat)
        case atStart => exact ⟨0, by omega, rfl, HL3.out.weak (fun j i y _ _ h => by omega)⟩
        case round =>
          obtain ⟨j, hj, rfl, hrel⟩ := hrel
          obtain ⟨l, hml, hrow⟩ := hrel.out.l
          have hlk : l[k]? = some (mk1 m k x) := by rw [hml.2 k x hx, if_pos (by omega)]
          rw [← HLEN.out] at hrow
          have c2 := (hrow.cellAt (k * 3 + 2) (by omega)).trans (dCells_get l k _ hlk).2.2
          simp only [mk1] at c2
          obtain ⟨_, f, hf1, _⟩ := hrel.out.news k x hx
          have hxn := (HN.out k x hx).2
          by_cases hlj : j < x.n
          · have c3 := hf1.cell hlj
            have f3 := hf1.frozen j
            have HM := Hid.mk' (fun w => newsMark_any m k j w (by omega) (by omega) (by omega))
            have HL4 := Hid.mk' (hrel.out.mark (j := j) hx HD.out)
            have HL5 := Hid.mk' (hrel.out.drew.mark (j := j) hx HD.out)
            generalize markOf m k j = mk at *
            have h5 : (0 : Int) ≤ (j : Int) := by omega
            have h6 : (j : Int) < (x.n : Int) := by omega
            clear hrow hml hlk hf1 hrel HL3
            go_upto_region 11 with fail
            go_region_with ((go_at_call 48; refine (HM.out _).mono ?_; rintro e w' ⟨rfl, hw⟩; subst w'))
            all_goals
              go_wp2
              go_roundw
              case rel => exact ⟨j + 1, by omega, by go_num, by first | exact HL4.out.drew | exact HL5.out | exact HL4.out⟩
              case measure => simp [intOf]; omega
          · obtain rfl : j = x.n := by omega
            have HL4 := Hid.mk' (hrel.out.weak (D' := fun a _ => a < k + 1) (fun a i y hy hi h => by
              rcases Nat.lt_or_ge a k with h1 | h1
              · exact Or.inl h1
              · obtain rfl : a = k := by omega
                rw [hx] at hy
                cases hy
                exact Or.inr ⟨rfl, hi⟩))
            clear hrow hml hlk hf1 hrel HL3
            go_wp2
            go_roundw
            case rel => exact ⟨k + 1, by omega, by go_num, _, HL4.out⟩
            case measure => simp [intOf]; omega
    · obtain rfl : n = k := by omega
      obtain ⟨pN, cN, rfl, hcN, hpN⟩ := row_open hrel.out.nr
      have HNR := Hid.mk' hpN
      have HL2 := Hid.mk' (hrel.out.weak (D' := fun _ _ => True) (fun j i y hy _ _ => by have := (List.getElem?_eq_some_iff.1 hy).1; rw [← HLEN.out] at this; exact this))
      clear hpN hrel HST
      go_wp2
      go_loopw [8] (fun i wr => ∃ k : Nat, k ≤ n ∧ i = .int .i64 k ∧ ∃ vA hh ch, Hid (LD w wr B w.heap.size (w.heap.size + 1) m (.slice p n cap) (.slice none 0 0) (.slice pN n cN) vA ds n n (fun _ _ => True) ∧ AD wr B m ds (.slice pN n cN) vA k hh ch)) (fun i _ => n - (intOf i).toNat)
      case atStart => exact ⟨0, by omega, rfl, _, fun _ => 0, fun _ => 0, HL2.out, by simpa [aCells] using World.ownsRow_nil _ B 22 1, fun j hj => absurd hj (by omega), fun g _ e => by cases e⟩
      case round =>
        obtain ⟨k, hk, rfl, vA, hh, ch, hrel⟩ := hrel
        by_cases hlt : k < n
        · obtain ⟨x, hx⟩ : ∃ x, ds[k]? = some x := ⟨_, List.getElem?_eq_getElem (by rw [← HLEN.out]; exact hlt)⟩
          obtain ⟨gN, rfl, _⟩ := HNR.out (by omega)
          obtain ⟨_, f, hf1, hf2⟩ := hrel.out.1.news k x hx
          have hxn := (HN.out k x hx).2
          have hX := rowIs_full (m := m) (k := k) hf1 (fun i hi => hf2 i hi trivial) hxn
          have hgN : wr.cell? ⟨gN, k, none⟩ = some (.slice (some ⟨x.g, 0, none⟩) x.n x.n) := by
            rw [hrel.out.1.nr.cellAt k (by omega)]
            have : ds.take n = ds := by rw [HLEN.out, List.take_length]
            rw [this]
            simp [nCells, hx]
          have HSK : Hid (∀ wx, wr.grownBy wx none → wx.cell? ⟨w.heap.size + 1, 3, none⟩ = some vA ∧ wx.cell? ⟨w.heap.size + 1, 2, none⟩ = some (.slice (some ⟨gN, 0, none⟩) n cN) ∧ wx.cell? ⟨gN, k, none⟩ = some (.slice (some ⟨x.g, 0, none⟩) x.n x.n) ∧ wx.frozen? ⟨w.heap.size + 1, 3, none⟩ = false) := by
            intro wx hg
            have ht := (turns_none (tc := 0) hg).blk _ _ _ _ hrel.out.1.t (by decide)
            exact ⟨by simp [World.cell?, ht], by simp [World.cell?, ht], hg.cell hgN (by simp), by simp [World.frozen?, ht]⟩
          obtain ⟨s1, s2, s3, s4⟩ := HSK.out wr (grownBy_refl _ _)
          have hv7 : IntKind.i64.wrap (7 + (m : Int)) = 7 + (m : Int) := by simp [IntKind.wrap, IntKind.signed, IntKind.bits]; omega
          have hw7 : IntKind.u64.wrap (7 + (m : Int)) = 7 + (m : Int) := by simp [IntKind.wrap, IntKind.signed, IntKind.bits]; omega
          have hv8 : IntKind.i64.wrap (8 + (m : Int)) = 8 + (m : Int) := by simp [IntKind.wrap, IntKind.signed, IntKind.bits]; omega
          have hw8 : IntKind.u64.wrap (8 + (m : Int)) = 8 + (m : Int) := by simp [IntKind.wrap, IntKind.signed, IntKind.bits]; omega
          have hv9 : IntKind.i64.wrap (9 + (m : Int)) = 9 + (m : Int) := by simp [IntKind.wrap, IntKind.signed, IntKind.bits]; omega
          have hw9 : IntKind.u64.wrap (9 + (m : Int)) = 9 + (m : Int) := by simp [IntKind.wrap, IntKind.signed, IntKind.bits]; omega
          have h3 : (0 : Int) ≤ (k : Int) := by omega
          have h4 : (k : Int) < (n : Int) := by omega
          have hBs := Nat.le_trans hB hrel.out.1.keeps.size
          have G1 := Hid.mk' (World.grownBy_alloc wr (.cells #[.int .u64 (7 + (m : Int)), .int .u64 (8 + (m : Int)), .int .u64 (9 + (m : Int))] 47) none)
          have hX1 := hX.alloc (.cells #[.int .u64 (7 + (m : Int)), .int .u64 (8 + (m : Int)), .int .u64 (9 + (m : Int))] 47)
          obtain ⟨t1, t2, t3, t4⟩ := HSK.out _ G1.out
          obtain ⟨i1, hi1, hy0, hy1, hy2⟩ := info_parts info30
          clear hf1 hf2 hgN hX HL2
          go_upto_region 15 with fail
          go_region_law (first
            | (refine step_append_full _ (by rfl) _ _ 22 (by rfl) 0 47 i1 (.int .u64 0) 1 8 Try.underlying22 hi1 hy0 hy1 hy2 rfl (by decide) x.g x.n (markList m k x.n) (by rfl) (show (wr.alloc (.cells #[.int .u64 (7 + (m : Int)), .int .u64 (8 + (m : Int)), .int .u64 (9 + (m : Int))] 47)).drew.ownsRow 0 47 1 (.slice (some ⟨x.g, 0, none⟩) x.n x.n) x.n (markList m k x.n) from hX1) ⟨wr.heap.size, 0, none⟩ 3 3 [.int .u64 (7 + (m : Int)), .int .u64 (8 + (m : Int)), .int .u64 (9 + (m : Int))] (by rfl) (by rfl) (news3 wr _ _ _ 47 _ rfl) (by simp [Value.oneCell']) (by decide) (by unfold maxLen; omega) (by omega) (Nat.zero_le _) (wr.heap.size + 1) (by simp) ?_; intro cap5 w5 hrow5 hg5
               have G5 : Hid (wr.grownBy w5 none) := grownBy_trans G1.out ⟨hg5.os, hg5.tape, hg5.output, hg5.size, hg5.block⟩
               obtain ⟨u1, u2, u3', u4'⟩ := HSK.out _ G5.out
               have G6 : Hid (wr.grownBy (w5.alloc (.cells #[.slice (some ⟨wr.heap.size + 1, 0, none⟩) (x.n + 3 : Nat) cap5] 22)) none) := grownBy_trans G5.out (World.grownBy_alloc _ _ _)
               obtain ⟨r1, r2, r3, r4⟩ := HSK.out _ G6.out)
            | (refine step_append_stay _ (by rfl) _ _ 58 (by rfl) B 22 i0 (.slice none 0 0) 1 24 Try.underlying58 hi hz0 hz1 hz2 rfl (by decide) vA k (aCells ds hh ch k) (by rfl) ((hrel.out.2.grow G6.out).ar) ⟨w5.heap.size, 0, none⟩ 1 1 [.slice (some ⟨wr.heap.size + 1, 0, none⟩) (x.n + 3 : Nat) cap5] (by rfl) (by rfl) (cell_one_new _ _ _) (by simp [Value.oneCell']) (by decide) (by unfold maxLen; omega) (by omega) (by have := G6.out.size; omega) (w5.heap.size + 1) (by simp) ?_; intro g6 c6 w6 hrow6 hgr6 hloc6 hlt6
               have ht6 := (turns_row (hrel.out.2.grow G6.out).ar hgr6).blk _ _ _ _ (hrel.out.1.grow G6.out).t (by decide)
               have z1 : w6.cell? ⟨w.heap.size + 1, 3, none⟩ = some vA := by simp [World.cell?, ht6]
               have z2 : w6.frozen? ⟨w.heap.size + 1, 3, none⟩ = false := by simp [World.frozen?, ht6]
               have HL3 := Hid.mk' ((hrel.out.1.grow G6.out).more (hrel.out.2.grow G6.out) hx (by omega) (by omega) (hrow5.alloc _) (by omega) hrow6 hgr6 (by rcases hloc6 with h | ⟨h, _⟩; exact Or.inl h; exact Or.inr (by simp; omega)))
               clear ht6 hrow6 hgr6 hloc6 hlt6))
          all_goals
            clear z1 z2 r1 r2 r3 r4 u1 u2 u3' u4' t1 t2 t3 t4 s1 s2 s3 s4 HSK hX1 hrow5 hg5 hrel
            go_wp2
            go_roundw
            case rel => exact ⟨k + 1, by omega, by go_num, _, _, _, HL3.out⟩
            case measure => simp [intOf]; omega
        · obtain rfl : n = k := by omega
          have ht := hrel.out.1.t
          have t1 : wr.cell? ⟨w.heap.size + 1, 1, none⟩ = some (.slice none 0 0) := by simp [World.cell?, ht]
          have t2 : wr.frozen? ⟨w.heap.size + 1, 1, none⟩ = false := by simp [World.frozen?, ht]
          obtain ⟨l, hfd⟩ := fd_start hrel.out.1 hrel.out.2 HLEN.out (by omega) (by omega)
          have HF := Hid.mk' hfd
          clear ht hfd hrel
          go_upto_region 17 with fail
          generalize wr.setCell ⟨w.heap.size + 1, 1, none⟩ (.slice p n cap) = w4 at HF ⊢
          clear t1 t2
          have hll : l.length = n := by rw [HF.out.ml.1, HLEN.out]
          have HLL := Hid.mk' hll
          clear hll
          obtain ⟨i2, hi2, hx0, hx1, hx2⟩ := info_parts info62
          have hwm : IntKind.u64.wrap (m : Int) = (m : Int) := by simp [IntKind.wrap, IntKind.signed, IntKind.bits]; omega
          go_wp2
          go_loopw [9] (fun i wr => ∃ j : Nat, j ≤ 3 ∧ i = .int .i64 j ∧ ∃ vG, Hid (FD w wr B w.heap.size (w.heap.size + 1) m n p cap vG (.slice pN n cN) vA ds l j hh ch)) (fun i _ => 3 - (intOf i).toNat)
          case atStart => exact ⟨0, by omega, rfl, _, HF.out⟩
          case round =>
            obtain ⟨j, hj, rfl, vG, hrel⟩ := hrel
            by_cases hlj : j < 3
            · have ht := hrel.out.t
              have t1 : wr.cell? ⟨w.heap.size + 1, 1, none⟩ = some vG := by simp [World.cell?, ht]
              have hgr := hrel.out.gr
              have hBs := Nat.le_trans hB hrel.out.keeps.size
              have h6 : (j : Int) < 3 := by omega
              clear HF ht
              go_upto_region 20 with fail
              go_wp2_with (first
                | (at_builtin; go_must (refine wpList_append_stay _ rfl _ _ 57 rfl B 82 i2 (.agg #[.int .i64 0, .int .u64 0, .slice none 0 0]) 3 40 Try.underlying57 hi2 hx0 hx1 hx2 rfl (by decide) vG (n + j) (dCells l ++ tails m j) rfl (hgr.alloc _) ⟨wr.heap.size, 0, none⟩ 1 1 [.int .i64 (-(m : Int) - 1), .int .u64 (m : Int), .slice none 0 0] rfl rfl (news3 wr _ _ _ 82 _ rfl) (by simp [Value.oneCell']) (by decide) (by unfold maxLen; omega) (by omega) (by simp; omega) (wr.heap.size + 1) (by simp) ?_); intro g6 c6 w6 hrow6 hgr6 hloc6 hlt6
                   have ht6 := ((turns_alloc 82 wr (.cells #[.int .i64 (-(m : Int) - 1), .int .u64 (m : Int), .slice none 0 0] 82)).trans (turns_row (hgr.alloc _) hgr6)).blk _ _ _ _ hrel.out.t (by decide)
                   have z1 : w6.cell? ⟨w.heap.size + 1, 1, none⟩ = some vG := by simp [World.cell?, ht6]
                   have z2 : w6.frozen? ⟨w.heap.size + 1, 1, none⟩ = false := by simp [World.frozen?, ht6]
                   have HF4 := Hid.mk' (hrel.out.more (by omega) (by omega) HLL.out hrow6 hgr6 hloc6)
                   clear ht6 hrow6 hgr6 hloc6 hlt6))
              go_roundw
              case rel => exact ⟨j + 1, by omega, by go_num, _, HF4.out⟩
              case measure => simp [intOf]; omega
            · obtain rfl : j = 3 := by omega
              obtain ⟨gG, cG, rfl, _, _⟩ := hrel.out.gr.form (by omega)
              obtain ⟨pA, cA, rfl, _, _⟩ := row_open hrel.out.ad.ar
              obtain ⟨t, ht1, ht2, ht3⟩ := fd_told hrel.out HLEN.out hm hl HN.out
              have HE := Hid.mk' (show t.five = _ ∧ t.Ok wr (fun b => B ≤ b ∧ b < wr.heap.size ∧ b ≠ w.heap.size) ∧ Keeps (fun b => B ≤ b) w wr from ⟨ht2, ht3, hrel.out.keeps⟩)
              have hr := hrel.out.r
              have ht := hrel.out.t
              have c0 : wr.cell? ⟨w.heap.size + 1, 0, none⟩ = some (.slice p n cap) := by simp [World.cell?, ht]
              have c1 : wr.cell? ⟨w.heap.size + 1, 1, none⟩ = some (.slice (some ⟨gG, 0, none⟩) (n + 3 : Nat) cG) := by simp [World.cell?, ht]
              have c2 : wr.cell? ⟨w.heap.size + 1, 2, none⟩ = some (.slice pN n cN) := by simp [World.cell?, ht]
              have c3 : wr.cell? ⟨w.heap.size + 1, 3, none⟩ = some (.slice pA n cA) := by simp [World.cell?, ht]
              have c4 : wr.cell? ⟨w.heap.size + 1, 4, none⟩ = some (.int .i64 m) := by simp [World.cell?, ht]
              have e0 : wr.cell? ⟨w.heap.size, 0, none⟩ = some (.slice none 0 0) := by simp [World.cell?, hr]
              have e1 : wr.cell? ⟨w.heap.size, 1, none⟩ = some (.slice none 0 0) := by simp [World.cell?, hr]
              have e2 : wr.cell? ⟨w.heap.size, 2, none⟩ = some (.slice none 0 0) := by simp [World.cell?, hr]
              have e3 : wr.cell? ⟨w.heap.size, 3, none⟩ = some (.slice none 0 0) := by simp [World.cell?, hr]
              have e4 : wr.cell? ⟨w.heap.size, 4, none⟩ = some (.int .i64 0) := by simp [World.cell?, hr]
              have f0 : wr.frozen? ⟨w.heap.size, 0, none⟩ = false := by simp [World.frozen?, hr]
              have f1 : wr.frozen? ⟨w.heap.size, 1, none⟩ = false := by simp [World.frozen?, hr]
              have f2 : wr.frozen? ⟨w.heap.size, 2, none⟩ = false := by simp [World.frozen?, hr]
              have f3 : wr.frozen? ⟨w.heap.size, 3, none⟩ = false := by simp [World.frozen?, hr]
              have f4 : wr.frozen? ⟨w.heap.size, 4, none⟩ = false := by simp [World.frozen?, hr]
              obtain ⟨d0, d1, d2, d3, d4⟩ := set5_stage hr (.slice p n cap) (.slice (some ⟨gG, 0, none⟩) (n + 3 : Nat) cG) (.slice pN n cN) (.slice pA n cA) (.int .i64 m)
              clear hr ht HF ht1 ht2 ht3
              go_wp2
              refine bodyPost_ret (v := .agg #[.slice p n cap, .slice (some ⟨gG, 0, none⟩) (n + 3 : Nat) cG, .slice pN n cN, .slice pA n cA, .int .i64 m]) (by simp [results, Try.results26, go_sem, d0, d1, d2, d3, d4]) rfl ?_
              obtain ⟨q1, q2, q3⟩ := HE.out
              have g5 := grown5 wr w.heap.size (.slice p n cap) (.slice (some ⟨gG, 0, none⟩) (n + 3 : Nat) cG) (.slice pN n cN) (.slice pA n cA) (.int .i64 m)
              refine ⟨t, by rw [q1], ?_, q3.step g5 (by rintro i hi; cases hi; exact Or.inl hB)⟩
              exact (q2.kept (X := fun b => b = w.heap.size) (Keeps.of g5 (by rintro i hi; cases hi; exact Or.inl rfl)) (fun b hb e => hb.2.2 e)).zmono (fun b hb => ⟨hb.1, Nat.lt_of_lt_of_le hb.2.1 g5.size⟩)

end Go.Proofs.Ytfiekdgpdboolab
