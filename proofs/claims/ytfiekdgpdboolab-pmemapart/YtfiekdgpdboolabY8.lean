import Derived.Test.YtfiekdgpdboolabY6c
import Derived.Deep.RegionHeld3
import Derived.BigRegion
namespace Go.Proofs.Ytfiekdgpdboolab
open Go.RowKit Go.Maps

def toldCells (l : List Told1) : List Value := l.flatMap Told1.five

theorem toldCells_len (l : List Told1) : (toldCells l).length = l.length * 5 := by
  induction l with
  | nil => rfl
  | cons a l ih => simp only [toldCells, List.flatMap_cons, List.length_append] at ih ⊢; rw [ih]; simp [Told1.five]; omega

theorem toldCells_get (l : List Told1) (i : Nat) (hi : i < l.length) : ∃ t, t ∈ l ∧
    (toldCells l)[i * 5]? = some (.slice t.pL t.n t.cL) ∧ (toldCells l)[i * 5 + 1]? = some (.slice (some ⟨t.gG, 0, none⟩) (t.n + 3 : Nat) t.cG) ∧ (toldCells l)[i * 5 + 2]? = some (.slice t.pN t.n t.cN) ∧
    (toldCells l)[i * 5 + 3]? = some (.slice t.pA t.n t.cA) ∧ (toldCells l)[i * 5 + 4]? = some (.int .i64 t.m) := by
  induction l generalizing i with
  | nil => simp at hi
  | cons a l ih =>
    have e : toldCells (a :: l) = a.five ++ toldCells l := by simp [toldCells]
    rw [e]
    cases i with
    | zero => exact ⟨a, by simp, by simp [Told1.five], by simp [Told1.five], by simp [Told1.five], by simp [Told1.five], by simp [Told1.five]⟩
    | succ i =>
      have hi' : i < l.length := by simpa using hi
      have h5 : a.five.length = 5 := rfl
      obtain ⟨t, h0, h1, h2, h3, h4, h5'⟩ := ih i hi'
      refine ⟨t, by simp [h0], ?_, ?_, ?_, ?_, ?_⟩
      · rw [List.getElem?_append_right (by omega), ← h1]; congr 1; omega
      · rw [List.getElem?_append_right (by omega), ← h2]; congr 1; omega
      · rw [List.getElem?_append_right (by omega), ← h3]; congr 1; omega
      · rw [List.getElem?_append_right (by omega), ← h4]; congr 1; omega
      · rw [List.getElem?_append_right (by omega), ← h5']; congr 1; omega

theorem keeps_none {w w' : World} (h : w.grownBy w' none) : Keeps (fun _ => False) w w' := Keeps.of h (by simp)

set_option maxHeartbeats 2000000 in
set_option maxRecDepth 20000 in
/-- keptDoubts: all the lists hold their marks. -/
theorem keptDoubts_any (w : World) (Z : Nat → Prop) (base : Nat) (v : Value) (ts : List Told1) (hrow : w.ownsRow base 60 5 v ts.length (toldCells ts)) (hok : ∀ t ∈ ts, t.Ok w Z) (hl : ts.length ≤ 1000) :
    Calls Try.prog 29 #[v] w fun e w' => e = .returned (.bool true) ∧ Keeps (fun _ => False) w w' := by
  obtain ⟨p, cap, rfl, hcap, hcell⟩ := row_open hrow
  have HC := Hid.mk' hcell
  have HO := Hid.mk' hok
  clear hrow hcell hok
  go_enter Try.func29, Try.ntmps29
  go_wp2
  go_loopw [3] (fun i wr => ∃ k : Nat, k ≤ ts.length ∧ i = .int .i64 k ∧ Hid (Keeps (fun _ => False) w wr)) (fun i _ => ts.length - (intOf i).toNat)
  case atStart => exact ⟨0, by omega, rfl, Keeps.refl _ _⟩
  case round =>
    obtain ⟨k, hk, rfl, hrel⟩ := hrel
    by_cases hlt : k < ts.length
    · obtain ⟨lb, rfl, _, _, hc⟩ := HC.out (by omega)
      obtain ⟨t, ht, g0, g1, g2, g3, g4⟩ := toldCells_get ts k hlt
      have HW : Hid (∀ wx, Keeps (fun _ => False) w wx → wx.cell? ⟨lb, k * 5, none⟩ = some (.slice t.pL t.n t.cL) ∧ wx.cell? ⟨lb, k * 5 + 1, none⟩ = some (.slice (some ⟨t.gG, 0, none⟩) (t.n + 3 : Nat) t.cG) ∧ wx.cell? ⟨lb, k * 5 + 2, none⟩ = some (.slice t.pN t.n t.cN) ∧
          wx.cell? ⟨lb, k * 5 + 3, none⟩ = some (.slice t.pA t.n t.cA) ∧ wx.cell? ⟨lb, k * 5 + 4, none⟩ = some (.int .i64 t.m) ∧ t.Ok wx Z) := fun wx hkx =>
        ⟨hkx.cell ((hc _ (by omega)).trans g0) (by simp), hkx.cell ((hc _ (by omega)).trans g1) (by simp), hkx.cell ((hc _ (by omega)).trans g2) (by simp), hkx.cell ((hc _ (by omega)).trans g3) (by simp), hkx.cell ((hc _ (by omega)).trans g4) (by simp), (HO.out t ht).kept hkx (by simp)⟩
      have HMK : Hid (∀ wx, Keeps (fun _ => False) w wx → ∀ j, j < t.n → Calls Try.prog 50 #[.slice (some ⟨t.g j, 0, none⟩) (t.nn j) (t.nn j), .int .i64 t.m, .int .i64 j] wx fun e w' => e = .returned (.bool true) ∧ Keeps (fun _ => False) w w') := fun wx hkx j hj => by
        have hokx := (HO.out t ht).kept hkx (by simp)
        have hnj := (hokx.nn j hj).1
        have hnn := hokx.n
        have hmm := hokx.m
        refine (marked_any wx (some ⟨t.g j, 0, none⟩) t.m j (t.nn j) (t.nn j) (by omega) (by omega) (by omega) (fun _ => ⟨t.g j, rfl, (hokx.gs j hj).2⟩)).mono ?_
        rintro e w' ⟨rfl, q, hq⟩
        exact ⟨rfl, hkx.trans (keeps_drewN' _ _ _ q hq)⟩
      have HMH : Hid (∀ wx, Keeps (fun _ => False) w wx → ∀ j, j < t.n → Calls Try.prog 50 #[.slice (some ⟨t.h j, 0, none⟩) (t.nn j) (t.ch j), .int .i64 t.m, .int .i64 j] wx fun e w' => e = .returned (.bool true) ∧ Keeps (fun _ => False) w w') := fun wx hkx j hj => by
        have hokx := (HO.out t ht).kept hkx (by simp)
        have hnj := (hokx.nn j hj).1
        have hnn := hokx.n
        have hmm := hokx.m
        refine (marked_any wx (some ⟨t.h j, 0, none⟩) t.m j (t.nn j) (t.ch j) (by omega) (by omega) (by omega) (fun _ => ⟨t.h j, rfl, (hokx.hs j hj).2.1⟩)).mono ?_
        rintro e w' ⟨rfl, q, hq⟩
        exact ⟨rfl, hkx.trans (keeps_drewN' _ _ _ q hq)⟩
      obtain ⟨c0, c1, c2, c3, c4, _⟩ := HW.out wr hrel.out
      have hm := (HO.out t ht).m
      have hn := (HO.out t ht).n
      have h3 : (0 : Int) ≤ (k : Int) := by omega
      have h4 : (k : Int) < (ts.length : Int) := by omega
      have HR0 := hrel
      clear hc g0 g1 g2 g3 g4 ht
      go_wp2
      go_loopw [6] (fun i wr => ∃ j : Nat, j ≤ t.n + 3 ∧ i = .int .i64 j ∧ Hid (Keeps (fun _ => False) w wr)) (fun i _ => t.n + 3 - (intOf i).toNat)
      case atStart => exact ⟨0, by omega, rfl, HR0.out⟩
      case round =>
        obtain ⟨j, hj, rfl, hrel⟩ := hrel
        clear c0 c1 c2 c3 c4 HR0
        obtain ⟨c0, c1, c2, c3, c4, hokx⟩ := HW.out wr hrel.out
        by_cases hlj : j < t.n + 3
        · have h5 : (0 : Int) ≤ (j : Int) := by omega
          have h6 : (j : Int) < (t.n : Int) + 3 := by omega
          by_cases hjn : j < t.n
          · obtain ⟨e0, e1, e2⟩ := hokx.g1 j hjn
            have h7 : ¬ (t.n : Int) ≤ (j : Int) := by omega
            have h8 : (j : Int) < (t.n : Int) := by omega
            have hw : IntKind.u64.wrap (1000 * (t.m : Int) + (j : Int)) = 1000 * (t.m : Int) + (j : Int) := by simp [IntKind.wrap, IntKind.signed, IntKind.bits]; omega
            have HM := Hid.mk' (fun o => HMK.out (wr.alloc o) (hrel.out.step (World.grownBy_alloc wr o none) (by simp)) j hjn)
            clear hokx c0 c2 c3 c4 hj hrel
            go_wp2_with (first
              | (go_at_call 50; refine (HM.out _).mono ?_; rintro e w1 ⟨rfl, hk1⟩; have H1 := Hid.mk' hk1; clear hk1))
            go_roundw
            case rel => exact ⟨j + 1, by omega, by go_num, H1.out⟩
            case measure => simp [intOf]; omega
          · obtain ⟨e0, e1, e2⟩ := hokx.g2 j (by omega) hlj
            have h7 : (t.n : Int) ≤ (j : Int) := by omega
            have h8 : ¬ (j : Int) < (t.n : Int) := by omega
            have hw : IntKind.u64.wrap (t.m : Int) = (t.m : Int) := by simp [IntKind.wrap, IntKind.signed, IntKind.bits]; omega
            have HA := Hid.mk' (fun o => hrel.out.step (World.grownBy_alloc wr o none) (by simp))
            clear hokx c0 c2 c3 c4 hj hrel
            go_wp2
            go_roundw
            case rel => exact ⟨j + 1, by omega, by go_num, HA.out _⟩
            case measure => simp [intOf]; omega
        · have hjj : ¬ (j : Int) < (t.n : Int) + 3 := by omega
          have HR1 := hrel
          clear hj hlj
          clear hokx
          go_wp2
          go_loopw [8] (fun i wr => ∃ j : Nat, j ≤ t.n ∧ i = .int .i64 j ∧ Hid (Keeps (fun _ => False) w wr)) (fun i _ => t.n - (intOf i).toNat)
          case atStart => exact ⟨0, by omega, rfl, HR1.out⟩
          case round =>
            obtain ⟨j, hj, rfl, hrel⟩ := hrel
            clear c0 c1 c2 c3 c4 HR1
            by_cases hjn : j < t.n
            · obtain ⟨c0, c1, c2, c3, c4, hokx⟩ := HW.out wr hrel.out
              obtain ⟨bL, eL, _, hL⟩ := hokx.l (by omega)
              obtain ⟨bN, eN, _, hN⟩ := hokx.nr (by omega)
              obtain ⟨bA, eA, _, hA⟩ := hokx.ar (by omega)
              have HCH : Hid (∀ wx, Keeps (fun _ => False) w wx → wx.cell? ⟨lb, k * 5 + 2, none⟩ = some (.slice (some ⟨bN, 0, none⟩) t.n t.cN) ∧ wx.cell? ⟨lb, k * 5 + 3, none⟩ = some (.slice (some ⟨bA, 0, none⟩) t.n t.cA) ∧ wx.cell? ⟨bN, j, none⟩ = some (.slice (some ⟨t.g j, 0, none⟩) (t.nn j) (t.nn j)) ∧
                  wx.cell? ⟨bA, j, none⟩ = some (.slice (some ⟨t.h j, 0, none⟩) (t.nn j + 3 : Nat) (t.ch j)) ∧ wx.cell? ⟨t.h j, t.nn j, none⟩ = some (.int .u64 (7 + (t.m : Int))) ∧ wx.cell? ⟨t.h j, t.nn j + 1, none⟩ = some (.int .u64 (8 + (t.m : Int))) ∧ wx.cell? ⟨t.h j, t.nn j + 2, none⟩ = some (.int .u64 (9 + (t.m : Int)))) := fun wx hkx => by
                obtain ⟨_, _, y2, y3, _, yok⟩ := HW.out wx hkx
                obtain ⟨bN', eN', _, yN⟩ := yok.nr (by omega)
                obtain ⟨bA', eA', _, yA⟩ := yok.ar (by omega)
                rw [eN] at eN'
                rw [eA] at eA'
                cases eN'
                cases eA'
                rw [eN] at y2
                rw [eA] at y3
                obtain ⟨_, _, y5, y6, y7⟩ := yok.hs j hjn
                exact ⟨y2, y3, yN j hjn, yA j hjn, y5, y6, y7⟩
              rw [eL] at c0
              obtain ⟨e0, e1, e2⟩ := hL j hjn
              obtain ⟨hn1, hn2⟩ := hokx.nn j hjn
              have HM := Hid.mk' (fun o => HMK.out (wr.alloc o) (hrel.out.step (World.grownBy_alloc wr o none) (by simp)) j hjn)
              have HCA := Hid.mk' (fun o => HCH.out (wr.alloc o) (hrel.out.step (World.grownBy_alloc wr o none) (by simp)))
              have HM2 := Hid.mk' (fun wx h => HMK.out wx h j hjn)
              have HM3 := Hid.mk' (fun wx h => HMH.out wx h j hjn)
              obtain ⟨s2, s3, s4, s5, _, _, _⟩ := HCH.out wr hrel.out
              obtain ⟨r2, r3, r4, r5, _, _, _⟩ := HCA.out (.cells #[.int .i64 (-1000 * (t.m : Int) - (j : Int) - 1), .int .u64 (1000 * (t.m : Int) + (j : Int)), .slice (some ⟨t.g j, 0, none⟩) (t.nn j) (t.nn j)] 82)
              have hw : IntKind.u64.wrap (1000 * (t.m : Int) + (j : Int)) = 1000 * (t.m : Int) + (j : Int) := by simp [IntKind.wrap, IntKind.signed, IntKind.bits]; omega
              have hw7 : IntKind.u64.wrap (7 + (t.m : Int)) = 7 + (t.m : Int) := by simp [IntKind.wrap, IntKind.signed, IntKind.bits]; omega
              have hw8 : IntKind.u64.wrap (8 + (t.m : Int)) = 8 + (t.m : Int) := by simp [IntKind.wrap, IntKind.signed, IntKind.bits]; omega
              have hw9 : IntKind.u64.wrap (9 + (t.m : Int)) = 9 + (t.m : Int) := by simp [IntKind.wrap, IntKind.signed, IntKind.bits]; omega
              have h5 : (0 : Int) ≤ (j : Int) := by omega
              have h6 : (j : Int) < (t.n : Int) := by omega
              clear eL eN eA hL hN hA hokx hj HMK HMH c1 c2 c3 hrel
              generalize t.nn j = nj at *
              generalize t.ch j = cj at *
              generalize t.g j = gj at *
              generalize t.h j = hj at *
              have h9 : (0 : Int) ≤ (nj : Int) := by omega
              have h10 : (nj : Int) ≤ (cj : Int) := by omega
              have h11 : ¬ cj = 0 := by omega
              have h12 : nj ≤ cj := by omega
              go_wp2_with (first
                | (go_at_call 50; refine (HM3.out _ H2.out).mono ?_; rintro e w3 ⟨rfl, hk3⟩; obtain ⟨_, _, _, _, z5, z6, z7⟩ := HCH.out _ hk3; have H3 := Hid.mk' hk3; clear hk3)
                | (go_at_call 50; refine (HM2.out _ H1.out).mono ?_; rintro e w2 ⟨rfl, hk2⟩; have H2 := Hid.mk' hk2; clear hk2)
                | (go_at_call 50; refine (HM.out _).mono ?_; rintro e w1 ⟨rfl, hk1⟩; obtain ⟨y2, y3, y4, y5, _, _, _⟩ := HCH.out _ hk1; have H1 := Hid.mk' hk1; clear hk1))
              go_roundw
              case rel => exact ⟨j + 1, by omega, by go_num, H3.out⟩
              case measure => simp [intOf]; omega
            · obtain rfl : j = t.n := by omega
              go_wp2
              go_roundw
              case rel => exact ⟨k + 1, by omega, by go_num, hrel.out⟩
              case measure => simp [intOf]; omega
    · obtain rfl : k = ts.length := by omega
      go_wp2
      go_ret
      exact ⟨rfl, hrel.out⟩

end Go.Proofs.Ytfiekdgpdboolab
