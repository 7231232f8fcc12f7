import Derived.Test.YtfekgfimbkgkfacZ2
import Derived.Test.YtfekgfimbkgkfacF3
namespace Go.Proofs.Ytfekgfimbkgkfac
open Go.RowKit Go.Maps

theorem row_obj {W : World} {base : Nat} {e : TypeId} {size : Nat} {v : Value} {n : Nat} {xs : List Value} {gb : Nat} (h : W.ownsRow base e size v n xs) (hg : v.ownBlock = some gb) : ∃ cur, W.heap[gb]? = some (.cells cur e (0, 0)) := by
  rcases h.2 with ⟨rfl, _⟩ | ⟨g', cap, cur, rfl, _, hgb, _⟩
  · cases hg
  · cases hg; exact ⟨cur, hgb⟩
theorem ownsRow_set {W : World} {base : Nat} {e : TypeId} {size : Nat} {v : Value} {n : Nat} {xs : List Value} (h : W.ownsRow base e size v n xs) {g : Nat} (hg : v.ownBlock = some g) (j : Nat) (u : Value) :
    (W.setCell ⟨g, j, none⟩ u).ownsRow base e size v n (xs.set j u) := by
  refine ⟨by rw [List.length_set]; exact h.1, ?_⟩
  rcases h.2 with ⟨rfl, _⟩ | ⟨g', cap, cur, rfl, hb, hgb, h1, h2, h3, h4⟩
  · simp [Value.ownBlock] at hg
  · obtain rfl : g' = g := by simpa [Value.ownBlock] using hg
    refine .inr ⟨g', cap, cur.setIfInBounds j u, rfl, hb, setCell_block (a := ⟨g', j, none⟩) hgb rfl, h1, h2, by simpa using h3, ?_⟩
    rw [← h4, Array.toList_setIfInBounds, List.take_set]
theorem own_cell {w : World} {base : Nat} {e : TypeId} {size : Nat} {v : Value} {n : Nat} {xs : List Value} (h : w.ownsRow base e size v n xs) {g : Nat} (hg : v.ownBlock = some g) {j : Nat} {u : Value} (hj : xs[j]? = some u) : w.cell? ⟨g, j, none⟩ = some u := by
  have := h.cells hg j u hj
  rwa [addr_add, Nat.zero_add] at this
theorem row_some {w : World} {base : Nat} {e : TypeId} {size n c : Nat} {a : Option Addr} {xs : List Value} (h : w.ownsRow base e size (.slice a n c) n xs) (h0 : 0 < n) : ∃ g, a = some ⟨g, 0, none⟩ := by
  rcases h.2 with ⟨_, h1⟩ | ⟨g, cap, cur, e, _⟩
  · omega
  · cases e; exact ⟨g, rfl⟩
def lateS : ByteArray := ⟨#[108, 97, 116, 101]⟩

/-- What PathLeads holds: the table, the copy that stays. -/
structure LE (w : World) (l : List Ed) (x bm : Nat) (vk : Value) (W : World) : Prop where
  kp : Keeps (fun _ => False) w W
  tx : TabAt W x bm l.length (tabF l)
  kr : Row W vk l.length (ecells l)
theorem LE.keep {w : World} {l : List Ed} {x bm : Nat} {vk : Value} {W W' : World} (h : LE w l x bm vk W) (k : Keeps (fun _ => False) W W') : LE w l x bm vk W' := ⟨h.kp.trans k, h.tx.grow k, h.kr.keep k⟩
theorem OpOk2.keep {w W : World} {o : OpP} (h : OpOk2 w o) (k : Keeps (fun _ => False) w W) : OpOk2 W o := ⟨h.1.keep k, h.2⟩

set_option maxHeartbeats 4000000 in
set_option maxRecDepth 100000 in
theorem leads_walk (w : World) (ve : Value) (l : List Ed) (he : Row w ve l.length (ecells l)) (hl : l.length ≤ 3518437208780) (hok : ∀ e ∈ l, EdOk e) (v : Value) (sc : List OpP) (h : Row w v sc.length (opcs sc)) (hs : sc.length ≤ 3518437208780) (ho : ∀ o ∈ sc, OpOk2 w o) :
    Calls Try.prog 3 #[ve, v] w fun e w' => e = .returned (.bool true) ∧ Keeps (fun _ => False) w w' := by
  have h10 := first_any w
  have HR := Hid.mk' h
  have HO := Hid.mk' ho
  have HE := Hid.mk' (And.intro he hok)
  have HWf := Hid.mk' (wfF_tab hok)
  obtain ⟨a, cap, rfl, _⟩ := h
  obtain ⟨ea, ecp, rfl, _⟩ := he
  clear ho hok
  go_enter Try.func3, Try.ntmps3
  go_wp2_with (first
    | (go_at_call 4; refine h10.mono ?_; clear h10; rintro e w1 ⟨rfl, hk1⟩
       have HK1 := Hid.mk' hk1
       have h20 := copyEdges_any w1 (.slice ea l.length ecp) l (HE.out.1.keep hk1) hl
       clear hk1)
    | (go_at_call 5; refine h20.mono ?_; clear h20; rintro e w2 ⟨vk, rfl, H2⟩
       have HK2 := Hid.mk' (HK1.out.trans H2.out.2)
       have HO2 := Hid.mk' H2.out.1
       obtain ⟨ka, kc, er, _⟩ := Row.of_own H2.out.1
       subst er
       have h20b := copyEdges_any w2 (.slice ea l.length ecp) l (HE.out.1.keep HK2.out) hl
       clear H2)
    | (go_at_call 5; refine h20b.mono ?_; clear h20b; rintro e w3 ⟨vg, rfl, H3⟩
       have HK3 := Hid.mk' (HK2.out.trans H3.out.2)
       have HK23 := Hid.mk' H3.out.2
       have HO3 := Hid.mk' H3.out.1
       obtain ⟨ga, gc, er, _⟩ := Row.of_own H3.out.1
       subst er
       have h9 := newTable_any w3 (.slice ga l.length gc) l (Row.of_own H3.out.1) (by omega) HE.out.2
       clear H3)
    | (go_at_call 6; refine h9.mono ?_; clear h9; rintro e w4 ⟨rfl, H4⟩
       have h7 := sameEdges_any w4 (.slice ga l.length gc) (.slice ka l.length kc) l l ((Row.of_own HO3.out).keep H4.out.2) ((Row.of_own HO2.out).keep (HK23.out.trans H4.out.2)) rfl (by omega)
       have e7 : decide (l = l) = true := by simp
       rw [e7] at h7
       clear e7
       have HT4 := Hid.mk' H4.out
       clear H4)
    | (go_at_call 7; refine h7.mono ?_; clear h7; rintro e w5 ⟨rfl, hk5⟩
       have HA : Hid (LE w l (w3.heap.size + 1) w3.heap.size (.slice ka l.length kc) w5 ∧ ∃ xs, w5.ownsRow w2.heap.size 30 4 (.slice ga l.length gc) l.length xs) := ⟨⟨(HK3.out.trans HT4.out.2).trans hk5, HT4.out.1.grow hk5, (Row.of_own HO2.out).keep ((HK23.out.trans HT4.out.2).trans hk5)⟩, _, own_grow HO3.out (HT4.out.2.trans hk5)⟩
       clear hk5))
  have HGB : Hid (∀ g, (Value.slice ga l.length gc).ownBlock = some g → w2.heap.size ≤ g ∧ g < w3.heap.size) := fun g hg => HO3.out.lt g hg
  have HKB : Hid (∀ g, (Value.slice ka l.length kc).ownBlock = some g → g < w2.heap.size) := fun g hg => (HO2.out.lt g hg).2
  have HS2 : Hid (w.heap.size ≤ w2.heap.size) := HK2.out.size
  clear HT4 HO3 HO2 HK23 HK3 HK2 HK1
  go_loopw [8] (fun i wr => ∃ k : Nat, k ≤ l.length ∧ i = .int .i64 k ∧ Hid (LE w l (w3.heap.size + 1) w3.heap.size (.slice ka l.length kc) wr ∧ ∃ xs, wr.ownsRow w2.heap.size 30 4 (.slice ga l.length gc) l.length xs)) (fun i _ => l.length - (intOf i).toNat)
  case atStart => exact ⟨0, Nat.zero_le _, rfl, HA.out⟩
  case round =>
    obtain ⟨k, hk, rfl, HI⟩ := hrel
    clear HA
    by_cases h1 : k < l.length
    · have h1' : (k : Int) < (l.length : Int) := by omega
      obtain ⟨hLE, xs, hown⟩ := HI.out
      obtain ⟨g, rfl⟩ := row_some hown (by omega)
      have hxl : xs.length = l.length * 4 := hown.1
      have z0 := own_cell hown rfl (List.getElem?_eq_getElem (show k * 4 < xs.length by omega))
      have z1 := own_cell hown rfl (List.getElem?_eq_getElem (show k * 4 + 1 < xs.length by omega))
      have z2 := own_cell hown rfl (List.getElem?_eq_getElem (show k * 4 + 2 < xs.length by omega))
      have z3 := own_cell hown rfl (List.getElem?_eq_getElem (show k * 4 + 3 < xs.length by omega))
      obtain ⟨cur, hobj⟩ := row_obj hown rfl
      have f0 : ∀ j, wr.frozen? ⟨g, j, none⟩ = false := fun j => by simp [World.frozen?, hobj]
      have q0 := f0 (k * 4)
      have q1 := f0 (k * 4 + 1)
      have q2 := f0 (k * 4 + 2)
      have q3 := f0 (k * 4 + 3)
      generalize xs[k * 4]'(by omega) = u0 at z0
      generalize xs[k * 4 + 1]'(by omega) = u1 at z1
      generalize xs[k * 4 + 2]'(by omega) = u2 at z2
      generalize xs[k * 4 + 3]'(by omega) = u3 at z3
      have k2 : Keeps (fun c => c = g) wr ((((wr.setCell ⟨g, k * 4, none⟩ (.int .i64 1)).setCell ⟨g, k * 4 + 1, none⟩ (.string ⟨#[108, 97, 116, 101]⟩)).setCell ⟨g, k * 4 + 2, none⟩ (.int .i64 9)).setCell ⟨g, k * 4 + 3, none⟩ (.bool true)) := (((set1k _ _ _ _).trans (set1k _ _ _ _)).trans (set1k _ _ _ _)).trans (set1k _ _ _ _)
      have hgb := HGB.out g rfl
      have HN : Hid (LE w l (w3.heap.size + 1) w3.heap.size (.slice ka l.length kc) ((((wr.setCell ⟨g, k * 4, none⟩ (.int .i64 1)).setCell ⟨g, k * 4 + 1, none⟩ (.string ⟨#[108, 97, 116, 101]⟩)).setCell ⟨g, k * 4 + 2, none⟩ (.int .i64 9)).setCell ⟨g, k * 4 + 3, none⟩ (.bool true)) ∧ ∃ xs, ((((wr.setCell ⟨g, k * 4, none⟩ (.int .i64 1)).setCell ⟨g, k * 4 + 1, none⟩ (.string ⟨#[108, 97, 116, 101]⟩)).setCell ⟨g, k * 4 + 2, none⟩ (.int .i64 9)).setCell ⟨g, k * 4 + 3, none⟩ (.bool true)).ownsRow w2.heap.size 30 4 (.slice (some ⟨g, 0, none⟩) l.length gc) l.length xs) := by
        refine ⟨⟨hLE.kp.then k2 (fun c hc => Or.inr (by have := HS2.out; omega)), hLE.tx.keep k2 (by omega) (by omega), hLE.kr.keepX k2 (fun c hc e => by have := HKB.out c hc; omega)⟩, _, ownsRow_set (ownsRow_set (ownsRow_set (ownsRow_set hown rfl _ _) rfl _ _) rfl _ _) rfl _ _⟩
      clear HI hLE hown hxl hobj f0 k2 hgb
      go_wp2
      go_roundw
      case rel => exact ⟨k + 1, by omega, by go_num, HN⟩
      case measure => simp [intOf]; omega
    · have h1' : ¬ (k : Int) < (l.length : Int) := by omega
      have HI2 := Hid.mk' HI.out.1
      clear HI
      go_wp2
      go_loopw [9] (fun i wq => ∃ k : Nat, k ≤ sc.length ∧ i = .int .i64 k ∧ Hid (LE w l (w3.heap.size + 1) w3.heap.size (.slice ka l.length kc) wq)) (fun i _ => sc.length - (intOf i).toNat)
      case atStart => exact ⟨0, Nat.zero_le _, rfl, HI2⟩
      case round =>
        obtain ⟨j, hj, rfl, HI⟩ := hrel
        clear HI2
        by_cases h3 : j < sc.length
        · have h3' : (j : Int) < (sc.length : Int) := by omega
          obtain ⟨b, o, cap', e, hb, hc⟩ := HR.out.pos (by omega)
          cases e
          obtain ⟨c0, c1, c2, c3, c4⟩ := opcs_cells hc h3
          have hX := HO.out _ (getD_mem opz h3)
          have d0 := HI.out.kp.cell c0 id
          have d1 := HI.out.kp.cell c1 id
          have d2 := HI.out.kp.cell c2 id
          have d3 := HI.out.kp.cell c3 id
          have d4 := HI.out.kp.cell c4 id
          have h25 : ∀ W', Hid (LE w l (w3.heap.size + 1) w3.heap.size (.slice ka l.length kc) W') → Calls Try.prog 8 #[.pointer (some ⟨w3.heap.size + 1, 0, none⟩), .slice ka l.length kc, .agg #[.int .i64 (sc.getD j opz).k, .string (sc.getD j opz).t, (sc.getD j opz).v, .bool (sc.getD j opz).sl, .int .i64 (sc.getD j opz).n]] W' fun e w' => e = .returned (.bool true) ∧ Hid (LE w l (w3.heap.size + 1) w3.heap.size (.slice ka l.length kc) w') := fun W' hk => by
            refine (plays_any W' _ _ _ l hk.out.tx HWf.out _ hk.out.kr hl _ (hX.keep hk.out.kp)).mono ?_
            rintro e w' ⟨rfl, hk'⟩
            exact ⟨rfl, hk.out.keep hk'⟩
          obtain ⟨va, vc, ev, _⟩ := id hX.1.1
          generalize sc.getD j opz = q at *
          obtain ⟨qk, qt, qv, qp, qs, qn⟩ := q
          dsimp only at *
          subst ev
          clear c0 c1 c2 c3 c4 hc hX
          by_cases h4 : 4 ≤ qk
          · by_cases h5 : qk ≤ 7
            · go_wp2_with (first
                | (go_at_call 8; refine (h25 _ HI).mono ?_; clear h25; rintro e w6 ⟨rfl, H6⟩))
              go_roundw
              case rel => exact ⟨j + 1, by omega, by go_num, H6⟩
              case measure => simp [intOf]; omega
            · go_wp2
              go_roundw
              case rel => exact ⟨j + 1, by omega, by go_num, HI⟩
              case measure => simp [intOf]; omega
          · go_wp2
            go_roundw
            case rel => exact ⟨j + 1, by omega, by go_num, HI⟩
            case measure => simp [intOf]; omega
        · have h3' : ¬ (j : Int) < (sc.length : Int) := by omega
          go_wp2
          go_ret
          exact ⟨rfl, HI.out.kp⟩
end Go.Proofs.Ytfekgfimbkgkfac
