import Derived.Test.YtfekgfimbkgkfabZ2
namespace Go.Proofs.Ytfekgfimbkgkfab
open Go.RowKit Go.Maps

/-- What PathAll holds: two tables, the copy of the edges. -/
structure AL (w : World) (l : List Ed) (x bm y cm : Nat) (vk : Value) (W : World) : Prop where
  kp : Keeps (fun _ => False) w W
  tx : TabAt W x bm l.length (tabF l)
  ty : TabAt W y cm 0 (tabF [])
  kr : Row W vk l.length (ecells l)
theorem AL.keep {w : World} {l : List Ed} {x bm y cm : Nat} {vk : Value} {W W' : World} (h : AL w l x bm y cm vk W) (k : Keeps (fun _ => False) W W') : AL w l x bm y cm vk W' := ⟨h.kp.trans k, h.tx.grow k, h.ty.grow k, h.kr.keep k⟩
theorem OpOk2.keep {w W : World} {o : OpP} (h : OpOk2 w o) (k : Keeps (fun _ => False) w W) : OpOk2 W o := ⟨h.1.keep k, h.2⟩

set_option maxHeartbeats 4000000 in
set_option maxRecDepth 100000 in
theorem all_walk (w : World) (ve : Value) (l : List Ed) (he : Row w ve l.length (ecells l)) (hl : l.length ≤ 3518437208780) (hok : ∀ e ∈ l, EdOk e) (v : Value) (sc : List OpP) (h : Row w v sc.length (opcs sc)) (hs : sc.length ≤ 3518437208780) (ho : ∀ o ∈ sc, OpOk2 w o) :
    Calls Try.prog 8 #[ve, v] w fun e w' => e = .returned (.bool true) ∧ Keeps (fun _ => False) w w' := by
  have h10 := first_any w
  have HR := Hid.mk' h
  have HO := Hid.mk' ho
  have HE := Hid.mk' (And.intro he hok)
  have hwf := wfF_tab hok
  have hwf0 : wfF (tabF []) := wfF_tab (l := []) (by simp)
  have HWf := Hid.mk' (And.intro hwf hwf0)
  obtain ⟨a, cap, rfl, _⟩ := h
  obtain ⟨ea, ecp, rfl, _⟩ := he
  clear ho hok hwf hwf0
  go_enter Try.func8, Try.ntmps8
  go_wp2_with (first
    | (go_at_call 10; refine h10.mono ?_; clear h10; rintro e w1 ⟨rfl, hk1⟩
       have HK1 := Hid.mk' hk1
       have h20 := copyEdges_any w1 (.slice ea l.length ecp) l (HE.out.1.keep hk1) hl
       clear hk1)
    | (go_at_call 20; refine h20.mono ?_; clear h20; rintro e w2 ⟨vk, rfl, H2⟩
       have HK2 := Hid.mk' (HK1.out.trans H2.out.2)
       have HR2 := Hid.mk' (Row.of_own H2.out.1)
       obtain ⟨ka, kc, er, _⟩ := Row.of_own H2.out.1
       subst er
       have h9 := newTable_any w2 (.slice ea l.length ecp) l (HE.out.1.keep HK2.out) (by omega) HE.out.2
       clear H2)
    | (go_at_call 9; refine h9.mono ?_; clear h9; rintro e w3 ⟨rfl, H3⟩
       have h9b := newTable_any w3 (.slice none 0 0) [] ⟨none, 0, rfl, Nat.le_refl _, fun h => absurd h (by simp)⟩ (by simp) (by simp)
       have HT3 := Hid.mk' H3.out
       clear H3)
    | (go_at_call 9; refine h9b.mono ?_; clear h9b; rintro e w4 ⟨rfl, H4⟩
       have HA : Hid (AL w l (w2.heap.size + 1) w2.heap.size (w3.heap.size + 1) w3.heap.size (.slice ka l.length kc) w4) := ⟨(HK2.out.trans HT3.out.2).trans H4.out.2, HT3.out.1.grow H4.out.2, H4.out.1, HR2.out.keep (HT3.out.2.trans H4.out.2)⟩
       clear H4))
  go_loopw [8] (fun i wr => ∃ k : Nat, k ≤ sc.length ∧ i = .int .i64 k ∧ Hid (AL w l (w2.heap.size + 1) w2.heap.size (w3.heap.size + 1) w3.heap.size (.slice ka l.length kc) wr)) (fun i _ => sc.length - (intOf i).toNat)
  case atStart => exact ⟨0, Nat.zero_le _, rfl, HA.out⟩
  case round =>
    obtain ⟨k, hk, rfl, HI⟩ := hrel
    clear HA
    by_cases h1 : k < sc.length
    · have h1' : (k : Int) < (sc.length : Int) := by omega
      obtain ⟨b, o, cap', e, hb, hc⟩ := HR.out.pos (by omega)
      cases e
      obtain ⟨c0, c1, c2, c3, c4⟩ := opcs_cells hc h1
      have hX := HO.out _ (getD_mem opz h1)
      have d0 := HI.out.kp.cell c0 id
      have d1 := HI.out.kp.cell c1 id
      have d2 := HI.out.kp.cell c2 id
      have d3 := HI.out.kp.cell c3 id
      have d4 := HI.out.kp.cell c4 id
      have h25 : ∀ W', Hid (AL w l (w2.heap.size + 1) w2.heap.size (w3.heap.size + 1) w3.heap.size (.slice ka l.length kc) W') → Calls Try.prog 25 #[.pointer (some ⟨w2.heap.size + 1, 0, none⟩), .slice ka l.length kc, .agg #[.int .i64 (sc.getD k opz).k, .string (sc.getD k opz).t, (sc.getD k opz).v, .bool (sc.getD k opz).sl, .int .i64 (sc.getD k opz).n]] W' fun e w' => e = .returned (.bool true) ∧ Hid (AL w l (w2.heap.size + 1) w2.heap.size (w3.heap.size + 1) w3.heap.size (.slice ka l.length kc) w') := fun W' hk => by
        refine (plays_any W' _ _ _ l hk.out.tx HWf.out.1 _ hk.out.kr hl _ (hX.keep hk.out.kp)).mono ?_
        rintro e w' ⟨rfl, hk'⟩
        exact ⟨rfl, hk.out.keep hk'⟩
      have h25b : ∀ W', Hid (AL w l (w2.heap.size + 1) w2.heap.size (w3.heap.size + 1) w3.heap.size (.slice ka l.length kc) W') → Calls Try.prog 25 #[.pointer (some ⟨w3.heap.size + 1, 0, none⟩), .slice none 0 0, .agg #[.int .i64 (sc.getD k opz).k, .string (sc.getD k opz).t, (sc.getD k opz).v, .bool (sc.getD k opz).sl, .int .i64 (sc.getD k opz).n]] W' fun e w' => e = .returned (.bool true) ∧ Hid (AL w l (w2.heap.size + 1) w2.heap.size (w3.heap.size + 1) w3.heap.size (.slice ka l.length kc) w') := fun W' hk => by
        refine (plays_any W' _ _ _ [] hk.out.ty HWf.out.2 (.slice none 0 0) ⟨none, 0, rfl, Nat.le_refl _, fun h => absurd h (by simp)⟩ (by simp) _ (hX.keep hk.out.kp)).mono ?_
        rintro e w' ⟨rfl, hk'⟩
        exact ⟨rfl, hk.out.keep hk'⟩
      have HC : Hid (∀ W', AL w l (w2.heap.size + 1) w2.heap.size (w3.heap.size + 1) w3.heap.size (.slice ka l.length kc) W' → (W'.cell? ⟨b, o + k * 5, none⟩ = some (.int .i64 (sc.getD k opz).k) ∧ W'.cell? ⟨b, o + k * 5 + 1, none⟩ = some (.string (sc.getD k opz).t) ∧ W'.cell? ⟨b, o + k * 5 + 2, none⟩ = some (sc.getD k opz).v ∧ W'.cell? ⟨b, o + k * 5 + 3, none⟩ = some (.bool (sc.getD k opz).sl) ∧ W'.cell? ⟨b, o + k * 5 + 4, none⟩ = some (.int .i64 (sc.getD k opz).n))) := fun W' hW => ⟨hW.kp.cell c0 id, hW.kp.cell c1 id, hW.kp.cell c2 id, hW.kp.cell c3 id, hW.kp.cell c4 id⟩
      obtain ⟨va, vc, ev, _⟩ := id hX.1.1
      generalize sc.getD k opz = q at *
      obtain ⟨qk, qt, qv, qp, qs, qn⟩ := q
      dsimp only at *
      subst ev
      clear c0 c1 c2 c3 c4 hc hX
      by_cases h2 : 1 ≤ qk
      · by_cases h3 : qk ≤ 7
        · go_wp2_with (first
            | (go_at_call 25; refine (h25 _ HI).mono ?_; clear h25; rintro e w5 ⟨rfl, H5⟩
               obtain ⟨e0, e1, e2, e3, e4⟩ := HC.out _ H5.out)
            | (go_at_call 25; refine (h25b _ H5).mono ?_; clear h25b; rintro e w6 ⟨rfl, H6⟩))
          go_roundw
          case rel => exact ⟨k + 1, by omega, by go_num, H6⟩
          case measure => simp [intOf]; omega
        · go_wp2
          go_roundw
          case rel => exact ⟨k + 1, by omega, by go_num, HI⟩
          case measure => simp [intOf]; omega
      · go_wp2
        go_roundw
        case rel => exact ⟨k + 1, by omega, by go_num, HI⟩
        case measure => simp [intOf]; omega
    · have h1' : ¬ (k : Int) < (sc.length : Int) := by omega
      go_wp2
      go_ret
      exact ⟨rfl, HI.out.kp⟩
end Go.Proofs.Ytfekgfimbkgkfab
