import Derived.Test.YtfekgfimbkgkfabX1
namespace Go.Proofs.Ytfekgfimbkgkfab
open Go.RowKit Go.Maps

theorem opcs_get : ∀ (l : List OpP) (k : Nat), k < l.length → ∀ j u, (opc (l.getD k opz))[j]? = some u → (opcs l)[k * 5 + j]? = some u
  | [], k, h, _, _, _ => by simp at h
  | e :: l, 0, _, j, u, hj => by
    have hl : j < (opc e).length := (List.getElem?_eq_some_iff.1 hj).1
    simp only [opcs, List.flatMap_cons, Nat.zero_mul, Nat.zero_add]
    rw [List.getElem?_append_left hl]; exact hj
  | e :: l, k + 1, h, j, u, hj => by
    have h4 : (opc e).length = 5 := rfl
    simp only [opcs, List.flatMap_cons]
    rw [List.getElem?_append_right (by rw [h4]; omega), h4, show (k + 1) * 5 + j - 5 = k * 5 + j by omega]
    exact opcs_get l k (by simpa using h) j u hj
theorem OpOk.keep {w W : World} {o : OpP} (h : OpOk w o) (k : Keeps (fun _ => False) w W) : OpOk W o := ⟨h.1.keep k, h.2⟩
theorem opcs_cells {w : World} {b o : Nat} {l : List OpP} (hc : ∀ (j : Nat) (u : Value), (opcs l)[j]? = some u → w.cell? ⟨b, o + j, none⟩ = some u) {k : Nat} (hk : k < l.length) :
    w.cell? ⟨b, o + k * 5, none⟩ = some (.int .i64 (l.getD k opz).k) ∧ w.cell? ⟨b, o + k * 5 + 1, none⟩ = some (.string (l.getD k opz).t) ∧ w.cell? ⟨b, o + k * 5 + 2, none⟩ = some (l.getD k opz).v ∧ w.cell? ⟨b, o + k * 5 + 3, none⟩ = some (.bool (l.getD k opz).sl) ∧ w.cell? ⟨b, o + k * 5 + 4, none⟩ = some (.int .i64 (l.getD k opz).n) :=
  ⟨hc (k * 5 + 0) _ (opcs_get l k hk 0 _ rfl), hc (k * 5 + 1) _ (opcs_get l k hk 1 _ rfl), hc (k * 5 + 2) _ (opcs_get l k hk 2 _ rfl), hc (k * 5 + 3) _ (opcs_get l k hk 3 _ rfl), hc (k * 5 + 4) _ (opcs_get l k hk 4 _ rfl)⟩

set_option maxHeartbeats 4000000 in
set_option maxRecDepth 100000 in
theorem texts_walk (w : World) (v : Value) (l : List OpP) (h : Row w v l.length (opcs l)) (hl : l.length ≤ 3518437208780) (ho : ∀ o ∈ l, OpOk w o) :
    Calls Try.prog 7 #[v] w fun e w' => e = .returned (.bool true) ∧ Keeps (fun _ => False) w w' := by
  have h10 := first_any w
  have HR := Hid.mk' h
  have HO := Hid.mk' ho
  obtain ⟨a, cap, rfl, _⟩ := h
  clear ho
  go_enter Try.func7, Try.ntmps7
  go_wp2_with (first
    | (go_at_call 10; refine h10.mono ?_; clear h10; rintro e w1 ⟨rfl, hk1⟩; have HK1 := Hid.mk' hk1; clear hk1))
  go_loopw [3] (fun i wr => ∃ k : Nat, k ≤ l.length ∧ i = .int .i64 k ∧ Hid (Keeps (fun _ => False) w wr)) (fun i _ => l.length - (intOf i).toNat)
  case atStart => exact ⟨0, Nat.zero_le _, rfl, HK1.out⟩
  case round =>
    obtain ⟨k, hk, rfl, HI⟩ := hrel
    by_cases h1 : k < l.length
    · have h1' : (k : Int) < (l.length : Int) := by omega
      obtain ⟨b, o, cap', e, hb, hc⟩ := HR.out.pos (by omega)
      cases e
      obtain ⟨c0, c1, c2, c3, c4⟩ := opcs_cells hc h1
      have hX := HO.out _ (getD_mem opz h1)
      have d0 := HI.out.cell c0 id
      have d1 := HI.out.cell c1 id
      have d2 := HI.out.cell c2 id
      have d3 := HI.out.cell c3 id
      have d4 := HI.out.cell c4 id
      have h24 : ∀ W', Hid (Keeps (fun _ => False) w W') → Calls Try.prog 24 #[.agg #[.int .i64 (l.getD k opz).k, .string (l.getD k opz).t, (l.getD k opz).v, .bool (l.getD k opz).sl, .int .i64 (l.getD k opz).n]] W' fun e w' => e = .returned (.bool true) ∧ Hid (Keeps (fun _ => False) w w') := fun W' hk => by
        refine (texts_any W' _ (hX.keep hk.out)).mono ?_
        rintro e w' ⟨rfl, hk'⟩
        exact ⟨rfl, hk.out.trans hk'⟩
      obtain ⟨va, vc, ev, _⟩ := id hX.1
      generalize l.getD k opz = q at *
      obtain ⟨qk, qt, qv, qp, qs, qn⟩ := q
      dsimp only at *
      subst ev
      clear c0 c1 c2 c3 c4 hc hX
      by_cases h2 : 1 ≤ qk
      · by_cases h3 : qk ≤ 3
        · go_wp2_with (first
            | (go_at_call 24; refine (h24 _ HI).mono ?_; clear h24; rintro e w2 ⟨rfl, HK2⟩))
          go_roundw
          case rel => exact ⟨k + 1, by omega, by go_num, HK2⟩
          case measure => simp [intOf]; omega
        · go_wp2
          go_roundw
          case rel => exact ⟨k + 1, by omega, by go_num, HI⟩
          case measure => simp [intOf]; omega
      · go_wp2
        go_roundw
        case rel => exact ⟨k + 1, by omega, by go_num, HI⟩
        case measure => simp [intOf]; omega
    · have h1' : ¬ (k : Int) < (l.length : Int) := by omega
      go_wp2
      go_ret
      exact ⟨rfl, HI.out⟩
end Go.Proofs.Ytfekgfimbkgkfab
