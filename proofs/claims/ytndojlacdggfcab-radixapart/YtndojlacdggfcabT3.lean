import Derived.Test.YtndojlacdggfcabT2
namespace Go.Proofs.Ytndojlacdggfcab
open Go.RowKit

set_option maxRecDepth 100000 in
set_option maxHeartbeats 16000000 in
theorem apart_walk (w : World) (p : Option Addr) (l : List Put) (cap : Nat) (x : Int) (hp : PutsIn w p l) (hl : l.length ≤ maxLen) (hv : ∀ q ∈ l, -9223372036854775808 ≤ q.2.2 ∧ q.2.2 ≤ 9223372036854775807) :
    Calls Try.prog 4 #[.slice p l.length cap, .int .i64 x] w fun e w' => e = .returned (.bool true) ∧ Keeps (fun _ => False) w w' := by
  obtain ⟨i0, hi, hz0, hz1, hz2⟩ := info_parts info38
  obtain ⟨j0, hj, hy0, hy1, hy2⟩ := info_parts info3
  obtain ⟨g, hg⟩ : ∃ g, g = play (l.take 400) := ⟨_, rfl⟩
  have hgs : ∀ o, o < 512 → -9223372036854775808 ≤ g o ∧ g o ≤ 9223372036854775807 := fun o ho => by rw [hg]; exact play_sat (fun v => -9223372036854775808 ≤ v ∧ v ≤ 9223372036854775807) ⟨by omega, by omega⟩ l hv o ho
  have hGrown : ∀ W, Keeps (fun _ => False) w W → Calls Try.prog 10 #[.slice p l.length cap] W fun e w' => ∃ t, e = .returned (.tuple #[.pointer (some ⟨t, 0, none⟩), .bool true]) ∧ Hid (t = W.heap.size ∧ Keeps (fun _ => False) W w' ∧ TreeAt w' t g) := fun W hk => by
    rw [hg]; exact grown_any W p l cap (hp.grown hk) hl
  obtain ⟨R, hR⟩ : ∃ R, runsOf (els g 0 0 512) = R := ⟨_, rfl⟩
  have hRl := Nat.le_trans (runsOf_len (els g 0 0 512)) (els_len g 0 0 512)
  have hbd : ∀ r ∈ R, bdR r := fun r hr => by
    obtain ⟨r0, r1, r2, r3⟩ := (runs_good g hgs 512 (by omega)).1 r (by rw [hR]; exact hr)
    have h2 := (load_runs g hgs 512 (by omega)).2 r (by rw [hR]; exact hr)
    have h3 := hgs r.1.toNat (by omega)
    unfold bdR
    omega
  rw [hR] at hRl
  have hRuns : ∀ W t, TreeAt W t g → Calls Try.prog 11 #[.pointer (some ⟨t, 0, none⟩)] W fun e w' => ∃ a c, e = .returned (.slice a R.length c) ∧ Hid (Keeps (fun _ => False) W w' ∧ w'.ownsRow W.heap.size 38 3 (.slice a R.length c) R.length (rflat R)) := fun W t hT =>
    (runs_any W t g hT).mono fun e w' ⟨s, he, hh⟩ => by
      rw [hR] at hh
      have hs := hh.out.2
      obtain ⟨a, capR, rfl⟩ : ∃ a capR, s = .slice a R.length capR := by
        rcases hs.2 with ⟨h1, h2⟩ | ⟨gb, c, _, h1, _⟩
        · exact ⟨none, 0, by rw [h1, h2]⟩
        · exact ⟨_, c, h1⟩
      exact ⟨a, capR, he, hh.out.1, hs⟩
  have hSame : ∀ W a c b d, Row W (.slice a R.length c) R.length (rflat R) → Row W (.slice b R.length d) R.length (rflat R) → Calls Try.prog 14 #[.slice a R.length c, .slice b R.length d] W fun e w' => e = .returned (.bool true) ∧ Hid (Keeps (fun _ => False) W w') := fun W a c b d h1 h2 =>
    (sameRuns_any W _ _ R h1 h2 (by omega)).mono fun e w' ⟨h1, m, h2⟩ => ⟨h1, by rw [h2]; exact Keeps.drewN _ _ _⟩
  have hA := plc_lt x (show 1 ≤ 512 by omega)
  have hPl := fun W => (place3_any x 512 W (by omega) (by omega)).mono (R' := fun e w' => e = .returned (.int .i64 (plc x 512)) ∧ W = w') (fun e w' ⟨h1, h2⟩ => ⟨h1, h2.symm⟩)
  generalize plc x 512 = A at hA hPl
  have HBD := Hid.mk' hbd
  have HGS := Hid.mk' hgs
  clear hp hl hv hg hR hbd hgs
  go_enter Try.func4, Try.ntmps4
  go_wp2_with (first
    | (go_at_call 14; refine (hSame w8 a7 c7 a6 c6 H8.out.2.1 H8.out.2.2).mono ?_; rintro e w9 ⟨rfl, H9'⟩; have H9 : Hid (Keeps (fun _ => False) w7 w9) := H8.out.1.trans H9'.out)
    | (go_at_call 14; refine (hSame w7 a5 c5 a6 c6 H7.out.2.1.row H7.out.2.2.1.row).mono ?_; rintro e w8 ⟨rfl, H8'⟩; have H8 : Hid (Keeps (fun _ => False) w7 w8 ∧ Row w8 (.slice a7 R.length c7) R.length (rflat R) ∧ Row w8 (.slice a6 R.length c6) R.length (rflat R)) := ⟨H8'.out, (H7.out.2.2.2.keep H8'.out (fun _ h => h.elim)).row, (H7.out.2.2.1.keep H8'.out (fun _ h => h.elim)).row⟩)
    | (go_at_call 11; refine (hRuns w6 t H6.out.1.1).mono ?_; rintro e w7 ⟨a7, c7, rfl, H7'⟩; have H67 := Hid.mk' H7'.out.1; have H7 : Hid (FX w7 t u c d g g g ∧ RowB w7 (.slice a5 R.length c5) R.length (rflat R) w4.heap.size w5.heap.size ∧ RowB w7 (.slice a6 R.length c6) R.length (rflat R) w5.heap.size w6.heap.size ∧ RowB w7 (.slice a7 R.length c7) R.length (rflat R) w6.heap.size w7.heap.size) := ⟨H6.out.1.keep H7'.out.1, (RowB.of_own H5.out.2.2).keep (H6.out.2.1.trans H7'.out.1) (fun _ h => h.elim), (RowB.of_own H6.out.2.2).keep H7'.out.1 (fun _ h => h.elim), RowB.of_own H7'.out.2⟩)
    | (go_at_call 11; refine (hRuns w5 u H5.out.1.2.1).mono ?_; rintro e w6 ⟨a6, c6, rfl, H6'⟩; have H6 : Hid (FX w6 t u c d g g g ∧ Keeps (fun _ => False) w5 w6 ∧ w6.ownsRow w5.heap.size 38 3 (.slice a6 R.length c6) R.length (rflat R)) := ⟨H5.out.1.keep H6'.out.1, H6'.out.1, H6'.out.2⟩)
    | (go_at_call 11; refine (hRuns w4 t H4.out.2.2.1).mono ?_; rintro e w5 ⟨a5, c5, rfl, H5'⟩; have H5 : Hid (FX w5 t u c d g g g ∧ Keeps (fun _ => False) w4 w5 ∧ w5.ownsRow w4.heap.size 38 3 (.slice a5 R.length c5) R.length (rflat R)) := ⟨H4.out.2.2.keep H5'.out.1, H5'.out.1, H5'.out.2⟩)
    | (go_at_call 18; refine (copy_any w3 t g H3.out.2.2.1).mono ?_; rintro e w4 ⟨d, rfl, H4'⟩; have H4 : Hid (Keeps (fun _ => False) w w4 ∧ (w.heap.size ≤ t ∧ t < u ∧ u < c ∧ c < d ∧ d < w4.heap.size) ∧ FX w4 t u c d g g g) := ⟨H3.out.1.trans H4'.out.2.1, ⟨H3.out.2.1.1, H3.out.2.1.2.1, H3.out.2.1.2.2, by have := H3.out.2.2.2.2.lt; have := H4'.out.1; omega, H4'.out.2.2.lt⟩, H3.out.2.2.1.keep H4'.out.2.1, H3.out.2.2.2.1.keep H4'.out.2.1, H3.out.2.2.2.2.keep H4'.out.2.1, H4'.out.2.2⟩)
    | (go_at_call 18; refine (copy_any w2 t g H2.out.2.2.1).mono ?_; rintro e w3 ⟨c, rfl, H3'⟩; have H3 : Hid (Keeps (fun _ => False) w w3 ∧ (w.heap.size ≤ t ∧ t < u ∧ u < c) ∧ TreeAt w3 t g ∧ TreeAt w3 u g ∧ TreeAt w3 c g) := ⟨H2.out.1.trans H3'.out.2.1, ⟨H2.out.2.1.1, H2.out.2.1.2, by have := H2.out.2.2.2.lt; have := H3'.out.1; omega⟩, H2.out.2.2.1.keep H3'.out.2.1, H2.out.2.2.2.keep H3'.out.2.1, H3'.out.2.2⟩)
    | (go_at_call 17; refine (hPl w2).mono ?_; rintro e w2' ⟨rfl, hw⟩; subst hw)
    | (go_at_call 10; refine (hGrown w1 H1.out.2.1).mono ?_; rintro e w2 ⟨u, rfl, H2'⟩; have H2 : Hid (Keeps (fun _ => False) w w2 ∧ (w.heap.size ≤ t ∧ t < u) ∧ TreeAt w2 t g ∧ TreeAt w2 u g) := ⟨H1.out.2.1.trans H2'.out.2.1, ⟨by have := H1.out.1; omega, by have := H1.out.2.2.lt; have := H2'.out.1; omega⟩, H1.out.2.2.keep H2'.out.2.1, H2'.out.2.2⟩)
    | (go_at_call 10; refine (hGrown w (Keeps.refl _ _)).mono ?_; rintro e w1 ⟨t, rfl, H1⟩))
  have HSZ : Hid (w.heap.size ≤ t ∧ t < u ∧ u < c ∧ c < d ∧ d < w4.heap.size ∧ w4.heap.size ≤ w5.heap.size ∧ w5.heap.size ≤ w6.heap.size ∧ w6.heap.size ≤ w7.heap.size ∧ w7.heap.size ≤ w9.heap.size) := by
    have h1 := H4.out.2.1
    have h2 := H5.out.2.1.size
    have h3 := H6.out.2.1.size
    have h5 := H9.out.size
    have h4 : w6.heap.size ≤ w7.heap.size := H67.out.size
    exact ⟨h1.1, h1.2.1, h1.2.2.1, h1.2.2.2.1, h1.2.2.2.2, h2, h3, h4, h5⟩
  have HW9 : Hid (Keeps (fun _ => False) w w9) := ((H4.out.1.trans H5.out.2.1).trans (H6.out.2.1.trans H67.out)).trans H9.out
  have HS9 : Hid (FX w9 t u c d g g g ∧ w9.ownsRow w4.heap.size 38 3 (.slice a5 R.length c5) R.length (rflat R) ∧ RowB w9 (.slice a6 R.length c6) R.length (rflat R) w5.heap.size w6.heap.size ∧ RowB w9 (.slice a7 R.length c7) R.length (rflat R) w6.heap.size w7.heap.size) :=
    ⟨H7.out.1.keep H9.out, ownsRow_keeps H5.out.2.2 ((H6.out.2.1.trans H67.out).trans H9.out) (fun _ _ h => h), H7.out.2.2.1.keep H9.out (fun _ h => h.elim), H7.out.2.2.2.keep H9.out (fun _ h => h.elim)⟩
  have HAB : Hid (∀ c', (Value.slice a5 R.length c5).ownBlock = some c' → w4.heap.size ≤ c' ∧ c' < w5.heap.size) := fun c' hc => H5.out.2.2.lt c' hc
  clear H1 H2' H2 H3' H3 H4' H4 H5' H5 H6' H6 H7' H7 H8' H8 H9' H9 H67 hSame hPl hGrown
  go_loopw [14] (fun i wr => ∃ k : Nat, k ≤ R.length ∧ i = .int .i64 k ∧ Hid (∃ xs, FX wr t u c d g g g ∧ wr.ownsRow w4.heap.size 38 3 (.slice a5 R.length c5) R.length xs ∧ BadUp xs k ∧ RowB wr (.slice a6 R.length c6) R.length (rflat R) w5.heap.size w6.heap.size ∧ RowB wr (.slice a7 R.length c7) R.length (rflat R) w6.heap.size w7.heap.size ∧ Keeps (fun _ => False) w wr ∧ w9.heap.size ≤ wr.heap.size)) (fun i _ => R.length - (intOf i).toNat)
  case atStart => exact ⟨0, by omega, rfl, _, HS9.out.1, HS9.out.2.1, fun i hi => absurd hi (by omega), HS9.out.2.2.1, HS9.out.2.2.2, HW9.out, Nat.le_refl _⟩
  case round =>
    obtain ⟨k, hk, rfl, H10⟩ := hrel
    by_cases h1 : k < R.length
    · have h1' : (k : Int) < (R.length : Int) := by omega
      obtain ⟨xs, hFX, hown, hbad, hrk, hrb, hkw, hs9⟩ := H10.out
      obtain ⟨ga, ca, ea, _, _, hga, _, hcc⟩ := open_row' hown (by omega)
      cases ea
      have hxl : xs.length = R.length * 3 := hown.1
      have z0 := hcc (k * 3) _ (List.getElem?_eq_getElem (by omega))
      have z1 := hcc (k * 3 + 1) _ (List.getElem?_eq_getElem (by omega))
      have z2 := hcc (k * 3 + 2) _ (List.getElem?_eq_getElem (by omega))
      obtain ⟨cur, hobj⟩ := row_obj hown rfl
      have f0 : ∀ j, wr.frozen? ⟨ga, j, none⟩ = false := fun j => by simp [World.frozen?, hobj]
      have fz := f0 (k * 3)
      have fz1 := f0 (k * 3 + 1)
      have fz2 := f0 (k * 3 + 2)
      generalize xs[k * 3]'(by omega) = v0 at z0
      generalize xs[k * 3 + 1]'(by omega) = v1 at z1
      generalize xs[k * 3 + 2]'(by omega) = v2 at z2
      have k3 : Keeps (fun c => c = ga) wr (((wr.setCell ⟨ga, k * 3, none⟩ (.int .i64 (-1))).setCell ⟨ga, k * 3 + 1, none⟩ (.int .i64 (k : Int))).setCell ⟨ga, k * 3 + 2, none⟩ (.int .i64 7)) := ((one_keeps _ _ _ _).trans (one_keeps _ _ _ _)).trans (one_keeps _ _ _ _)
      have hbl := HAB.out ga rfl
      have hsz := HSZ.out
      have HN : Hid (∃ xs, FX (((wr.setCell ⟨ga, k * 3, none⟩ (.int .i64 (-1))).setCell ⟨ga, k * 3 + 1, none⟩ (.int .i64 (k : Int))).setCell ⟨ga, k * 3 + 2, none⟩ (.int .i64 7)) t u c d g g g ∧ _ ∧ BadUp xs (k + 1) ∧ _ ∧ _ ∧ _ ∧ _) := ⟨_, hFX.row hown rfl (.inl rfl) k3, ownsRow_set (ownsRow_set (ownsRow_set hown rfl (k * 3) (.int .i64 (-1))) rfl (k * 3 + 1) (.int .i64 (k : Int))) rfl (k * 3 + 2) (.int .i64 7), hbad.next (by omega), hrk.keep k3 (by rintro c rfl; omega), hrb.keep k3 (by rintro c rfl; omega), hkw.then k3 (by rintro c rfl; right; omega), Nat.le_trans hs9 k3.size⟩
      clear hcc hobj f0 hFX hown hbad hrk hrb hkw hs9 k3 hbl hsz
      go_wp2
      go_roundw
      case rel => exact ⟨k + 1, by omega, by go_num, HN⟩
      case measure => simp [intOf]; omega
    · have h1' : ¬ (k : Int) < (R.length : Int) := by omega
      obtain rfl : k = R.length := by omega
      clear HS9 HW9
      have H11a : Hid (∀ xs, FX wr t u c d g g g → wr.ownsRow w4.heap.size 38 3 (.slice a5 R.length c5) R.length xs → BadUp xs R.length → RowB wr (.slice a6 R.length c6) R.length (rflat R) w5.heap.size w6.heap.size → RowB wr (.slice a7 R.length c7) R.length (rflat R) w6.heap.size w7.heap.size → Keeps (fun _ => False) w wr → w9.heap.size ≤ wr.heap.size →
          ∀ o gm cm w11, w11.ownsRow w4.heap.size 38 3 (.slice (some ⟨gm, 0, none⟩) (R.length + 2) cm) (R.length + 2) (xs ++ six) → (wr.alloc o).grownBy w11 (Value.slice a5 R.length c5).ownBlock → ((Value.slice a5 R.length c5).ownBlock = some gm ∨ (gm = wr.heap.size + 1 ∧ (wr.alloc o).grownBy w11 none)) →
          FX w11 t u c d g g g ∧ RowB w11 (.slice a5 R.length c5) R.length xs w4.heap.size w5.heap.size ∧ BadUp xs R.length ∧ RowB w11 (.slice (some ⟨gm, 0, none⟩) (R.length + 2) cm) (R.length + 2) (xs ++ six) w4.heap.size w11.heap.size ∧ RowB w11 (.slice a6 R.length c6) R.length (rflat R) w5.heap.size w6.heap.size ∧ RowB w11 (.slice a7 R.length c7) R.length (rflat R) w6.heap.size w7.heap.size ∧ Keeps (fun _ => False) w w11 ∧ w9.heap.size ≤ w11.heap.size) := by
        intro xs hFX hown hbad hrk hrb hkw hs9 o gm cm w11 h2 h3 h4
        have hsz := HSZ.out
        have ka := Keeps.new wr o
        have hown' := World.ownsRow.alloc hown o
        have hb := HAB.out
        exact ⟨(hFX.keep ka).grown hown' (.inl rfl) h3, RowB.stay hown' h2 h4 h3.size hb, hbad, RowB.of_own h2, (hrk.keep ka (fun _ h => h.elim)).grown h3 (fun c hc => by have := hb c hc; omega), (hrb.keep ka (fun _ h => h.elim)).grown h3 (fun c hc => by have := hb c hc; omega), keeps_grown (hkw.trans ka) h3 (fun c hc => by have := hb c hc; omega), Nat.le_trans hs9 (Nat.le_trans ka.size h3.size)⟩
      obtain ⟨xs, q1, q2, q3, q4, q5, q6, q7⟩ := H10.out
      have H11 := Hid.mk' (H11a.out xs q1 q2 q3 q4 q5 q6 q7)
      have hown := q2
      have hsw : w4.heap.size ≤ wr.heap.size := by have := HSZ.out; omega
      clear H11a q1 q2 q3 q4 q5 q6 q7 H10
      obtain ⟨V, hV⟩ : ∃ V : List Int, V = (els g (A : Int) 0 512).map (fun x => x.2) := ⟨_, rfl⟩
      have hVl : V.length = (els g (A : Int) 0 512).length := by rw [hV, List.length_map]
      have hVm : (els g (A : Int) 0 512).map val = V.map mkI := by rw [hV, List.map_map]; rfl
      have hV5 : V.length ≤ 512 := by rw [hVl]; exact els_len g _ 0 512
      have hCut : ∀ W z f, TreeAt W z f → (∀ o, o < 512 → f o = g o) → Calls Try.prog 19 #[.pointer (some ⟨z, 0, none⟩), .int .i64 (A : Int)] W fun e w' => ∃ a c, e = .returned (.slice a V.length c) ∧ Hid (Keeps (fun x => x = z) W w' ∧ TreeAt w' z (cutF g 0 A) ∧ w'.ownsRow W.heap.size 3 1 (.slice a V.length c) V.length (V.map mkI)) := fun W z f hT hf =>
        (cut_any W z A g (hT.congr hf)).mono fun e w' ⟨s, he, h1, h2, h3⟩ => by
          rw [← hVl, hVm] at h3
          obtain ⟨a, c, rfl⟩ := slice_of h3
          exact ⟨a, c, he, h1, h2, h3⟩
      have HV := Hid.mk' (And.intro hVl hVm)
      clear hV hVl hVm
      go_wp2_with (first
        | (go_at_call 19; refine (hCut w11 c g H12.out.1.2.2.1 (fun _ _ => rfl)).mono ?_; rintro e w12 ⟨a12, c12, rfl, H13⟩)
        | (at_builtin; refine wpList_append_stay (w := wr.alloc _) rfl _ _ 27 rfl w4.heap.size 38 i0 (.agg #[.int .i64 0, .int .i64 0, .int .i64 0]) 3 24 Try.underlying27 hi hz0 hz1 hz2 rfl (by decide) _ _ _ rfl (World.ownsRow.alloc hown _) ⟨wr.heap.size, 0, none⟩ 2 2 six rfl rfl (cells_new wr six 38) (by simp [six, Value.oneCell']) (by omega) (by simp [maxLen]; omega) (by omega) (by simp; omega) (wr.heap.size + 1) (by simp) ?_; intro gm cm w11 h2 h3 h4 _; have H12 := Hid.mk' (H11.out _ gm cm w11 h2 h3 h4); clear h2 h3 h4))
      have HS12 : Hid (FX w12 t u c d g (cutF g 0 A) g ∧ w12.ownsRow w11.heap.size 3 1 (.slice a12 V.length c12) V.length (V.map mkI) ∧ RR w12 (.slice a5 R.length c5) (.slice (some ⟨gm, 0, none⟩) (R.length + 2) cm) (.slice a6 R.length c6) (.slice a7 R.length c7) R.length xs R w4.heap.size w5.heap.size w6.heap.size w7.heap.size w11.heap.size ∧ BadUp xs R.length ∧ Keeps (fun _ => False) w w12 ∧ w7.heap.size ≤ w11.heap.size ∧ w11.heap.size ≤ w12.heap.size) := by
        obtain ⟨q1, q2, q3, q4, q5, q6, q7, q8⟩ := H12.out
        obtain ⟨r1, r2, r3⟩ := H13.out
        have hsz := HSZ.out
        exact ⟨q1.turnC (by omega) r1 r2, r3, RR.keep ⟨q2, q4, q5, q6⟩ (by omega) r1 (by rintro k rfl; omega), q3, q7.then r1 (by rintro k rfl; right; omega), by omega, r1.size⟩
      clear H12 H13 H11 hown hsw
      have hGT : ∀ W (k : Nat), k < 512 → Keeps (fun _ => False) w12 W → Calls Try.prog 15 #[.pointer (some ⟨t, 0, none⟩), .int .i64 (k : Int)] W fun e w' => e = .returned (.int .i64 (g k)) ∧ Hid (Keeps (fun _ => False) w12 w' ∧ Keeps (fun _ => False) W w') := fun W k hk5 hk => by
        have := get_any W t g (k : Int) (HS12.out.1.1.keep hk)
        rw [getF_nat g hk5] at this
        exact this.mono fun e w' ⟨h1, h2⟩ => ⟨h1, hk.trans h2, h2⟩
      go_loopw [17, 18] (fun v i wr => ∃ k : Nat, A ≤ k ∧ k ≤ 512 ∧ i = .int .i64 k ∧ Hid (Keeps (fun _ => False) w12 wr ∧ wr.ownsRow w12.heap.size 3 1 v (els g (A : Int) 0 k).length ((els g (A : Int) 0 k).map val))) (fun _ i _ => 512 - (intOf i).toNat)
      case atStart =>
        refine ⟨A, by omega, by omega, rfl, Keeps.refl _ _, ?_⟩
        have e : els g (A : Int) 0 A = [] := els_none (fun o _ ho => .inl (by omega))
        rw [e]
        exact World.ownsRow_nil _ _ _ _
      case round =>
        obtain ⟨k, hAk, hk, rfl, H14⟩ := hrel
        by_cases h1 : k < 512
        · have h1' : (k : Int) < 512 := by omega
          have hsn := els_snoc g (A : Int) k h1
          have hln := els_len g (A : Int) 0 k
          have hG1 := hGT wr k h1 H14.out.1
          have hG2 := fun W (h : Hid (Keeps (fun _ => False) w12 W ∧ Keeps (fun _ => False) wr W)) => (hGT W k h1 h.out.1).mono (R' := fun e w' => e = .returned (.int .i64 (g k)) ∧ Hid (Keeps (fun _ => False) w12 w' ∧ w'.ownsRow w12.heap.size 3 1 u17 (els g (A : Int) 0 k).length ((els g (A : Int) 0 k).map val))) (fun e w' ⟨h1, h2⟩ => ⟨h1, h2.out.1, ownsRow_keeps H14.out.2 (h.out.2.trans h2.out.2) (fun _ _ h => h)⟩)
          by_cases h0 : g k = 0
          · rw [if_neg (by simp [h0]), List.append_nil] at hsn
            rw [h0] at hG1
            have HS := Hid.mk' hsn
            clear hsn hG2 hGT
            go_wp2_with (first | (go_at_call 15; refine hG1.mono ?_; rintro e w13 ⟨rfl, H15⟩))
            go_roundw
            case rel => exact ⟨k + 1, by omega, by omega, by go_num, H15.out.1, by rw [HS.out]; exact ownsRow_keeps H14.out.2 H15.out.2 (fun _ _ h => h)⟩
            case measure => simp [intOf]; omega
          · rw [if_pos ⟨by omega, h0⟩] at hsn
            have h0b : (g k == 0) = false := by simpa using h0
            have h0c : (g k != 0) = true := by simpa using h0
            have HS := Hid.mk' (show (els g (A : Int) 0 (k + 1)).length = (els g (A : Int) 0 k).length + 1 ∧ (els g (A : Int) 0 (k + 1)).map val = (els g (A : Int) 0 k).map val ++ [.int .i64 (g k)] by rw [hsn]; exact ⟨by simp, by simp [val]⟩)
            clear hsn hGT
            generalize g k = gk at *
            go_wp2_with (first
              | (at_builtin; refine wpList_append_own _ rfl _ _ 41 rfl w12.heap.size 3 j0 (.int .i64 0) 1 8 Try.underlying41 hj hy0 hy1 hy2 rfl (by decide) _ _ _ rfl (World.ownsRow.alloc H16.out.2 _) ⟨w14.heap.size, 0, none⟩ 1 1 [.int .i64 gk] rfl rfl (cells_new w14 [.int .i64 gk] 3) (by simp [Value.oneCell']) (by simp [maxLen]; omega) (by omega) (by have := H16.out.1.size; simp; omega) ?_; intro v' w15 h2 h3 _; have H17 : Hid (Keeps (fun _ => False) w12 w15 ∧ _) := ⟨(H16.out.1.trans (Keeps.new w14 _)).step h3 (fun c hc => .inr (H16.out.2.lt c hc).1), h2⟩; clear h2 h3)
              | (go_at_call 15; refine (hG2 w13 H15).mono ?_; rintro e w14 ⟨rfl, H16⟩)
              | (go_at_call 15; refine hG1.mono ?_; rintro e w13 ⟨rfl, H15⟩))
            go_roundw
            case rel => exact ⟨k + 1, by omega, by omega, by go_num, H17.out.1, by rw [HS.out.1, HS.out.2]; exact H17.out.2⟩
            case measure => simp [intOf]; omega
        · obtain rfl : k = 512 := by omega
          have h1' : ¬ ((512 : Nat) : Int) < 512 := by omega
          have HW : Hid (Keeps (fun _ => False) w12 wr ∧ wr.ownsRow w12.heap.size 3 1 u17 V.length (V.map mkI)) := by
            have := H14.out
            rw [← HV.out.1, HV.out.2] at this
            exact this
          obtain ⟨a13, c13, rfl⟩ := slice_of HW.out.2
          clear hGT H14
          have HS13 : Hid (FX wr t u c d g (cutF g 0 A) g ∧ wr.ownsRow w11.heap.size 3 1 (.slice a12 V.length c12) V.length (V.map mkI) ∧ RR wr (.slice a5 R.length c5) (.slice (some ⟨gm, 0, none⟩) (R.length + 2) cm) (.slice a6 R.length c6) (.slice a7 R.length c7) R.length xs R w4.heap.size w5.heap.size w6.heap.size w7.heap.size w11.heap.size ∧ BadUp xs R.length ∧ Keeps (fun _ => False) w wr ∧ RowB wr (.slice a13 V.length c13) V.length (V.map mkI) w12.heap.size wr.heap.size ∧ (w7.heap.size ≤ w11.heap.size ∧ w11.heap.size ≤ w12.heap.size ∧ w12.heap.size ≤ wr.heap.size)) := by
            obtain ⟨q1, q2, q3, q4, q5, q6, q7⟩ := HS12.out
            obtain ⟨r1, r2⟩ := HW.out
            exact ⟨q1.keep r1, ownsRow_keeps q2 r1 (fun _ _ h => h), q3.same r1, q4, q5.trans r1, RowB.of_own r2, q6, q7, r1.size⟩
          have HXB : Hid (∀ c', (Value.slice a12 V.length c12).ownBlock = some c' → w11.heap.size ≤ c' ∧ c' < w12.heap.size) := fun c' hc => HS12.out.2.1.lt c' hc
          clear HS12 HW
          obtain ⟨W13, hW13⟩ : ∃ W13, W13 = wr := ⟨_, rfl⟩
          subst hW13
          have hSI : ∀ W va vb, Row W va V.length (V.map mkI) → Row W vb V.length (V.map mkI) → Calls Try.prog 20 #[va, vb] W fun e w' => e = .returned (.bool true) ∧ Hid (Keeps (fun _ => False) W w') := fun W va vb h1 h2 =>
            (sameInts_any W va vb V h1 h2 (by omega)).mono fun e w' ⟨h1, m, h2⟩ => ⟨h1, by rw [h2]; exact Keeps.drewN _ _ _⟩
          go_wp2_with (first
            | (go_at_call 20; refine (hSI W13 _ _ (Row.of_own HS13.out.2.1) HS13.out.2.2.2.2.2.1.row).mono ?_; rintro e w14 ⟨rfl, H14⟩))
          go_loopw [19] (fun i wr => ∃ k : Nat, k ≤ V.length ∧ i = .int .i64 k ∧ Hid (∃ ys, FX wr t u c d g (cutF g 0 A) g ∧ wr.ownsRow w11.heap.size 3 1 (.slice a12 V.length c12) V.length ys ∧ FiveUp ys k ∧ RR wr (.slice a5 R.length c5) (.slice (some ⟨gm, 0, none⟩) (R.length + 2) cm) (.slice a6 R.length c6) (.slice a7 R.length c7) R.length xs R w4.heap.size w5.heap.size w6.heap.size w7.heap.size w11.heap.size ∧ Keeps (fun _ => False) w wr ∧ RowB wr (.slice a13 V.length c13) V.length (V.map mkI) w12.heap.size W13.heap.size ∧ W13.heap.size ≤ wr.heap.size)) (fun i _ => V.length - (intOf i).toNat)
          case atStart =>
            obtain ⟨q1, q2, q3, q4, q5, q6, _⟩ := HS13.out
            exact ⟨0, by omega, rfl, _, q1.keep H14.out, ownsRow_keeps q2 H14.out (fun _ _ h => h), fun i hi => absurd hi (by omega), q3.same H14.out, q5.trans H14.out, q6.keep H14.out (fun _ h => h.elim), H14.out.size⟩
          case round =>
            obtain ⟨k, hk, rfl, H15⟩ := hrel
            by_cases h1 : k < V.length
            · have h1' : (k : Int) < (V.length : Int) := by omega
              obtain ⟨ys, hFX, hown, hfive, hRR, hkw, hwant, hs⟩ := H15.out
              obtain ⟨gx, cx, ea, _, _, hgx, _, hcc⟩ := open_row' hown (by omega)
              cases ea
              have hyl : ys.length = V.length := by have := hown.1; omega
              have z0 := hcc k _ (List.getElem?_eq_getElem (by omega))
              obtain ⟨cur, hobj⟩ := row_obj hown rfl
              have fz : wr.frozen? ⟨gx, k, none⟩ = false := by simp [World.frozen?, hobj]
              generalize ys[k]'(by omega) = v0 at z0
              have k3 : Keeps (fun c => c = gx) wr (wr.setCell ⟨gx, k, none⟩ (.int .i64 (-5))) := one_keeps _ _ _ _
              have hbl := HXB.out gx rfl
              have hsz := HSZ.out
              have hsz2 := HS13.out.2.2.2.2.2.2
              have HN : Hid (∃ ys, FX (wr.setCell ⟨gx, k, none⟩ (.int .i64 (-5))) t u c d g (cutF g 0 A) g ∧ _ ∧ FiveUp ys (k + 1) ∧ _ ∧ _ ∧ _ ∧ _) := ⟨_, hFX.row hown rfl (.inr rfl) k3, ownsRow_set hown rfl k (.int .i64 (-5)), hfive.next (by omega), hRR.keep (by omega) k3 (by rintro c rfl; omega), hkw.then k3 (by rintro c rfl; right; omega), hwant.keep k3 (by rintro c rfl; omega), Nat.le_trans hs k3.size⟩
              clear hcc hobj hFX hown hfive hRR hkw hwant hs k3 hbl hsz hsz2
              go_wp2
              go_roundw
              case rel => exact ⟨k + 1, by omega, by go_num, HN⟩
              case measure => simp [intOf]; omega
            · have h1' : ¬ (k : Int) < (V.length : Int) := by omega
              obtain rfl : k = V.length := by omega
              obtain ⟨W15, hW15⟩ : ∃ W15, W15 = wr := ⟨_, rfl⟩
              subst hW15
              obtain ⟨ys, hFX, hown, hfive, hRR, hkw, hwant, hs⟩ := H15.out
              have HIN := Hid.mk' (And.intro hFX (And.intro hown (And.intro hfive (And.intro hRR (And.intro hkw (And.intro hwant hs))))))
              have hyl : ys.length = V.length := by have := hown.1; omega
              clear H15 hFX hown hfive hRR hkw hwant hs
              have hY : Calls Try.prog 19 #[.pointer (some ⟨d, 0, none⟩), .int .i64 (A : Int)] W15 fun e w' => ∃ a c', e = .returned (.slice a V.length c') ∧ Hid (FX w' t u c d g (cutF g 0 A) (cutF g 0 A) ∧ w'.ownsRow w11.heap.size 3 1 (.slice a12 V.length c12) V.length ys ∧ RR w' (.slice a5 R.length c5) (.slice (some ⟨gm, 0, none⟩) (R.length + 2) cm) (.slice a6 R.length c6) (.slice a7 R.length c7) R.length xs R w4.heap.size w5.heap.size w6.heap.size w7.heap.size w11.heap.size ∧ Keeps (fun _ => False) w w' ∧ RowB w' (.slice a13 V.length c13) V.length (V.map mkI) w12.heap.size W13.heap.size ∧ RowB w' (.slice a V.length c') V.length (V.map mkI) W15.heap.size w'.heap.size ∧ W15.heap.size ≤ w'.heap.size) :=
                (hCut W15 d g HIN.out.1.2.2.2 (fun _ _ => rfl)).mono fun e w' ⟨a, c', he, hh⟩ => by
                  obtain ⟨hFX, hown, hfive, hRR, hkw, hwant, hs⟩ := HIN.out
                  obtain ⟨r1, r2, r3⟩ := hh.out
                  have hsz := HSZ.out
                  have hsz2 := HS13.out.2.2.2.2.2.2
                  exact ⟨a, c', he, hFX.turnD (by omega) r1 r2, ownsRow_keeps hown r1 (fun z hz h => by have := HXB.out z hz; omega), hRR.keep (by omega) r1 (by rintro k rfl; omega), hkw.then r1 (by rintro k rfl; right; omega), hwant.keep r1 (by rintro k rfl; omega), RowB.of_own r3, r1.size⟩
              have hZ : ∀ w16 a16 c16, (FX w16 t u c d g (cutF g 0 A) (cutF g 0 A) ∧ w16.ownsRow w11.heap.size 3 1 (.slice a12 V.length c12) V.length ys ∧ RR w16 (.slice a5 R.length c5) (.slice (some ⟨gm, 0, none⟩) (R.length + 2) cm) (.slice a6 R.length c6) (.slice a7 R.length c7) R.length xs R w4.heap.size w5.heap.size w6.heap.size w7.heap.size w11.heap.size ∧ Keeps (fun _ => False) w w16 ∧ RowB w16 (.slice a13 V.length c13) V.length (V.map mkI) w12.heap.size W13.heap.size ∧ RowB w16 (.slice a16 V.length c16) V.length (V.map mkI) W15.heap.size w16.heap.size ∧ W15.heap.size ≤ w16.heap.size) →
                  ∀ o gz cz w17, w17.ownsRow w11.heap.size 3 1 (.slice (some ⟨gz, 0, none⟩) (V.length + 2) cz) (V.length + 2) (ys ++ [.int .i64 (-6), .int .i64 (-7)]) → (w16.alloc o).grownBy w17 (Value.slice a12 V.length c12).ownBlock → ((Value.slice a12 V.length c12).ownBlock = some gz ∨ (gz = w16.heap.size + 1 ∧ (w16.alloc o).grownBy w17 none)) →
                  FX w17 t u c d g (cutF g 0 A) (cutF g 0 A) ∧ RR w17 (.slice a5 R.length c5) (.slice (some ⟨gm, 0, none⟩) (R.length + 2) cm) (.slice a6 R.length c6) (.slice a7 R.length c7) R.length xs R w4.heap.size w5.heap.size w6.heap.size w7.heap.size w11.heap.size ∧ RowB w17 (.slice a12 V.length c12) V.length ys w11.heap.size w12.heap.size ∧ RowB w17 (.slice (some ⟨gz, 0, none⟩) (V.length + 2) cz) (V.length + 2) (ys ++ [.int .i64 (-6), .int .i64 (-7)]) w11.heap.size w17.heap.size ∧ RowB w17 (.slice a13 V.length c13) V.length (V.map mkI) w12.heap.size W13.heap.size ∧ RowB w17 (.slice a16 V.length c16) V.length (V.map mkI) W15.heap.size w16.heap.size ∧ Keeps (fun _ => False) w w17 := by
                rintro w16 a16 c16 ⟨q1, q2, q3, q4, q5, q6, q7⟩ o gz cz w17 h2 h3 h4
                have hsz := HSZ.out
                have hsz2 := HS13.out.2.2.2.2.2.2
                have hsz3 := HIN.out.2.2.2.2.2.2
                have ka := Keeps.new w16 o
                have hown' := World.ownsRow.alloc q2 o
                have hb := HXB.out
                exact ⟨(q1.keep ka).grown hown' (.inr rfl) h3, (q3.same ka).keep (by omega) (Keeps.of (X := fun c' => (Value.slice a12 V.length c12).ownBlock = some c') h3 (fun _ h => .inl h)) (fun c' hc => by have := hb c' hc; omega), RowB.stay hown' h2 h4 h3.size hb, RowB.of_own h2, (q5.keep ka (fun _ h => h.elim)).grown h3 (fun c' hc => by have := hb c' hc; omega), (q6.keep ka (fun _ h => h.elim)).grown h3 (fun c' hc => by have := hb c' hc; omega), keeps_grown (q4.trans ka) h3 (fun c' hc => by have := hb c' hc; omega)⟩
              have HZL := Hid.mk' hZ
              clear hZ
              go_wp2_with (first
                | (go_at_call 20; refine (hSI w17 _ _ HZ.out.2.2.2.2.2.1.row HZ.out.2.2.2.2.1.row).mono ?_; rintro e w18 ⟨rfl, H18⟩)
                | (at_builtin; refine wpList_append_stay (w := w16.alloc _) rfl _ _ 41 rfl w11.heap.size 3 j0 (.int .i64 0) 1 8 Try.underlying41 hj hy0 hy1 hy2 rfl (by decide) _ _ _ rfl (World.ownsRow.alloc H16.out.2.1 _) ⟨w16.heap.size, 0, none⟩ 2 2 [.int .i64 (-6), .int .i64 (-7)] rfl rfl (cells_new w16 [.int .i64 (-6), .int .i64 (-7)] 3) (by simp [Value.oneCell']) (by omega) (by simp [maxLen]; omega) (by omega) (by have := HS13.out.2.2.2.2.2.2; have := HIN.out.2.2.2.2.2.2; have := H16.out.2.2.2.2.2.2; simp; omega) (w16.heap.size + 1) (by simp) ?_; intro gz cz w17 h2 h3 h4 _; have HZ := Hid.mk' (HZL.out w16 a16 c16 H16.out _ gz cz w17 h2 h3 h4); clear h2 h3 h4)
                | (go_at_call 19; refine hY.mono ?_; rintro e w16 ⟨a16, c16, rfl, H16⟩))
              have HY : Hid (FX w18 t u c d g (cutF g 0 A) (cutF g 0 A) ∧ RR w18 (.slice a5 R.length c5) (.slice (some ⟨gm, 0, none⟩) (R.length + 2) cm) (.slice a6 R.length c6) (.slice a7 R.length c7) R.length xs R w4.heap.size w5.heap.size w6.heap.size w7.heap.size w11.heap.size ∧ RowB w18 (.slice a12 V.length c12) V.length ys w11.heap.size w12.heap.size ∧ RowB w18 (.slice (some ⟨gz, 0, none⟩) (V.length + 2) cz) (V.length + 2) (ys ++ [.int .i64 (-6), .int .i64 (-7)]) w11.heap.size w17.heap.size ∧ Keeps (fun _ => False) w w18) := by
                obtain ⟨q1, q2, q3, q4, q5, q6, q7⟩ := HZ.out
                have hk := H18.out
                exact ⟨q1.keep hk, q2.same hk, q3.keep hk (fun _ h => h.elim), q4.keep hk (fun _ h => h.elim), q7.trans hk⟩
              have HFIVE := Hid.mk' HIN.out.2.2.1
              have HBAD := Hid.mk' HS13.out.2.2.2.1
              have HSZ2 := Hid.mk' HS13.out.2.2.2.2.2.2
              clear HZ H18 HZL HIN hY HS13 H16
              have hXs : ∀ wr', Keeps (fun _ => False) w18 wr' → ∀ k, k < V.length → ∃ bx, a12 = some ⟨bx, 0, none⟩ ∧ wr'.cell? ⟨bx, k, none⟩ = some (.int .i64 (-5)) ∧ wr'.cell? ⟨gz, k, none⟩ = some (.int .i64 (-5)) := fun wr' hk' k hk => by
                obtain ⟨a, c', e, _, _, h⟩ := HY.out.2.2.1
                cases e
                obtain ⟨bx, rfl, _, _, _, hc⟩ := h (by omega)
                obtain ⟨a, c', e, _, _, h⟩ := HY.out.2.2.2.1
                cases e
                obtain ⟨bz, ez, _, _, _, hcz⟩ := h (by omega)
                cases ez
                have hf := HFIVE.out k hk
                exact ⟨bx, rfl, hk'.cell (hc k _ hf) id, hk'.cell (hcz k _ (by rw [List.getElem?_append_left (by omega)]; exact hf)) id⟩
              have HXS := Hid.mk' hXs
              clear hXs
              go_loopw [22] (fun i wr => ∃ k : Nat, k ≤ V.length ∧ i = .int .i64 k ∧ Hid (Keeps (fun _ => False) w18 wr)) (fun i _ => V.length - (intOf i).toNat)
              case atStart => exact ⟨0, by omega, rfl, Keeps.refl _ _⟩
              case round =>
                obtain ⟨k, hk, rfl, H19⟩ := hrel
                by_cases h1 : k < V.length
                · have h1' : (k : Int) < (V.length : Int) := by omega
                  have h2' : (k : Int) < ((V.length + 2 : Nat) : Int) := by omega
                  obtain ⟨bx, rfl, z0, z1⟩ := HXS.out wr H19.out k h1
                  go_wp2
                  go_roundw
                  case rel => exact ⟨k + 1, by omega, by go_num, H19⟩
                  case measure => simp [intOf]; omega
                · have h1' : ¬ (k : Int) < (V.length : Int) := by omega
                  have hAs : ∀ wr', Keeps (fun _ => False) w18 wr' → ∀ k, k < R.length → ∃ ba bk bb, a5 = some ⟨ba, 0, none⟩ ∧ a6 = some ⟨bk, 0, none⟩ ∧ a7 = some ⟨bb, 0, none⟩ ∧
                      (wr'.cell? ⟨ba, k * 3, none⟩ = some (.int .i64 (-1)) ∧ wr'.cell? ⟨ba, k * 3 + 1, none⟩ = some (.int .i64 (k : Int)) ∧ wr'.cell? ⟨ba, k * 3 + 2, none⟩ = some (.int .i64 7)) ∧
                      (wr'.cell? ⟨gm, k * 3, none⟩ = some (.int .i64 (-1)) ∧ wr'.cell? ⟨gm, k * 3 + 1, none⟩ = some (.int .i64 (k : Int)) ∧ wr'.cell? ⟨gm, k * 3 + 2, none⟩ = some (.int .i64 7)) ∧
                      (wr'.cell? ⟨bk, k * 3, none⟩ = some (.int .i64 (R.getD k rz).1) ∧ wr'.cell? ⟨bk, k * 3 + 1, none⟩ = some (.int .i64 (R.getD k rz).2.1) ∧ wr'.cell? ⟨bk, k * 3 + 2, none⟩ = some (.int .i64 (R.getD k rz).2.2)) ∧
                      (wr'.cell? ⟨bb, k * 3, none⟩ = some (.int .i64 (R.getD k rz).1) ∧ wr'.cell? ⟨bb, k * 3 + 1, none⟩ = some (.int .i64 (R.getD k rz).2.1) ∧ wr'.cell? ⟨bb, k * 3 + 2, none⟩ = some (.int .i64 (R.getD k rz).2.2)) := fun wr' hk' k hk => by
                    obtain ⟨⟨a, c', e, _, _, hA⟩, ⟨am, c'', e2, _, _, hM⟩, ⟨ak, c3, e3, _, _, hK⟩, ⟨ab, c4, e4, _, _, hB⟩⟩ := HY.out.2.1
                    cases e; cases e2; cases e3; cases e4
                    obtain ⟨ba, rfl, _, _, _, hcA⟩ := hA (by omega)
                    obtain ⟨bm, em, _, _, _, hcM⟩ := hM (by omega)
                    cases em
                    obtain ⟨bk, rfl, _, _, _, hcK⟩ := hK (by omega)
                    obtain ⟨bb, rfl, _, _, _, hcB⟩ := hB (by omega)
                    obtain ⟨f0, f1, f2⟩ := HBAD.out k hk
                    obtain ⟨g0, g1, g2⟩ := rflat_get R k hk
                    have ap : ∀ {j v}, xs[j]? = some v → (xs ++ six)[j]? = some v := fun {j v} h => by rw [List.getElem?_append_left (List.getElem?_eq_some_iff.1 h).1]; exact h
                    exact ⟨ba, bk, bb, rfl, rfl, rfl, ⟨hk'.cell (hcA _ _ f0) id, hk'.cell (hcA _ _ f1) id, hk'.cell (hcA _ _ f2) id⟩, ⟨hk'.cell (hcM _ _ (ap f0)) id, hk'.cell (hcM _ _ (ap f1)) id, hk'.cell (hcM _ _ (ap f2)) id⟩, ⟨hk'.cell (hcK _ _ g0) id, hk'.cell (hcK _ _ g1) id, hk'.cell (hcK _ _ g2) id⟩, ⟨hk'.cell (hcB _ _ g0) id, hk'.cell (hcB _ _ g1) id, hk'.cell (hcB _ _ g2) id⟩⟩
                  have HAS := Hid.mk' hAs
                  clear hAs
                  go_wp2
                  go_loopw [23] (fun i wr => ∃ k : Nat, k ≤ R.length ∧ i = .int .i64 k ∧ Hid (Keeps (fun _ => False) w18 wr)) (fun i _ => R.length - (intOf i).toNat)
                  case atStart => exact ⟨0, by omega, rfl, H19⟩
                  case round =>
                    obtain ⟨k, hk, rfl, H20⟩ := hrel
                    by_cases h1 : k < R.length
                    · have h1' : (k : Int) < (R.length : Int) := by omega
                      have h2' : (k : Int) < ((R.length + 2 : Nat) : Int) := by omega
                      obtain ⟨ba, bk, bb, rfl, rfl, rfl, ⟨z0, z1, z2⟩, ⟨m0, m1, m2⟩, ⟨k0, k1, k2⟩, ⟨b0, b1, b2⟩⟩ := HAS.out wr H20.out k h1
                      generalize R.getD k rz = rr at *
                      obtain ⟨rO, rP, rC⟩ := rr
                      simp only at k0 k1 k2 b0 b1 b2
                      have q1 := run_eql (-1) (k : Int) 7
                      have q2 := run_eql rO rP rC
                      go_wp2
                      go_quiet (fail)
                      go_wp2
                      go_roundw
                      case rel => exact ⟨k + 1, by omega, by go_num, H20.out.trans (Keeps.drewN (fun _ => False) wr nq)⟩
                      case measure => simp [intOf]; omega
                    · have h1' : ¬ (k : Int) < (R.length : Int) := by omega
                      have hGa : ∀ W z f (o : Nat), o < 512 → TreeAt W z f → Calls Try.prog 15 #[.pointer (some ⟨z, 0, none⟩), .int .i64 (o : Int)] W fun e w' => e = .returned (.int .i64 (f o)) ∧ Hid (Keeps (fun _ => False) W w') := fun W z f o ho hT => by
                        have := get_any W z f (o : Int) hT
                        rw [getF_nat f ho] at this
                        exact this
                      have hGt : ∀ W, Hid (Keeps (fun _ => False) w18 W) → ∀ o : Nat, o < 512 → Calls Try.prog 15 #[.pointer (some ⟨t, 0, none⟩), .int .i64 (o : Int)] W fun e w' => e = .returned (.int .i64 (g o)) ∧ Hid (Keeps (fun _ => False) w18 w') := fun W h o ho => (hGa W t g o ho (HY.out.1.1.keep h.out)).mono fun e w' ⟨h1, h2⟩ => ⟨h1, h.out.trans h2.out⟩
                      have hGu : ∀ W, Hid (Keeps (fun _ => False) w18 W) → ∀ o : Nat, o < 512 → Calls Try.prog 15 #[.pointer (some ⟨u, 0, none⟩), .int .i64 (o : Int)] W fun e w' => e = .returned (.int .i64 (g o)) ∧ Hid (Keeps (fun _ => False) w18 w') := fun W h o ho => (hGa W u g o ho (HY.out.1.2.1.keep h.out)).mono fun e w' ⟨h1, h2⟩ => ⟨h1, h.out.trans h2.out⟩
                      have hGc : ∀ W, Hid (Keeps (fun _ => False) w18 W) → ∀ o : Nat, o < 512 → Calls Try.prog 15 #[.pointer (some ⟨c, 0, none⟩), .int .i64 (o : Int)] W fun e w' => e = .returned (.int .i64 (cutF g 0 A o)) ∧ Hid (Keeps (fun _ => False) w18 w') := fun W h o ho => (hGa W c (cutF g 0 A) o ho (HY.out.1.2.2.1.keep h.out)).mono fun e w' ⟨h1, h2⟩ => ⟨h1, h.out.trans h2.out⟩
                      clear HAS hGa
                      go_wp2
                      go_loopw [24] (fun i wr => ∃ k : Nat, k ≤ 512 ∧ i = .int .i64 k ∧ Hid (Keeps (fun _ => False) w18 wr)) (fun i _ => 512 - (intOf i).toNat)
                      case atStart => exact ⟨0, by omega, rfl, H20⟩
                      case round =>
                        obtain ⟨k, hk, rfl, H21⟩ := hrel
                        by_cases h1 : k < 512
                        · have h1' : (k : Int) < 512 := by omega
                          have gt := fun W h => hGt W h k h1
                          have gu := fun W h => hGu W h k h1
                          have gc := fun W h => hGc W h k h1
                          by_cases hA2 : k < A
                          · have hA2' : (k : Int) < (A : Int) := by omega
                            have ec : cutF g 0 A k = g k := by simp [cutF, hA2]
                            rw [ec] at gc
                            generalize g k = gk at gt gu gc
                            clear hGt hGu hGc ec
                            go_wp2_with (first
                              | (go_at_call 15; refine (gt w24 H24).mono ?_; rintro e w25 ⟨rfl, H25⟩)
                              | (go_at_call 15; refine (gc w23 H23).mono ?_; rintro e w24 ⟨rfl, H24⟩)
                              | (go_at_call 15; refine (gu w22 H22).mono ?_; rintro e w23 ⟨rfl, H23⟩)
                              | (go_at_call 15; refine (gt wr H21).mono ?_; rintro e w22 ⟨rfl, H22⟩))
                            go_roundw
                            case rel => exact ⟨k + 1, by omega, by go_num, H25⟩
                            case measure => simp [intOf]; omega
                          · have hA2' : ¬ (k : Int) < (A : Int) := by omega
                            have ec : cutF g 0 A k = 0 := by simp [cutF]; omega
                            rw [ec] at gc
                            generalize g k = gk at gt gu
                            clear hGt hGu hGc ec
                            go_wp2_with (first
                              | (go_at_call 15; refine (gc w23 H23).mono ?_; rintro e w24 ⟨rfl, H24⟩)
                              | (go_at_call 15; refine (gu w22 H22).mono ?_; rintro e w23 ⟨rfl, H23⟩)
                              | (go_at_call 15; refine (gt wr H21).mono ?_; rintro e w22 ⟨rfl, H22⟩))
                            go_roundw
                            case rel => exact ⟨k + 1, by omega, by go_num, H24⟩
                            case measure => simp [intOf]; omega
                        · have h1' : ¬ (k : Int) < 512 := by omega
                          have hLc : ∀ W, Hid (Keeps (fun _ => False) w18 W) → Calls Try.prog 13 #[.pointer (some ⟨c, 0, none⟩)] W fun e w' => e = .returned (.int .i64 ((els (cutF g 0 (A : Int)) 0 0 512).length : Int)) ∧ Hid (Keeps (fun _ => False) w18 w') := fun W h => (len_any W c _ (HY.out.1.2.2.1.keep h.out)).mono fun e w' ⟨h1, h2⟩ => ⟨h1, h.out.trans h2⟩
                          have hLt : ∀ W, Hid (Keeps (fun _ => False) w18 W) → Calls Try.prog 13 #[.pointer (some ⟨t, 0, none⟩)] W fun e w' => e = .returned (.int .i64 ((els g 0 0 512).length : Int)) ∧ Hid (Keeps (fun _ => False) w18 w') := fun W h => (len_any W t g (HY.out.1.1.keep h.out)).mono fun e w' ⟨h1, h2⟩ => ⟨h1, h.out.trans h2⟩
                          have hRn : ∀ W, Hid (Keeps (fun _ => False) w18 W) → Calls Try.prog 11 #[.pointer (some ⟨t, 0, none⟩)] W fun e w' => ∃ a c', e = .returned (.slice a R.length c') ∧ Hid (Keeps (fun _ => False) w18 w' ∧ Row w' (.slice a R.length c') R.length (rflat R)) := fun W h => (hRuns W t (HY.out.1.1.keep h.out)).mono fun e w' ⟨a, c', h1, h2⟩ => ⟨a, c', h1, h.out.trans h2.out.1, Row.of_own h2.out.2⟩
                          have hLn : ∀ W a c', Hid (Keeps (fun _ => False) w18 W ∧ Row W (.slice a R.length c') R.length (rflat R)) → Calls Try.prog 21 #[.slice a R.length c'] W fun e w' => e = .returned (.bool true) ∧ Hid (Keeps (fun _ => False) w18 w') := fun W a c' h => (lent_any W a R c' h.out.2 hRl HBD.out).mono fun e w' ⟨h1, h2⟩ => ⟨h1, h.out.1.trans h2.out⟩
                          have hcut := els_cut g A 512 (by omega)
                          rw [← HV.out.1] at hcut
                          have hE := els_len g 0 0 512
                          obtain ⟨N1, hN1⟩ : ∃ N1, (els (cutF g 0 (A : Int)) 0 0 512).length = N1 := ⟨_, rfl⟩
                          obtain ⟨N2, hN2⟩ : ∃ N2, (els g 0 0 512).length = N2 := ⟨_, rfl⟩
                          rw [hN1] at hLc hcut
                          rw [hN2] at hLt hcut hE
                          have hsum : (N1 : Int) + (V.length : Int) = (N2 : Int) := by omega
                          have hS1 : ∀ W, Hid (Keeps (fun _ => False) w18 W) → Calls Try.prog 22 #[.pointer (some ⟨c, 0, none⟩), .int .i64 511, .int .i64 81] W fun e w' => ∃ v, e = .returned v ∧ Hid (Keeps (fun x => x = c) w18 w' ∧ TreeAt w' c (setF (cutF g 0 A) 511 81)) := fun W h => (set_any W c _ 511 81 (HY.out.1.2.2.1.keep h.out)).mono fun e w' ⟨h1, h2, h3⟩ => ⟨_, h1, (h.out.mono (fun _ _ h => h.elim)).trans h2, h3⟩
                          have hS2 : ∀ W, Hid (Keeps (fun x => x = c) w18 W ∧ TreeAt W c (setF (cutF g 0 A) 511 81)) → Calls Try.prog 22 #[.pointer (some ⟨c, 0, none⟩), .int .i64 510, .int .i64 82] W fun e w' => ∃ v, e = .returned v ∧ Hid (Keeps (fun x => x = c) w18 w' ∧ TreeAt w' c (setF (setF (cutF g 0 A) 511 81) 510 82)) := fun W h => (set_any W c _ 510 82 h.out.2).mono fun e w' ⟨h1, h2, h3⟩ => ⟨_, h1, h.out.1.trans h2, h3⟩
                          have hC3 : ∀ W, Hid (Keeps (fun x => x = c) w18 W ∧ TreeAt W c (setF (setF (cutF g 0 A) 511 81) 510 82)) → Calls Try.prog 19 #[.pointer (some ⟨c, 0, none⟩), .int .i64 510] W fun e w' => ∃ a c', e = .returned (.slice a 2 c') ∧ Hid (Keeps (fun x => x = c) w18 w' ∧ RowB w' (.slice a 2 c') 2 [.int .i64 82, .int .i64 81] W.heap.size w'.heap.size) := fun W h => (cut_any W c 510 _ h.out.2).mono fun e w' ⟨s, h1, h2, h3, h4⟩ => by
                            have e2 := els_two (cutF g 0 (A : Int))
                            have e3 : (els (setF (setF (cutF g 0 (A : Int)) 511 81) 510 82) 510 0 512).length = 2 := by
                              have := congrArg List.length e2
                              simpa using this
                            rw [e2, e3] at h4
                            obtain ⟨a, c', rfl⟩ := slice_of h4
                            exact ⟨a, c', h1, h.out.1.trans h2, RowB.of_own h4⟩
                          have hSI2 : ∀ W a c', Hid (Keeps (fun x => x = c) w18 W ∧ RowB W (.slice a 2 c') 2 [.int .i64 82, .int .i64 81] 0 W.heap.size) → Calls Try.prog 20 #[.slice a 2 c', .slice (some ⟨W.heap.size, 0, none⟩) 2 2] (W.alloc (.cells #[.int .i64 82, .int .i64 81] 3)) fun e w' => e = .returned (.bool true) ∧ Hid (Keeps (fun x => x = c) w18 w') := fun W a c' h => by
                            have ka := Keeps.new W (.cells #[.int .i64 82, .int .i64 81] 3)
                            have hb := (MapKept.heap_alloc W (.cells #[.int .i64 82, .int .i64 81] 3)).1
                            refine (sameInts_any _ _ _ [82, 81] ((h.out.2.keep ka (fun _ h => h.elim)).row) ⟨_, _, rfl, fun _ => ⟨W.heap.size, 0, rfl, heap_lt hb, fun j v hj => ?_⟩⟩ (by simp)).mono fun e w' ⟨h1, m, h2⟩ => ⟨h1, by rw [h2]; exact h.out.1.trans ((ka.mono (fun _ _ h => h.elim)).trans (Keeps.drewN _ _ _))⟩
                            have := cells_new W [.int .i64 82, .int .i64 81] 3 j v hj
                            rw [addr_add] at this
                            exact this
                          clear hGt hGu hGc hRuns hCut hSI hN1 hN2 hcut
                          go_wp2_with (first
                            | (go_at_call 20; refine (hSI2 w32 a32 c32 H32).mono ?_; rintro e w33 ⟨rfl, H33⟩)
                            | (go_at_call 19; refine (hC3 w31 H31).mono ?_; rintro e w32 ⟨a32, c32, rfl, H32'⟩; have H32 : Hid (Keeps (fun x => x = c) w18 w32 ∧ RowB w32 (.slice a32 2 c32) 2 [.int .i64 82, .int .i64 81] 0 w32.heap.size) := ⟨H32'.out.1, by obtain ⟨q1, q2, q3, q4, q5, q6⟩ := H32'.out.2; exact ⟨q1, q2, q3, q4, q5, fun h0 => by obtain ⟨b, r1, r2, r3, r4⟩ := q6 h0; exact ⟨b, r1, by omega, r3, r4⟩⟩⟩)
                            | (go_at_call 22; refine (hS2 w30 H30).mono ?_; rintro e w31 ⟨v31, rfl, H31⟩)
                            | (go_at_call 22; refine (hS1 w29 H29).mono ?_; rintro e w30 ⟨v30, rfl, H30⟩)
                            | (go_at_call 21; refine (hLn w28 a28 c28 H28).mono ?_; rintro e w29 ⟨rfl, H29⟩)
                            | (go_at_call 11; refine (hRn w27 H27).mono ?_; rintro e w28 ⟨a28, c28, rfl, H28⟩)
                            | (go_at_call 13; refine (hLt w26 H26).mono ?_; rintro e w27 ⟨rfl, H27⟩)
                            | (go_at_call 13; refine (hLc wr H21).mono ?_; rintro e w26 ⟨rfl, H26⟩))
                          have hXf : ∀ wr', Keeps (fun x => x = c) w18 wr' → ∀ k, k < V.length → ∃ bx, a12 = some ⟨bx, 0, none⟩ ∧ wr'.cell? ⟨bx, k, none⟩ = some (.int .i64 (-5)) := fun wr' hk' k hk => by
                            obtain ⟨a, c', e, _, _, h⟩ := HY.out.2.2.1
                            cases e
                            obtain ⟨bx, rfl, hlo, _, _, hc⟩ := h (by omega)
                            have hsz := HSZ.out
                            have hsz2 := HSZ2.out
                            exact ⟨bx, rfl, hk'.cell (hc k _ (HFIVE.out k hk)) (by show ¬ bx = c; omega)⟩
                          have HXF := Hid.mk' hXf
                          clear hXf
                          go_loopw [26] (fun i wr => ∃ k : Nat, k ≤ V.length ∧ i = .int .i64 k ∧ Hid (Keeps (fun x => x = c) w18 wr)) (fun i _ => V.length - (intOf i).toNat)
                          case atStart => exact ⟨0, by omega, rfl, H33⟩
                          case round =>
                            obtain ⟨k, hk, rfl, H34⟩ := hrel
                            by_cases h1 : k < V.length
                            · have h1' : (k : Int) < (V.length : Int) := by omega
                              obtain ⟨bx, rfl, z0⟩ := HXF.out wr H34.out k h1
                              go_wp2
                              go_roundw
                              case rel => exact ⟨k + 1, by omega, by go_num, H34⟩
                              case measure => simp [intOf]; omega
                            · have h1' : ¬ (k : Int) < (V.length : Int) := by omega
                              go_wp2
                              go_ret
                              exact ⟨rfl, HY.out.2.2.2.2.then H34.out (by rintro k rfl; right; have := HSZ.out; omega)⟩

end Go.Proofs.Ytndojlacdggfcab
