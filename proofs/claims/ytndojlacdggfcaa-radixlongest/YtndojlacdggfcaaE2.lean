import Derived.Test.YtndojlacdggfcaaH6
import Derived.Test.YtndojlacdggfcaaE1
namespace Go.Proofs.Ytndojlacdggfcaa
open Go.RowKit

def bd (x : Int) : Prop := -9223372036854775808 ≤ x ∧ x ≤ 9223372036854775807
theorem lastW_bd (l : List Put) (off : Int) (h : ∀ q ∈ l, bd q.2.2) : bd (lastW l off) := by
  have : ∀ v, bd v → bd (l.foldl (lastS off) v) := by
    induction l with
    | nil => intro v hv; exact hv
    | cons q l ih =>
      intro v hv
      simp only [List.foldl_cons]
      refine ih (fun q' hq' => h q' (List.mem_cons_of_mem _ hq')) _ ?_
      unfold lastS
      have hz : bd 0 := ⟨by decide, by decide⟩
      split
      · split
        · exact hz
        · exact hv
      · split
        · exact h q (List.mem_cons_self ..)
        · exact hv
  exact this 0 ⟨by decide, by decide⟩
theorem play_bd (l : List Put) (h : ∀ q ∈ l, bd q.2.2) (o : Nat) (ho : o < 512) : bd (play (l.take 400) o) := by
  rw [play_last _ o ho]
  exact lastW_bd _ _ fun q hq => h q (List.mem_of_mem_take hq)

set_option maxRecDepth 100000 in
set_option maxHeartbeats 4000000 in
theorem longest_walk (w : World) (p : Option Addr) (l : List Put) (cap : Nat) (hp : PutsIn w p l) (hl : l.length ≤ maxLen) (hv : ∀ q ∈ l, bd q.2.2) :
    Calls Try.prog 8 #[.slice p l.length cap] w fun e w' => e = .returned (.bool true) ∧ Keeps (fun _ => False) w w' := by
  have hgb := play_bd l hv
  obtain ⟨g, hg⟩ : ∃ g, g = play (l.take 400) := ⟨_, rfl⟩
  have hgr := grown_any w p l cap hp hl
  rw [← hg] at hgr hgb
  have hpl : ∀ o, o < 512 → g o = lastV l (o : Int) := fun o ho => by rw [hg]; exact play_last _ o ho
  clear hg
  obtain ⟨good1, good2, good3⟩ := runs_good g hgb 512 (by omega)
  have hRl := Nat.le_trans (runsOf_len (els g 0 0 512)) (els_len g 0 0 512)
  have hEl := els_len g 0 0 512
  have hLast : ∀ wx (o : Int), Keeps (fun _ => False) w wx → Calls Try.prog 14 #[.slice p l.length cap, .int .i64 o] wx fun e w' => e = .returned (.int .i64 (lastV l o)) ∧ wx = w' := fun wx o hk => (last_any wx p l cap o (hp.grown hk) hl).mono fun e w' ⟨h1, h2⟩ => ⟨h1, h2.symm⟩
  have hgr' : Calls Try.prog 9 #[.slice p l.length cap] w fun e w' => ∃ t, e = .returned (.tuple #[.pointer (some ⟨t, 0, none⟩), .bool true]) ∧ Hid (t = w.heap.size ∧ Keeps (fun _ => False) w w' ∧ TreeAt w' t g) := hgr
  obtain ⟨R, hR⟩ : ∃ R, runsOf (els g 0 0 512) = R := ⟨_, rfl⟩
  have hRuns : ∀ wx t, (t = w.heap.size ∧ Keeps (fun _ => False) w wx ∧ TreeAt wx t g) → Calls Try.prog 29 #[.pointer (some ⟨t, 0, none⟩)] wx fun e w' => ∃ a capR, e = .returned (.slice a R.length capR) ∧ Hid (Keeps (fun _ => False) w w' ∧ TreeAt w' t g ∧ ∃ base, w'.ownsRow base 66 3 (.slice a R.length capR) R.length (rflat R)) := fun wx t ⟨_, hk, hT⟩ =>
    (runs_any wx t g hT).mono fun e w' ⟨s, he, hh⟩ => by
      rw [hR] at hh
      have hs := hh.out.2
      obtain ⟨a, capR, rfl⟩ : ∃ a capR, s = .slice a R.length capR := by
        rcases hs.2 with ⟨h1, h2⟩ | ⟨gb, c, _, h1, _⟩
        · exact ⟨none, 0, by rw [h1, h2]⟩
        · exact ⟨_, c, h1⟩
      exact ⟨a, capR, he, hk.trans hh.out.1, hT.keep hh.out.1, _, hs⟩
  rw [hR] at good1 good2 good3 hRl
  have G1 := Hid.mk' good1
  have G2 := Hid.mk' good2
  have G3 := Hid.mk' good3
  clear hp hl hgr hR hgb good1 good2 good3
  go_enter Try.func8, Try.ntmps8
  go_wp2_with (first
    | (go_at_call 29; refine (hRuns _ _ H1.out).mono ?_; rintro e w2 ⟨a, capR, rfl, H2⟩)
    | (go_at_call 9; refine hgr'.mono ?_; rintro e w1 ⟨t, rfl, H1⟩))
  have hGet : ∀ wx (o : Int), Keeps (fun _ => False) w2 wx → Calls Try.prog 13 #[.pointer (some ⟨t, 0, none⟩), .int .i64 o] wx fun e w' => e = .returned (.int .i64 (getF g o)) ∧ Hid (Keeps (fun _ => False) wx w') := fun wx o hk =>
    (get_any wx t g o (H2.out.2.1.keep hk)).mono fun e w' ⟨h1, h2⟩ => ⟨h1, h2⟩
  have hRow : Hid (∀ i, i < R.length → ∃ gb, a = some ⟨gb, 0, none⟩ ∧ w2.cell? ⟨gb, i * 3, none⟩ = some (.int .i64 (R.getD i rz).1) ∧ w2.cell? ⟨gb, i * 3 + 1, none⟩ = some (.int .i64 (R.getD i rz).2.1) ∧ w2.cell? ⟨gb, i * 3 + 2, none⟩ = some (.int .i64 (R.getD i rz).2.2)) := fun i hi => by
    obtain ⟨base, hs⟩ := H2.out.2.2
    rcases hs.2 with ⟨h1, h2⟩ | ⟨gb, c, cur, h1, _⟩
    · omega
    · cases h1
      have hadd : ∀ j, (⟨gb, 0, none⟩ : Addr).add j = ⟨gb, j, none⟩ := by intro j; unfold Addr.add; split <;> simp_all
      obtain ⟨q0, q1, q2⟩ := rflat_get R i hi
      have hc := hs.cells (g := gb) rfl
      exact ⟨gb, rfl, by have := hc _ _ q0; rwa [hadd] at this, by have := hc _ _ q1; rwa [hadd] at this, by have := hc _ _ q2; rwa [hadd] at this⟩
  go_loopw [6, 7] (fun n i wr => ∃ k : Nat, k ≤ R.length ∧ i = .int .i64 k ∧ n = .int .i64 (cntR (R.take k)) ∧ Hid (Keeps (fun _ => False) w2 wr ∧ 0 ≤ cntR (R.take k) ∧ cntR (R.take k) ≤ (k : Int) * 512)) (fun _ i _ => R.length - (intOf i).toNat)
  case atStart => exact ⟨0, by omega, rfl, rfl, Keeps.refl _ _, by simp [cntR], by simp [cntR]⟩
  case round =>
    obtain ⟨k, hk, rfl, rfl, H3⟩ := hrel
    by_cases h1 : k < R.length
    · have h1' : (k : Int) < (R.length : Int) := by omega
      obtain ⟨gb, rfl, c0, c1, c2⟩ := hRow.out k h1
      have c0 := H3.out.1.cell c0 id
      have c1 := H3.out.1.cell c1 id
      have c2 := H3.out.1.cell c2 id
      obtain ⟨r0, r1, r2, r3⟩ := G1.out (R.getD k rz) (by rw [List.getD_eq_getElem?_getD, List.getElem?_eq_getElem h1]; exact List.getElem_mem h1)
      have htk : R.take (k + 1) = R.take k ++ [R.getD k rz] := take_getD rz h1
      have hprev : 0 < k → ∃ pO pP pC : Int, R.getD (k - 1) rz = (pO, pP, pC) ∧ 0 ≤ pO ∧ 1 ≤ pC ∧ pO + pC ≤ 512 ∧ Sep (pO, pP, pC) (R.getD k rz) := fun h0 => by
        have hm := G1.out (R.getD (k - 1) rz) (by rw [List.getD_eq_getElem?_getD, List.getElem?_eq_getElem (show k - 1 < R.length by omega)]; exact List.getElem_mem _)
        have hs := G2.out (k - 1) (by omega)
        rw [show k - 1 + 1 = k by omega] at hs
        exact ⟨_, _, _, rfl, hm.1, hm.2.1, hm.2.2.1, hs⟩
      generalize hrr : R.getD k rz = r at *
      obtain ⟨rO, rP, rC⟩ := r
      simp only at c0 c1 c2 r0 r1 r2 r3
      obtain ⟨O, rfl⟩ := Int.eq_ofNat_of_zero_le r0
      obtain ⟨C, rfl⟩ := Int.eq_ofNat_of_zero_le (show 0 ≤ rC by omega)
      have hOC : O + C ≤ 512 := by omega
      have hC1 : 1 ≤ C := by omega
      have hcnt0 := H3.out.2.1
      have hcnt1 := H3.out.2.2
      have hks : (k : Int) * 512 ≤ 262144 := by omega
      have hcn : cntR (R.take k) + (C : Int) = cntR (R.take (k + 1)) := by rw [htk, cntR_snoc]
      have HCN := Hid.mk' hcn
      have H3b := Hid.mk' (And.intro hcnt0 hcnt1)
      generalize cntR (R.take k) = cn at *
      have hcb0 : 0 ≤ cn := hcnt0
      have hcb1 : cn ≤ 262144 := by omega
      clear hks
      have hKb := Keeps.new wr (.cells #[.int .i64 (O : Int), .int .i64 rP, .int .i64 (C : Int)] 66)
      have hbx := (MapKept.heap_alloc wr (.cells #[.int .i64 (O : Int), .int .i64 rP, .int .i64 (C : Int)] 66)).1
      obtain ⟨w4, hw4⟩ : ∃ w4, wr.alloc (.cells #[.int .i64 (O : Int), .int .i64 rP, .int .i64 (C : Int)] 66) = w4 := ⟨_, rfl⟩
      rw [hw4] at hKb hbx
      obtain ⟨B0, hB0⟩ : ∃ B0, wr.heap.size = B0 := ⟨_, rfl⟩
      rw [hB0] at hbx
      have HBX : Hid (∀ W, Keeps (fun _ => False) w4 W → W.cell? ⟨B0, 0, none⟩ = some (.int .i64 (O : Int)) ∧ W.cell? ⟨B0, 1, none⟩ = some (.int .i64 rP) ∧ W.cell? ⟨B0, 2, none⟩ = some (.int .i64 (C : Int))) := fun W hk => by
        have := hk.at hbx id
        simp [World.cell?, this]
      have H4 := Hid.mk' (H3.out.1.trans hKb)
      have R3 := Hid.mk' r3
      have HPREV := Hid.mk' hprev
      obtain ⟨y0, y1, y2⟩ := HBX.out w4 (Keeps.refl _ _)
      clear hbx hKb hprev hcn htk hrr r3 hcnt0 hcnt1
      have t1 : ¬ (C : Int) < 1 := by omega
      have t2 : (C : Int) ≤ 512 := by omega
      have t3 : (O : Int) ≤ 512 - (C : Int) := by omega
      go_wp2
      clear hw4 hB0
      go_loopw [9] (fun c wx => ∃ j : Nat, j ≤ C ∧ c = .int .i64 j ∧ Hid (Keeps (fun _ => False) w4 wx)) (fun c _ => C - (intOf c).toNat)
      case atStart => exact ⟨0, by omega, rfl, Keeps.refl _ _⟩
      case round =>
        obtain ⟨j, hj, rfl, H5⟩ := hrel
        obtain ⟨z0, z1, z2⟩ := HBX.out wr H5.out
        by_cases hlj : j < C
        · have hlj' : (j : Int) < (C : Int) := by omega
          have hval := R3.out j hlj'
          simp only [Int.toNat_natCast] at hval
          have hs1 : IntKind.i64.wrap ((O : Int) + (j : Int)) = (O : Int) + (j : Int) := i64_id (by omega) (by omega)
          have hs2 : IntKind.i64.wrap (rP + (j : Int)) = g (O + j) := by rw [hval.1, IntKind.wrap_i64]; unfold wrap64; omega
          have hs3 : wrap64 (rP + (j : Int)) = g (O + j) := hval.1.symm
          have HS3 := Hid.mk' hs3
          have hx0 : (g (O + j) == 0) = false := by simpa using hval.2
          have hG : ∀ n, Calls Try.prog 13 #[.pointer (some ⟨t, 0, none⟩), .int .i64 ((O : Int) + (j : Int))] (wr.drewN n) fun e w' => e = .returned (.int .i64 (g (O + j))) ∧ Hid (Keeps (fun _ => False) w4 w') ∧ w'.cell? ⟨B0, 0, none⟩ = some (.int .i64 (O : Int)) ∧ w'.cell? ⟨B0, 1, none⟩ = some (.int .i64 rP) := fun n => by
            have hkn := H5.out.trans (Keeps.drewN (fun _ => False) wr n)
            have := hGet (wr.drewN n) ((O + j : Nat) : Int) (H4.out.trans hkn)
            rw [getF_nat g (show O + j < 512 by omega), Int.natCast_add] at this
            refine this.mono fun e w' ⟨h1, h2⟩ => ⟨h1, hkn.trans h2.out, (HBX.out w' (hkn.trans h2.out)).1, (HBX.out w' (hkn.trans h2.out)).2.1⟩
          generalize g (O + j) = xv at *
          clear hval hs3
          go_wp2
          go_region_held3 (fun wx => wx.cell? ⟨B0, 0, none⟩ = some (.int .i64 (O : Int)) ∧ wx.cell? ⟨B0, 1, none⟩ = some (.int .i64 rP))
            (first | go_keep)
            (first | (go_at_call 13; refine (hG _).mono ?_; rintro e w6 ⟨rfl, H6, m0, m1⟩))
          all_goals
            go_wp2
            go_roundw
            case rel => exact ⟨j + 1, by omega, by go_num, H6⟩
            case measure => simp [intOf]; omega
        · have hlj' : ¬ (j : Int) < (C : Int) := by omega
          have HKW := Hid.mk' (H4.out.trans H5.out)
          by_cases hk0 : k = 0
          · subst hk0
            go_wp2
            go_roundw
            case rel => exact ⟨1, by omega, by go_num, by rw [← HCN.out], HKW.out, by rw [← HCN.out]; have := H3b.out; omega, by rw [← HCN.out]; have := H3b.out; omega⟩
            case measure => simp [intOf]; omega
          · obtain ⟨m, rfl⟩ : ∃ m, k = m + 1 := ⟨k - 1, by omega⟩
            obtain ⟨pO, pP, pC, hpe, p0, p1, p2, hsep1, hsep2⟩ := HPREV.out (by omega)
            rw [show m + 1 - 1 = m by omega] at hpe
            obtain ⟨gb', hgb, d0, d1, d2⟩ := hRow.out m (by omega)
            cases hgb
            rw [hpe] at d0 d1 d2
            simp only at d0 d1 d2 hsep1 hsep2
            have d0 := HKW.out.cell d0 id
            have d1 := HKW.out.cell d1 id
            have d2 := HKW.out.cell d2 id
            have hKc := Keeps.new wr (.cells #[.int .i64 pO, .int .i64 pP, .int .i64 pC] 66)
            have hz := HBX.out _ (H5.out.trans hKc)
            have hby := (MapKept.heap_alloc wr (.cells #[.int .i64 pO, .int .i64 pP, .int .i64 pC] 66)).1
            obtain ⟨w7, hw7⟩ : ∃ w7, wr.alloc (.cells #[.int .i64 pO, .int .i64 pP, .int .i64 pC] 66) = w7 := ⟨_, rfl⟩
            rw [hw7] at hKc hz hby
            obtain ⟨v0, v1, v2⟩ := hz
            have x0 : w7.cell? ⟨wr.heap.size, 0, none⟩ = some (.int .i64 pO) := by simp [World.cell?, hby]
            have x1 : w7.cell? ⟨wr.heap.size, 1, none⟩ = some (.int .i64 pP) := by simp [World.cell?, hby]
            have x2 : w7.cell? ⟨wr.heap.size, 2, none⟩ = some (.int .i64 pC) := by simp [World.cell?, hby]
            have HK7 := Hid.mk' (HKW.out.trans hKc)
            have hm0 : (0 : Int) < (m : Int) + 1 := by omega
            clear hby hKc hpe
            obtain ⟨E, hE⟩ : ∃ E, pO + pC = E := ⟨_, rfl⟩
            obtain ⟨F, hF⟩ : ∃ F, wrap64 (pP + pC) = F := ⟨_, rfl⟩
            rw [hE] at hsep1 hsep2 p2
            rw [hF] at hsep2
            have hEO : E ≤ (O : Int) := hsep1
            have hE0 : 0 ≤ E := by omega
            have hE5 : E ≤ 512 := p2
            have hwE : wrap64 E = E := wrap64_id (by omega) (by omega)
            have hpc : pC ≤ 512 := by omega
            have hpo : pO ≤ 512 := by omega
            by_cases heq : E = (O : Int)
            · have hnb : (F == rP) = false := by simpa using fun e => hsep2 ⟨heq, e⟩
              have hqb : (E == (O : Int)) = true := by simpa using heq
              clear hsep1 hsep2 heq hwE
              go_wp2
              go_roundw
              case rel => exact ⟨m + 2, by omega, by go_num, by rw [← HCN.out], HK7.out, by rw [← HCN.out]; have := H3b.out; omega, by rw [← HCN.out]; have := H3b.out; omega⟩
              case measure => simp [intOf]; omega
            · have hqb : (E == (O : Int)) = false := by simpa using heq
              clear hsep1 hsep2 hwE
              go_wp2
              go_roundw
              case rel => exact ⟨m + 2, by omega, by go_num, by rw [← HCN.out], HK7.out, by rw [← HCN.out]; have := H3b.out; omega, by rw [← HCN.out]; have := H3b.out; omega⟩
              case measure => simp [intOf]; omega
    · obtain rfl : k = R.length := by omega
      have h1' : ¬ ((R.length : Nat) : Int) < (R.length : Int) := by omega
      have hcr : cntR (R.take R.length) = ((els g 0 0 512).length : Int) := by rw [List.take_length]; exact G3.out
      rw [hcr]
      have HW2 := Hid.mk' H3.out.1
      have hLen : ∀ wx, Keeps (fun _ => False) w2 wx → Calls Try.prog 22 #[.pointer (some ⟨t, 0, none⟩)] wx fun e w' => e = .returned (.int .i64 ((els g 0 0 512).length : Int)) ∧ Hid (Keeps (fun _ => False) w2 w') := fun wx hk =>
        (len_any wx t g (H2.out.2.1.keep hk)).mono fun e w' ⟨h1, h2⟩ => ⟨h1, hk.trans h2⟩
      clear hcr H3 hRow hGet
      go_wp2
      go_loopw [11, 12] (fun sm i wx => ∃ q : Nat, q ≤ 512 ∧ i = .int .i64 q ∧ sm = .int .i64 ((els g 0 0 q).length : Int) ∧ Hid (Keeps (fun _ => False) w2 wx)) (fun _ i _ => 512 - (intOf i).toNat)
      case atStart => exact ⟨0, by omega, rfl, rfl, HW2⟩
      case round =>
        obtain ⟨q, hq, rfl, rfl, H5⟩ := hrel
        by_cases hq5 : q < 512
        · have hq5' : (q : Int) < 512 := by omega
          have ha := hLast wr (q : Int) (H2.out.1.trans H5.out)
          rw [← hpl q hq5] at ha
          have hs := els_succ g 0 q hq5
          have hln := els_len g 0 0 q
          by_cases h0 : g q = 0
          · rw [if_neg (by simp [h0])] at hs
            rw [h0] at ha
            have HS := Hid.mk' hs
            clear hs hpl hLast
            go_wp2_with (first | (go_at_call 14; refine ha.mono ?_; rintro e w6 ⟨rfl, hw⟩; subst hw))
            go_roundw
            case rel => exact ⟨q + 1, by omega, by go_num, by rw [HS.out]; rfl, H5⟩
            case measure => simp [intOf]; omega
          · rw [if_pos ⟨by omega, h0⟩] at hs
            have h0b : (g q == 0) = false := by simpa using h0
            have HS := Hid.mk' hs
            clear hs hpl hLast
            go_wp2_with (first | (go_at_call 14; refine ha.mono ?_; rintro e w6 ⟨rfl, hw⟩; subst hw))
            go_roundw
            case rel => exact ⟨q + 1, by omega, by go_num, by rw [HS.out]; go_num, H5⟩
            case measure => simp [intOf]; omega
        · obtain rfl : q = 512 := by omega
          have hLn := hLen wr H5.out
          generalize ((els g 0 0 512).length : Int) = en at *
          go_wp2_with (first | (go_at_call 22; refine hLn.mono ?_; rintro e w6 ⟨rfl, H6⟩))
          go_ret
          exact ⟨rfl, H2.out.1.trans H6.out⟩

end Go.Proofs.Ytndojlacdggfcaa
