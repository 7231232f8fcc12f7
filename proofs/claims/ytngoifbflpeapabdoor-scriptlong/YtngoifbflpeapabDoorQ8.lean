import Derived.Test.YtngoifbflpeapabDoorQ2
import Derived.Test.YtngoifbflpeapabDoorP12
import Derived.Deep.DeepCutAuto
namespace Go.Proofs.YtngoifbflpeapabDoor
open Go.RowKit Go.Maps
set_option maxRecDepth 100000

/-! P19.3, P19.5: a line of 20000 bytes is read, and printed; one of 20001 is neither. -/
def cr (a : ByteArray) : St := ⟨4, a, ⟨#[]⟩, 0, 0, 0, []⟩
theorem cr_S (l : Bs) : crS l = cr (mkB l) := rfl
theorem Keeps.after {X : Nat → Prop} {a b c : World} (h : Keeps (fun _ => False) a b) (k : Keeps X b c) (hx : ∀ g, X g → a.heap.size ≤ g) : Keeps (fun _ => False) a c :=
  ⟨k.os.trans h.os, k.tape.trans h.tape, k.output.trans h.output, Nat.le_trans h.size k.size, fun i hi hr => (k.block i (Nat.lt_of_lt_of_le hi h.size) (fun h2 => absurd hi (by have := hx i h2; omega))).trans (h.block i hi hr)⟩
def slLen : Value → Nat
  | .slice _ n _ => n
  | _ => 0
theorem tmod10 (n : Int) : -9 ≤ n.tmod 10 ∧ n.tmod 10 ≤ 9 := by
  have h1 := Int.natAbs_tmod n 10
  have h2 := Nat.mod_lt n.natAbs (show 0 < 10 by decide)
  have h3 : (n.tmod 10).natAbs ≤ 9 := by rw [h1]; show n.natAbs % 10 ≤ 9; omega
  omega

set_option maxHeartbeats 16000000 in
theorem long_walk (w : World) (hv : Vars w) (n : Int) (_hn : -9223372036854775808 ≤ n ∧ n ≤ 9223372036854775807) :
    Calls Tryd.prog 4 #[.int .i64 n] w fun e w' => e = .returned (.bool true) ∧ Keeps (fun _ => False) w w' := by
  obtain ⟨N, hN⟩ : ∃ N : Nat, N = (n.tmod 10).natAbs := ⟨_, rfl⟩
  have hb := tmod10 n
  have hN9 : N ≤ 9 := by omega
  go_enter Tryd.func4, Tryd.ntmps4
  go_upto_if 17 with (fail)
  go_cut [0, 17] from 17 to 19 (fun v0 _ wx => v0 = .int .i64 (N : Int) ∧ w = wx)
  case first =>
    by_cases h0 : n.tmod 10 < 0
    · have H1 : Hid (-(n.tmod 10) = (N : Int)) := by show _ = _; omega
      clear hN
      go_wp2
      go_meet
      case rel => exact ⟨by rw [H1.out], rfl⟩
    · have H1 : Hid (n.tmod 10 = (N : Int)) := by show _ = _; omega
      clear hN
      go_wp2
      go_meet
      case rel => exact ⟨by rw [H1.out], rfl⟩
  case rest =>
    obtain ⟨rfl, rfl⟩ := hcut
    obtain ⟨m, hm⟩ : ∃ m : Nat, m + N = 19991 := ⟨19991 - N, by omega⟩
    have hm1 : (19991 : Int) - (N : Int) = (m : Int) := by omega
    clear hN hb
    go_wp2
    go_loopw [3] (fun v wr => ∃ k ra rc, v = .slice ra k rc ∧ k ≤ m ∧ Hid (OB w wr (.slice ra k rc) (List.replicate k 97))) (fun v _ => m - slLen v)
    case atStart => exact ⟨0, none, 0, rfl, Nat.zero_le _, OB.nil w⟩
    case round =>
      obtain ⟨k, ra, rc, rfl, hk, HB⟩ := hrel
      by_cases h1 : k < m
      · have h1' : (k : Int) < (m : Int) := by omega
        go_wp2_with (first
          | (at_builtin; go_must (refine wpList_app rfl _ _ rfl w wr _ _ (by rfl) HB.out [97] 1 rfl _ (by rfl) (by rfl) (by rw [List.length_replicate, List.length_singleton]; omega) ?_); intro v' W' hO; rw [← List.replicate_succ'] at hO; obtain ⟨r2, c2, hv2, _⟩ := hO.row; rw [List.length_replicate] at hv2; subst hv2; have HO := Hid.mk' hO; clear hO))
        go_roundw
        case rel => exact ⟨k + 1, _, _, rfl, by omega, HO.out⟩
        case measure => simp [slLen]; omega
      · have h1' : ¬ (k : Int) < (m : Int) := by omega
        obtain rfl : k = m := by omega
        have hrow := HB.out.row
        rw [List.length_replicate] at hrow
        have hconv : ∀ W, Keeps (fun _ => False) wr W → (convert 31 9 (.slice ra k rc)).run Tryd.prog W = .ok (.string (mkB (List.replicate k 97))) W := fun W hk => conv_row W (.slice ra k rc) (List.replicate k 97) (HB.out.row.keep hk)
        have hconv0 := hconv wr (Keeps.refl _ _)
        have HCV := Hid.mk' hconv
        have HKB := Hid.mk' HB.out.2
        have HSTR := Hid.mk' (crL_str (List.replicate k 97))
        have hsz : (mkB (List.replicate k 97)).size = k := by rw [mkB_size, List.length_replicate]
        have z1 : ¬ 9223372036854775807 < 8 + (mkB (List.replicate k 97)).size := by omega
        have z2 : ¬ 9223372036854775807 < 8 + (mkB (List.replicate k 97)).size + 1 := by omega
        have hesc := azs_esc k 0
        rw [azs_zero] at hesc
        have hread := fun j hj => cr_read (List.replicate k 97) hesc j hj
        rw [List.length_replicate] at hread
        have HREAD := Hid.mk' hread
        have hl0 := fun W h => line_any W h (((⟨#[99, 114, 101, 97, 116, 101, 32, 34]⟩ : ByteArray) ++ mkB (List.replicate k 97)) ++ ⟨#[34]⟩)
        rw [HSTR.out, data_mkB, (hread 0 (by omega)).1, (hread 0 (by omega)).2, ← HSTR.out] at hl0
        have hl1 := fun W h => line_any W h (mkB (crL (List.replicate k 97) ++ List.replicate N 32))
        rw [data_mkB, (hread N (by omega)).1, (hread N (by omega)).2] at hl1
        have hlen2 : 20000 < (crL (List.replicate k 97) ++ List.replicate (N + 1) 32).length := by rw [List.length_append, List.length_replicate, crL_len, List.length_replicate]; omega
        have hl2 := fun W h => line_any W h (mkB (crL (List.replicate k 97) ++ List.replicate N 32) ++ ⟨#[32]⟩)
        rw [blank_more, data_mkB, (ln_long hlen2).1, (ln_long hlen2).2, ← blank_more] at hl2
        have HXS : Hid (∀ j, (mkB (crL (List.replicate k 97) ++ List.replicate j 32)).size = k + 9 + j) := by
          intro j; rw [mkB_size, List.length_append, List.length_replicate, crL_len, List.length_replicate]
        have HXM : Hid (∀ j, mkB (crL (List.replicate k 97) ++ List.replicate j 32) ++ ⟨#[32]⟩ = mkB (crL (List.replicate k 97) ++ List.replicate (j + 1) 32)) := fun j => blank_more _ j
        have HZ0 : Hid (mkB (azs k 0) = mkB (List.replicate k 97)) := by show _ = _; rw [azs_zero]
        have HVB := Hid.mk' (hv.keep HKB.out)
        have HV0 := Hid.mk' hv
        clear hconv hread hlen2 hesc hrow hsz hv
        generalize hX : (fun j => mkB (crL (List.replicate k 97) ++ List.replicate j 32)) = X at *
        have hXj : ∀ j, mkB (crL (List.replicate k 97) ++ List.replicate j 32) = X j := fun j => by rw [← hX]
        simp only [hXj] at hl1 hl2 HXS HXM HSTR
        clear hX hXj
        rw [cr_S, ← HZ0.out] at hl0 hl1
        rw [← HZ0.out] at z1 z2 hconv0 HSTR
        generalize hAA : mkB (azs k 0) = AA at *
        have HAA := Hid.mk' hAA
        clear hAA
        have HSM : Hid (smF (cr AA) (cr AA) = true) := smF_refl _
        have HS0 : Hid (smF (st0 0) (st0 0) = true) := smF_refl _
        have HZR := fun W => Hid.mk' (show Row W (.slice none 0 0) (st0 0).l.length (ints (st0 0).l) from ⟨none, 0, rfl, Nat.le_refl _, fun h => absurd h (by decide)⟩)
        have S0 := Hid.mk' True.intro
        go_wp2_with (first
          | (clear S0; go_at_call 8; refine (hl0 _ HVB.out).mono ?_; clear hl0; rintro e w1 ⟨v1, rfl, h1⟩; obtain ⟨p1, c1, hv1, _, _⟩ := id (Row.of_own h1.out.1); change v1 = .slice p1 0 c1 at hv1; subst hv1; have H1 := Hid.mk' h1.out; clear h1; have HK1 := Hid.mk' ((Keeps.refl (fun _ => False) w1).alloc (.cells (scell (cr AA) (.slice p1 0 c1)) 24)); have HB1 := Hid.mk' (heap_last w1 (.cells (scell (cr AA) (.slice p1 0 c1)) 24)); have S1 := Hid.mk' True.intro)
          | (clear S1; refine wpList_alloc_st rfl rfl ?_; have S2 := Hid.mk' True.intro)
          | (clear S2; refine wpList_store_st rfl _ _ rfl (cr AA) p1 0 c1 (by rfl) (by rfl) ?_; have S3 := Hid.mk' True.intro))
        go_loopw [4, 7] (fun v i wr => ∃ j : Nat, j ≤ N ∧ i = .int .i64 j ∧ v = .string (X j) ∧ wr = w1.alloc (.cells (scell (cr AA) (.slice p1 0 c1)) 24)) (fun _ i _ => N - (intOf i).toNat)
        case atStart => exact ⟨0, Nat.zero_le _, rfl, by rw [HSTR.out], rfl⟩
        case round =>
          obtain ⟨j, hj, rfl, rfl, rfl⟩ := hrel
          by_cases h2 : j < N
          · have h2' : (j : Int) < (N : Int) := by omega
            have z3 : ¬ 9223372036854775807 < (X j).size + 1 := by rw [HXS.out j]; omega
            have e3 := HXM.out j
            go_wp2
            go_roundw
            case rel => exact ⟨j + 1, by omega, by go_num, by first | rfl | rw [e3], by first | rfl | trivial⟩
            case measure => simp [intOf]; omega
          · have h2' : ¬ (j : Int) < (N : Int) := by omega
            obtain rfl : j = N := by omega
            have z3 : ¬ 9223372036854775807 < (X j).size + 1 := by rw [HXS.out j]; omega
            have S0 := Hid.mk' True.intro
            go_wp2_with (first
              | (clear S0; go_at_call 8; refine (hl1 _ (HVB.out.keep (H1.out.2.trans HK1.out))).mono ?_; clear hl1; rintro e w2 ⟨v2, rfl, h2⟩; obtain ⟨p2, c2, hv2, _, _⟩ := id (Row.of_own h2.out.1); change v2 = .slice p2 0 c2 at hv2; subst hv2; have H2 := Hid.mk' h2.out; clear h2; have HK2 := Hid.mk' ((Keeps.refl (fun _ => False) w2).alloc (.cells (scell (cr AA) (.slice p2 0 c2)) 24)); have HV2 := Hid.mk' (HVB.out.keep ((H1.out.2.trans HK1.out).trans (H2.out.2.trans HK2.out))); have S1 := Hid.mk' True.intro)
              | (clear S1; refine wpList_alloc_st rfl rfl ?_; have S2 := Hid.mk' True.intro)
              | (clear S2; refine wpList_store_st rfl _ _ rfl (cr AA) p2 0 c2 (by rfl) (by rfl) ?_; have S3 := Hid.mk' True.intro)
              | (clear S3; go_at_call 8; refine (hl2 _ HV2.out).mono ?_; clear hl2; rintro e w3 ⟨v3, rfl, h3⟩; obtain ⟨p3, c3, hv3, _, _⟩ := id (Row.of_own h3.out.1); change v3 = .slice p3 0 c3 at hv3; subst hv3; have H3 := Hid.mk' h3.out; clear h3; have HK3 := Hid.mk' ((Keeps.refl (fun _ => False) w3).alloc (.cells (scell (st0 0) (.slice p3 0 c3)) 24)); have HKC := Hid.mk' (H3.out.2.trans HK3.out); have HKD := Hid.mk' ((H2.out.2.trans HK2.out).trans HKC.out); have hcv := HCV.out _ ((H1.out.2.trans HK1.out).trans HKD.out); rw [← HZ0.out] at hcv; have a0 := HKD.out.cell (new_cell w1 (scell (cr AA) (.slice p1 0 c1)) 24 0 (.int .i64 4) rfl) id; have a1 := HKD.out.cell (new_cell w1 (scell (cr AA) (.slice p1 0 c1)) 24 1 (.string AA) rfl) id; have a2 := HKD.out.cell (new_cell w1 (scell (cr AA) (.slice p1 0 c1)) 24 2 (.string ⟨#[]⟩) rfl) id; have a3 := HKD.out.cell (new_cell w1 (scell (cr AA) (.slice p1 0 c1)) 24 3 (.int .i64 0) rfl) id; have a4 := HKD.out.cell (new_cell w1 (scell (cr AA) (.slice p1 0 c1)) 24 4 (.int .i64 0) rfl) id; have a5 := HKD.out.cell (new_cell w1 (scell (cr AA) (.slice p1 0 c1)) 24 5 (.int .i64 0) rfl) id; have a6 := HKD.out.cell (new_cell w1 (scell (cr AA) (.slice p1 0 c1)) 24 6 (.slice p1 0 c1) rfl) id; have b0 := HKC.out.cell (new_cell w2 (scell (cr AA) (.slice p2 0 c2)) 24 0 (.int .i64 4) rfl) id; have b1 := HKC.out.cell (new_cell w2 (scell (cr AA) (.slice p2 0 c2)) 24 1 (.string AA) rfl) id; have b2 := HKC.out.cell (new_cell w2 (scell (cr AA) (.slice p2 0 c2)) 24 2 (.string ⟨#[]⟩) rfl) id; have b3 := HKC.out.cell (new_cell w2 (scell (cr AA) (.slice p2 0 c2)) 24 3 (.int .i64 0) rfl) id; have b4 := HKC.out.cell (new_cell w2 (scell (cr AA) (.slice p2 0 c2)) 24 4 (.int .i64 0) rfl) id; have b5 := HKC.out.cell (new_cell w2 (scell (cr AA) (.slice p2 0 c2)) 24 5 (.int .i64 0) rfl) id; have b6 := HKC.out.cell (new_cell w2 (scell (cr AA) (.slice p2 0 c2)) 24 6 (.slice p2 0 c2) rfl) id; have d0 := (Keeps.refl (fun _ => False) _).cell (new_cell w3 (scell (st0 0) (.slice p3 0 c3)) 24 0 (.int .i64 0) rfl) id; have d1 := (Keeps.refl (fun _ => False) _).cell (new_cell w3 (scell (st0 0) (.slice p3 0 c3)) 24 1 (.string ⟨#[]⟩) rfl) id; have d2 := (Keeps.refl (fun _ => False) _).cell (new_cell w3 (scell (st0 0) (.slice p3 0 c3)) 24 2 (.string ⟨#[]⟩) rfl) id; have d3 := (Keeps.refl (fun _ => False) _).cell (new_cell w3 (scell (st0 0) (.slice p3 0 c3)) 24 3 (.int .i64 0) rfl) id; have d4 := (Keeps.refl (fun _ => False) _).cell (new_cell w3 (scell (st0 0) (.slice p3 0 c3)) 24 4 (.int .i64 0) rfl) id; have d5 := (Keeps.refl (fun _ => False) _).cell (new_cell w3 (scell (st0 0) (.slice p3 0 c3)) 24 5 (.int .i64 0) rfl) id; have d6 := (Keeps.refl (fun _ => False) _).cell (new_cell w3 (scell (st0 0) (.slice p3 0 c3)) 24 6 (.slice p3 0 c3) rfl) id; have S4 := Hid.mk' True.intro)
              | (clear S4; refine wpList_alloc_st rfl rfl ?_; have S5 := Hid.mk' True.intro)
              | (clear S5; refine wpList_store_st rfl _ _ rfl (st0 0) p3 0 c3 (by rfl) (by rfl) ?_; have S6 := Hid.mk' True.intro)
              | (clear S6; go_at_call 9; refine (lsame_any _ (cr AA) (cr AA) _ _ ((Row.of_own H1.out.1).keep (HK1.out.trans HKD.out)) ((Row.of_own H2.out.1).keep (HK2.out.trans HKC.out)) (by show (0 : Nat) ≤ _; omega)).mono ?_; rintro e w5 ⟨rfl, hk5⟩; have HK5 := Hid.mk' hk5; clear hk5; rw [HSM.out]; have g0 := HK5.out.cell (new_cell w3 (scell (st0 0) (.slice p3 0 c3)) 24 0 (.int .i64 0) rfl) id; have g1 := HK5.out.cell (new_cell w3 (scell (st0 0) (.slice p3 0 c3)) 24 1 (.string ⟨#[]⟩) rfl) id; have g2 := HK5.out.cell (new_cell w3 (scell (st0 0) (.slice p3 0 c3)) 24 2 (.string ⟨#[]⟩) rfl) id; have g3 := HK5.out.cell (new_cell w3 (scell (st0 0) (.slice p3 0 c3)) 24 3 (.int .i64 0) rfl) id; have g4 := HK5.out.cell (new_cell w3 (scell (st0 0) (.slice p3 0 c3)) 24 4 (.int .i64 0) rfl) id; have g5 := HK5.out.cell (new_cell w3 (scell (st0 0) (.slice p3 0 c3)) 24 5 (.int .i64 0) rfl) id; have g6 := HK5.out.cell (new_cell w3 (scell (st0 0) (.slice p3 0 c3)) 24 6 (.slice p3 0 c3) rfl) id; have S7 := Hid.mk' True.intro)
              | (clear S7; go_at_call 9; refine (lsame_any _ (st0 0) (st0 0) _ _ ((Row.of_own H3.out.1).keep (HK3.out.trans HK5.out)) (HZR _).out (by show (0 : Nat) ≤ _; omega)).mono ?_; rintro e w6 ⟨rfl, hk6⟩; have HK6 := Hid.mk' hk6; clear hk6; rw [HS0.out]; have S8 := Hid.mk' True.intro))
            skip
            have HKE := Hid.mk' ((HKD.out.trans HK5.out).trans HK6.out)
            have HBE := Hid.mk' (HKE.out.at HB1.out id)
            have HKW := Hid.mk' ((HKB.out.trans (H1.out.2.trans HK1.out)).trans HKE.out)
            have HVE := Hid.mk' (HVB.out.keep ((H1.out.2.trans HK1.out).trans HKE.out))
            clear a0 a1 a2 a3 a4 a5 a6 b0 b1 b2 b3 b4 b5 b6 d0 d1 d2 d3 d4 d5 d6 g0 g1 g2 g3 g4 g5 g6 hcv hconv0
            go_loopw [12] (fun i wr => ∃ q : Nat, q ≤ j ∧ i = .int .i64 q ∧ Hid (wr.heap[w1.heap.size]? = some (.cells (scell (crS (azs k q)) (.slice p1 0 c1)) 24 (0, 0)) ∧ Keeps (fun g => g = w1.heap.size) w6 wr)) (fun i _ => j - (intOf i).toNat)
            case atStart => exact ⟨0, Nat.zero_le _, rfl, by rw [cr_S, HAA.out]; exact HBE.out, Keeps.refl _ _⟩
            case round =>
              obtain ⟨q, hq, rfl, HW⟩ := hrel
              have f1 : wr.frozen? ⟨w1.heap.size, 1, none⟩ = false := by simp only [World.frozen?, HW.out.1]; simp
              have e1 : wr.cell? ⟨w1.heap.size, 1, none⟩ = some (.string (mkB (azs k q))) := by simp only [World.cell?, HW.out.1]; rfl
              have hsz : (mkB (azs k q)).size = k + q := by rw [mkB_size, azs_len]
              have z4 : ¬ 9223372036854775807 < (mkB (azs k q)).size + 1 := by omega
              by_cases h3 : q < j
              · have h3' : (q : Int) < (j : Int) := by omega
                clear hsz
                go_wp2
                go_roundw
                case rel =>
                  refine ⟨q + 1, by omega, by go_num, ?_, ?_⟩
                  · have := setCell_block (a := ⟨w1.heap.size, 1, none⟩) (v := .string (mkB (azs k q) ++ ⟨#[122]⟩)) HW.out.1 rfl
                    rw [this, azs_succ]
                    rfl
                  · exact HW.out.2.trans (Keeps.of (grownBy_setCell _ _ _) (fun g hg => Or.inl (by cases hg; rfl)))
                case measure => simp [intOf]; omega
              · have h3' : ¬ (q : Int) < (j : Int) := by omega
                obtain rfl : q = j := by omega
                have HW5 := Hid.mk' (HKW.out.after HW.out.2 (fun g hg => by rw [hg]; have := (HKB.out.trans H1.out.2).size; omega))
                have HB := Hid.mk' HW.out.1
                have HR1 := fun W => Hid.mk' (show Row W (.slice p1 0 c1) (crS (azs k q)).l.length (ints (crS (azs k q)).l) from ⟨p1, c1, rfl, Nat.zero_le _, fun h => absurd h (Nat.lt_irrefl 0)⟩)
                have HR2 := fun W => Hid.mk' (show Row W (.slice p1 0 c1) (crS (azs k (q + 1))).l.length (ints (crS (azs k (q + 1))).l) from ⟨p1, c1, rfl, Nat.zero_le _, fun h => absurd h (Nat.lt_irrefl 0)⟩)
                have o1 := cr_ok (azs k q) (by rw [azs_len]; omega)
                have o2 := cr_ok (azs k (q + 1)) (by rw [azs_len]; omega)
                have hp1 := fun W h => print_any W h (crS (azs k q)) _ (HR1 W).out o1 (wrF_le o1)
                have hp2 := fun W h => print_any W h (crS (azs k (q + 1))) _ (HR2 W).out o2 (wrF_le o2)
                rw [cr_pr _ (azs_esc k q) (by rw [azs_len]; omega)] at hp1
                rw [cr_none _ (azs_esc k (q + 1)) (by rw [azs_len]; omega), show mkB [] = (⟨#[]⟩ : ByteArray) from rfl] at hp2
                have hsz2 : ((mkB (crL (azs k q))).size : Int) = 20000 := by rw [mkB_size, crL_len, azs_len]; omega
                generalize mkB (crL (azs k q)) = LL at *
                unfold scell crS at hp2
                rw [← azs_succ] at hp2
                have HV9 := Hid.mk' (HV0.out.keep HW5.out)
                have HKF := Hid.mk' ((Keeps.refl (fun _ => False) wr).alloc (.cells #[.int .i64 4, .string (mkB (azs k q) ++ ⟨#[122]⟩), .string ⟨#[]⟩, .int .i64 0, .int .i64 0, .int .i64 0, .slice p1 0 c1] 24))
                clear o1 o2 hsz
                have S0 := Hid.mk' True.intro
                go_wp2_with (first
                  | (clear S0; refine wpList_load_row rfl 24 (.tmp 5) rfl w1.heap.size (by rfl) 24 (scell (crS (azs k q)) (.slice p1 0 c1)) (0, 0) _ HB.out Tryd.underlying24 rfl size24 ?_; have S1 := Hid.mk' True.intro)
                  | (clear S1; refine wpList_alloc_st rfl rfl ?_; have S2 := Hid.mk' True.intro)
                  | (clear S2; refine wpList_store_st rfl _ _ rfl (crS (azs k q)) p1 0 c1 (by rfl) (by rfl) ?_; unfold scell crS; have S3 := Hid.mk' True.intro)
                  | (clear S3; refine wpList_load_row rfl 24 (.tmp 5) rfl w1.heap.size (by rfl) 24 (scell (crS (azs k q)) (.slice p1 0 c1)) (0, 0) _ (HKF.out.at HB.out id) Tryd.underlying24 rfl size24 ?_; have S4 := Hid.mk' True.intro)
                  | (clear S4; go_at_call 10; refine (hp1 _ (HV9.out.keep HKF.out)).mono ?_; clear hp1; rintro e w7 ⟨rfl, hk7⟩; have HK7 := Hid.mk' hk7; clear hk7; have d0 := HK7.out.cell (new_cell wr #[.int .i64 4, .string (mkB (azs k q) ++ ⟨#[122]⟩), .string ⟨#[]⟩, .int .i64 0, .int .i64 0, .int .i64 0, .slice p1 0 c1] 24 0 (.int .i64 4) rfl) id; have d1 := HK7.out.cell (new_cell wr #[.int .i64 4, .string (mkB (azs k q) ++ ⟨#[122]⟩), .string ⟨#[]⟩, .int .i64 0, .int .i64 0, .int .i64 0, .slice p1 0 c1] 24 1 (.string (mkB (azs k q) ++ ⟨#[122]⟩)) rfl) id; have d2 := HK7.out.cell (new_cell wr #[.int .i64 4, .string (mkB (azs k q) ++ ⟨#[122]⟩), .string ⟨#[]⟩, .int .i64 0, .int .i64 0, .int .i64 0, .slice p1 0 c1] 24 2 (.string ⟨#[]⟩) rfl) id; have d3 := HK7.out.cell (new_cell wr #[.int .i64 4, .string (mkB (azs k q) ++ ⟨#[122]⟩), .string ⟨#[]⟩, .int .i64 0, .int .i64 0, .int .i64 0, .slice p1 0 c1] 24 3 (.int .i64 0) rfl) id; have d4 := HK7.out.cell (new_cell wr #[.int .i64 4, .string (mkB (azs k q) ++ ⟨#[122]⟩), .string ⟨#[]⟩, .int .i64 0, .int .i64 0, .int .i64 0, .slice p1 0 c1] 24 4 (.int .i64 0) rfl) id; have d5 := HK7.out.cell (new_cell wr #[.int .i64 4, .string (mkB (azs k q) ++ ⟨#[122]⟩), .string ⟨#[]⟩, .int .i64 0, .int .i64 0, .int .i64 0, .slice p1 0 c1] 24 5 (.int .i64 0) rfl) id; have d6 := HK7.out.cell (new_cell wr #[.int .i64 4, .string (mkB (azs k q) ++ ⟨#[122]⟩), .string ⟨#[]⟩, .int .i64 0, .int .i64 0, .int .i64 0, .slice p1 0 c1] 24 6 (.slice p1 0 c1) rfl) id; have S5 := Hid.mk' True.intro)
                  | (clear S5; go_at_call 10; refine (hp2 _ (HV9.out.keep (HKF.out.trans HK7.out))).mono ?_; clear hp2; rintro e w8 ⟨rfl, hk8⟩; have HK8 := Hid.mk' hk8; clear hk8; have S6 := Hid.mk' True.intro))
                go_ret
                exact ⟨rfl, ((HW5.out.trans HKF.out).trans HK7.out).trans HK8.out⟩
end Go.Proofs.YtngoifbflpeapabDoor

