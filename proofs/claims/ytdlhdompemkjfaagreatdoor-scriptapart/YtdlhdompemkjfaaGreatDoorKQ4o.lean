import Derived.Test.YtdlhdompemkjfaaGreatDoorK34
namespace Go.Proofs.YtdlhdompemkjfaaGreatDoor
open Go.RowKit Go.Maps
set_option maxRecDepth 100000

/-! A step as the statements cut it, with a list of its own. -/
theorem own_take {W : World} {base : Nat} {p : Option Addr} {n c : Nat} {l : List Int} (h : W.ownsRow base 3 1 (.slice p n c) l.length (ints l)) (m : Nat) (hm : m ≤ l.length) : W.ownsRow base 3 1 (.slice p m c) (l.take m).length (ints (l.take m)) := by
  have hlen : (l.take m).length = m := by rw [List.length_take]; omega
  refine ⟨by simp [ints], ?_⟩
  rcases h.2 with ⟨e, h0⟩ | ⟨g, cap, cur, e, hg, hb, h1, h2, h3, h4⟩
  · injection e with e1 e2 e3
    subst e1 e3
    have : m = 0 := by omega
    subst this
    exact Or.inl ⟨rfl, by simp⟩
  · injection e with e1 e2 e3
    subst e1 e3
    refine Or.inr ⟨g, c, cur, by rw [hlen], hg, hb, by omega, h2, h3, ?_⟩
    rw [hlen, Nat.mul_one]
    rw [Nat.mul_one] at h4
    have e : (ints l).take m = ints (l.take m) := by rw [ints, ints, List.map_take]
    rw [← e, ← h4, List.take_take, Nat.min_eq_left (by omega)]
theorem cut_end2 {w w1 : World} {cs ds : Array Value} {v : Value} {l : List Int} {base : Nat} (hk : Keeps (fun _ => False) w w1) (hz : w1.heap[w.heap.size + 1]? = some (.cells szero 24 (0, 0))) (hr : w1.ownsRow base 3 1 v l.length (ints l)) :
    ((w1.alloc (.cells cs 24)).setRow (w.heap.size + 1) ds).ownsRow base 3 1 v l.length (ints l) ∧ Keeps (fun _ => False) w ((w1.alloc (.cells cs 24)).setRow (w.heap.size + 1) ds) := by
  have k1 := (Keeps.refl (fun _ => False) w1).alloc (.cells cs 24)
  have k2 : Keeps (fun k => k = w.heap.size + 1) (w1.alloc (.cells cs 24)) ((w1.alloc (.cells cs 24)).setRow (w.heap.size + 1) ds) := (Keeps.refl _ _).setRow _ _ (Or.inr rfl)
  exact ⟨own_keep (own_grow hr k1) k2 (fun g hg => row_ne hz hr g hg), (hk.trans k1).setRow _ _ (Or.inl (by omega))⟩

set_option maxHeartbeats 8000000 in
theorem cut_own (w : World) (t : St) (v : Value) (hr : Row w v t.l.length (ints t.l)) (hk0 : -9223372036854775808 ≤ t.kind ∧ t.kind ≤ 9223372036854775807) (hl : t.l.length ≤ 17592186044416) :
    Calls Tryz.prog 14 #[.agg (scell t v)] w fun e w' => ∃ v', e = .returned (.agg (scell (cutF t) v')) ∧ Hid (w'.ownsRow w.heap.size 3 1 v' (cutF t).l.length (ints (cutF t).l) ∧ Keeps (fun _ => False) w w') := by
  obtain ⟨p, c, rfl, _, _⟩ := id hr
  have HK0 := Hid.mk' (((Keeps.refl (fun _ => False) w).alloc (.cells (scell t (.slice p t.l.length c)) 24)).alloc (.cells szero 24))
  have HZ0 : Hid (((w.alloc (.cells (scell t (.slice p t.l.length c)) 24)).alloc (.cells szero 24)).heap[w.heap.size + 1]? = some (.cells szero 24 (0, 0))) := by
    have := heap_last (w.alloc (.cells (scell t (.slice p t.l.length c)) 24)) (.cells szero 24)
    rw [World.size_alloc] at this
    exact this
  have hsh := shaped_any _ t _ (hr.keep HK0.out) hk0 hl
  have HC : Hid (cutF t = ctS (shF t)) := rfl
  generalize cutF t = ct at *
  generalize shF t = sh at *
  clear hr hl hk0
  unfold scell at HK0 HZ0 hsh
  unfold szero at HK0 HZ0 hsh
  unfold scell
  obtain ⟨L, hL⟩ : ∃ L, (sh.l.take 500).length = L := ⟨_, rfl⟩
  have HL := Hid.mk' hL
  clear hL
  go_enter Tryz.func14, Tryz.ntmps14
  have S0 := Hid.mk' True.intro
  go_upto_if 9 with (first
    | (clear S0; go_at_call 27; refine hsh.mono ?_; clear hsh; rintro e w1 ⟨v1, rfl, h1⟩; obtain ⟨ra, rc, hv1, hcap, _⟩ := id (Row.of_own h1.out.1); subst hv1; have HW1 := Hid.mk' h1.out; clear h1; have hcap2 : (sh.l.length : Int) ≤ (rc : Int) := by omega
       have HZ1 := Hid.mk' (HW1.out.2.at HZ0.out id); have S1 := Hid.mk' True.intro)
    | (clear S1; refine wpList_alloc_st rfl rfl ?_; have S2 := Hid.mk' True.intro)
    | (clear S2; refine wpList_store_st rfl _ _ rfl sh ra sh.l.length rc (by rfl) (by rfl) ?_; unfold scell; have S3 := Hid.mk' True.intro))
  go_cut [9] from 9 to 13 (fun _ wx => wx = w1.alloc (.cells #[.int .i64 sh.kind, .string (ctB sh.a), .string sh.b, .int .i64 sh.n, .int .i64 sh.m, .int .i64 sh.k, .slice ra sh.l.length rc] 24))
  case first =>
    by_cases hA : 2000 < sh.a.size
    · have iA : (2000 : Int) < (sh.a.size : Int) := by omega
      go_wp2
      go_meet
      case rel => rw [ctB_yes hA]
    · have iA : ¬ (2000 : Int) < (sh.a.size : Int) := by omega
      go_wp2
      go_meet
      case rel => rw [ctB_no hA]
  case rest =>
    subst hcut
    go_upto_if 17 with (fail)
    go_cut [17] from 17 to 21 (fun _ wx => wx = w1.alloc (.cells #[.int .i64 sh.kind, .string (ctB sh.a), .string (ctB sh.b), .int .i64 sh.n, .int .i64 sh.m, .int .i64 sh.k, .slice ra sh.l.length rc] 24))
    case first =>
      by_cases hB : 2000 < sh.b.size
      · have iB : (2000 : Int) < (sh.b.size : Int) := by omega
        go_wp2
        go_meet
        case rel => rw [ctB_yes hB]
      · have iB : ¬ (2000 : Int) < (sh.b.size : Int) := by omega
        go_wp2
        go_meet
        case rel => rw [ctB_no hB]
    case rest =>
      subst hcut
      go_upto_if 25 with (fail)
      go_cut [25] from 25 to 29 (fun _ wx => wx = w1.alloc (.cells #[.int .i64 sh.kind, .string (ctB sh.a), .string (ctB sh.b), .int .i64 sh.n, .int .i64 sh.m, .int .i64 sh.k, .slice ra L rc] 24))
      case first =>
        by_cases hL : 500 < sh.l.length
        · have iL : (500 : Int) < (sh.l.length : Int) := by omega
          go_wp2
          go_meet
          case rel => rw [show L = 500 by rw [← HL.out, List.length_take]; omega]
        · have iL : ¬ (500 : Int) < (sh.l.length : Int) := by omega
          go_wp2
          go_meet
          case rel => rw [show L = sh.l.length by rw [← HL.out, List.length_take]; omega]
      case rest =>
        subst hcut
        go_wp2_with (first
          | (clear S3; refine wpList_store_row rfl 24 (.tmp 2) _ rfl (w.heap.size + 1) #[.int .i64 sh.kind, .string (ctB sh.a), .string (ctB sh.b), .int .i64 sh.n, .int .i64 sh.m, .int .i64 sh.k, .slice ra L rc] (by rfl) (by rfl) 24 szero (((Keeps.refl (fun _ => False) w1).alloc (.cells #[.int .i64 sh.kind, .string (ctB sh.a), .string (ctB sh.b), .int .i64 sh.n, .int .i64 sh.m, .int .i64 sh.k, .slice ra L rc] 24)).at HZ1.out id) size24 rfl (by simp [Value.oneCell']) ?_; have S4 := Hid.mk' True.intro))
        have HRW : Hid (w1.ownsRow w.heap.size 3 1 (.slice ra L rc) (sh.l.take 500).length (ints (sh.l.take 500))) := by
          show World.ownsRow _ _ _ _ _ _ _
          have hlen : (sh.l.take 500).length ≤ sh.l.length := by rw [List.length_take]; omega
          have h := own_take (own_base HW1.out.1 HK0.out.size) (sh.l.take 500).length hlen
          have e : sh.l.take (sh.l.take 500).length = sh.l.take 500 := by rw [List.length_take, List.take_eq_take_iff]; omega
          rw [e, HL.out] at h
          rw [HL.out]
          exact h
        have HCT : Hid (ct = ⟨sh.kind, ctB sh.a, ctB sh.b, sh.n, sh.m, sh.k, sh.l.take 500⟩) := HC.out
        exact bodyPost_ret (results_cell_row rfl _ _ (w.heap.size + 1) 24 #[.int .i64 sh.kind, .string (ctB sh.a), .string (ctB sh.b), .int .i64 sh.n, .int .i64 sh.m, .int .i64 sh.k, .slice ra L rc] (0, 0) _ rfl (setRow_heap _ _ _ _ _ _ (((Keeps.refl (fun _ => False) w1).alloc (.cells #[.int .i64 sh.kind, .string (ctB sh.a), .string (ctB sh.b), .int .i64 sh.n, .int .i64 sh.m, .int .i64 sh.k, .slice ra L rc] 24)).at HZ1.out id)) Tryz.underlying24 rfl size24) rfl ⟨.slice ra L rc, by rw [HCT.out], cut_end2 (HK0.out.trans HW1.out.2) HZ1.out (by rw [HCT.out]; exact HRW.out)⟩
end Go.Proofs.YtdlhdompemkjfaaGreatDoor
