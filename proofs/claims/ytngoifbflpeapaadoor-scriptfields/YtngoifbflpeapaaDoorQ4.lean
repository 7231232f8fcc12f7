import Derived.Test.YtngoifbflpeapaaDoorQ3
namespace Go.Proofs.YtngoifbflpeapaaDoor
open Go.RowKit Go.Maps
set_option maxRecDepth 100000

/-! A step whose line isn't too long, as the statements cut it. -/
theorem Row.take {W : World} {p : Option Addr} {n c : Nat} {l : List Int} (h : Row W (.slice p n c) l.length (ints l)) (m : Nat) (hm : m ≤ l.length) : Row W (.slice p m c) (l.take m).length (ints (l.take m)) := by
  obtain ⟨p', c', e, hc, hcell⟩ := h
  injection e with e1 e2 e3
  subst e1
  subst e3
  have hlen : (l.take m).length = m := by rw [List.length_take]; omega
  refine ⟨p, c, by rw [hlen], by omega, fun h0 => ?_⟩
  obtain ⟨b, o, rfl, hb, hq⟩ := hcell (by omega)
  refine ⟨b, o, rfl, hb, fun j u hj => hq j u ?_⟩
  rw [ints, List.map_take] at hj
  rw [List.getElem?_take] at hj
  split at hj
  · exact hj
  · cases hj
theorem cut_end {w w0 w1 : World} {cs ds : Array Value} {v v1 : Value} {l : List Int} {n : Nat} {xs : List Value} (hk : Keeps (fun _ => False) w w1) (hz : w1.heap[w.heap.size + 1]? = some (.cells szero 24 (0, 0))) (hr : Row w1 v l.length (ints l)) (ho : w1.ownsRow w0.heap.size 3 1 v1 n xs) (hv : v.ownBlock = v1.ownBlock) :
    Row ((w1.alloc (.cells cs 24)).setRow (w.heap.size + 1) ds) v l.length (ints l) ∧ Keeps (fun _ => False) w ((w1.alloc (.cells cs 24)).setRow (w.heap.size + 1) ds) := by
  have k1 := (Keeps.refl (fun _ => False) w1).alloc (.cells cs 24)
  have k2 : Keeps (fun k => k = w.heap.size + 1) (w1.alloc (.cells cs 24)) ((w1.alloc (.cells cs 24)).setRow (w.heap.size + 1) ds) := (Keeps.refl _ _).setRow _ _ (Or.inr rfl)
  refine ⟨(hr.keep k1).keepX k2 (fun g hg => ?_), (hk.trans k1).setRow _ _ (Or.inl (by omega))⟩
  rw [hv] at hg
  exact row_ne hz ho g hg
theorem ctB_yes {x : ByteArray} (h : 2000 < x.size) : ctB x = x.extract 0 2000 := if_pos h
theorem ctB_no {x : ByteArray} (h : ¬ 2000 < x.size) : ctB x = x := if_neg h

set_option maxHeartbeats 8000000 in
theorem cut_any (w : World) (t : St) (v : Value) (hr : Row w v t.l.length (ints t.l)) (hk0 : -9223372036854775808 ≤ t.kind ∧ t.kind ≤ 9223372036854775807) (hl : t.l.length ≤ 17592186044416) :
    Calls Tryd.prog 5 #[.agg (scell t v)] w fun e w' => ∃ v', e = .returned (.agg (scell (cutF t) v')) ∧ Hid (Row w' v' (cutF t).l.length (ints (cutF t).l) ∧ Keeps (fun _ => False) w w') := by
  obtain ⟨p, c, rfl, _, _⟩ := id hr
  have HK0 := Hid.mk' (((Keeps.refl (fun _ => False) w).alloc (.cells (scell t (.slice p t.l.length c)) 24)).alloc (.cells szero 24))
  have HZ0 : Hid (((w.alloc (.cells (scell t (.slice p t.l.length c)) 24)).alloc (.cells szero 24)).heap[w.heap.size + 1]? = some (.cells szero 24 (0, 0))) := by
    have := heap_last (w.alloc (.cells (scell t (.slice p t.l.length c)) 24)) (.cells szero 24)
    rw [World.size_alloc] at this
    exact this
  have hsh := shaped_any _ t _ (hr.keep HK0.out) hk0 hl
  have HC : Hid (cutF t = ctS (shF t)) := rfl
  generalize cutF t = ct at *
  generalize shF t = sh at *
  clear hr hl hk0
  unfold scell at HK0 HZ0 hsh
  unfold szero at HK0 HZ0 hsh
  unfold scell
  obtain ⟨L, hL⟩ : ∃ L, (sh.l.take 500).length = L := ⟨_, rfl⟩
  have HL := Hid.mk' hL
  clear hL
  go_enter Tryd.func5, Tryd.ntmps5
  have S0 := Hid.mk' True.intro
  go_upto_if 9 with (first
    | (clear S0; go_at_call 9; refine hsh.mono ?_; clear hsh; rintro e w1 ⟨v1, rfl, h1⟩; obtain ⟨ra, rc, hv1, hcap, _⟩ := id (Row.of_own h1.out.1); subst hv1; have HW1 := Hid.mk' h1.out; clear h1; have hcap2 : (sh.l.length : Int) ≤ (rc : Int) := by omega
       have HZ1 := Hid.mk' (HW1.out.2.at HZ0.out id); have S1 := Hid.mk' True.intro)
    | (clear S1; refine wpList_alloc_st rfl rfl ?_; have S2 := Hid.mk' True.intro)
    | (clear S2; refine wpList_store_st rfl _ _ rfl sh ra sh.l.length rc (by rfl) (by rfl) ?_; unfold scell; have S3 := Hid.mk' True.intro))
  go_cut [9] from 9 to 13 (fun _ wx => wx = w1.alloc (.cells #[.int .i64 sh.kind, .string (ctB sh.a), .string sh.b, .int .i64 sh.n, .int .i64 sh.m, .int .i64 sh.k, .slice ra sh.l.length rc] 24))
  case first =>
    by_cases hA : 2000 < sh.a.size
    · have iA : (2000 : Int) < (sh.a.size : Int) := by omega
      go_wp2
      go_meet
      case rel => rw [ctB_yes hA]
    · have iA : ¬ (2000 : Int) < (sh.a.size : Int) := by omega
      go_wp2
      go_meet
      case rel => rw [ctB_no hA]
  case rest =>
    subst hcut
    go_upto_if 17 with (fail)
    go_cut [17] from 17 to 21 (fun _ wx => wx = w1.alloc (.cells #[.int .i64 sh.kind, .string (ctB sh.a), .string (ctB sh.b), .int .i64 sh.n, .int .i64 sh.m, .int .i64 sh.k, .slice ra sh.l.length rc] 24))
    case first =>
      by_cases hB : 2000 < sh.b.size
      · have iB : (2000 : Int) < (sh.b.size : Int) := by omega
        go_wp2
        go_meet
        case rel => rw [ctB_yes hB]
      · have iB : ¬ (2000 : Int) < (sh.b.size : Int) := by omega
        go_wp2
        go_meet
        case rel => rw [ctB_no hB]
    case rest =>
      subst hcut
      go_upto_if 25 with (fail)
      go_cut [25] from 25 to 29 (fun _ wx => wx = w1.alloc (.cells #[.int .i64 sh.kind, .string (ctB sh.a), .string (ctB sh.b), .int .i64 sh.n, .int .i64 sh.m, .int .i64 sh.k, .slice ra L rc] 24))
      case first =>
        by_cases hL : 500 < sh.l.length
        · have iL : (500 : Int) < (sh.l.length : Int) := by omega
          go_wp2
          go_meet
          case rel => rw [show L = 500 by rw [← HL.out, List.length_take]; omega]
        · have iL : ¬ (500 : Int) < (sh.l.length : Int) := by omega
          go_wp2
          go_meet
          case rel => rw [show L = sh.l.length by rw [← HL.out, List.length_take]; omega]
      case rest =>
        subst hcut
        go_wp2_with (first
          | (clear S3; refine wpList_store_row rfl 24 (.tmp 2) _ rfl (w.heap.size + 1) #[.int .i64 sh.kind, .string (ctB sh.a), .string (ctB sh.b), .int .i64 sh.n, .int .i64 sh.m, .int .i64 sh.k, .slice ra L rc] (by rfl) (by rfl) 24 szero (((Keeps.refl (fun _ => False) w1).alloc (.cells #[.int .i64 sh.kind, .string (ctB sh.a), .string (ctB sh.b), .int .i64 sh.n, .int .i64 sh.m, .int .i64 sh.k, .slice ra L rc] 24)).at HZ1.out id) size24 rfl (by simp [Value.oneCell']) ?_; have S4 := Hid.mk' True.intro))
        have HRW : Hid (Row w1 (.slice ra L rc) (sh.l.take 500).length (ints (sh.l.take 500))) := by
          show Row _ _ _ _
          have hlen : (sh.l.take 500).length ≤ sh.l.length := by rw [List.length_take]; omega
          have h := (Row.of_own HW1.out.1).take (sh.l.take 500).length hlen
          have e : sh.l.take (sh.l.take 500).length = sh.l.take 500 := by rw [List.length_take, List.take_eq_take_iff]; omega
          rw [e, HL.out] at h
          rw [HL.out]
          exact h
        have HCT : Hid (ct = ⟨sh.kind, ctB sh.a, ctB sh.b, sh.n, sh.m, sh.k, sh.l.take 500⟩) := HC.out
        exact bodyPost_ret (results_cell_row rfl _ _ (w.heap.size + 1) 24 #[.int .i64 sh.kind, .string (ctB sh.a), .string (ctB sh.b), .int .i64 sh.n, .int .i64 sh.m, .int .i64 sh.k, .slice ra L rc] (0, 0) _ rfl (setRow_heap _ _ _ _ _ _ (((Keeps.refl (fun _ => False) w1).alloc (.cells #[.int .i64 sh.kind, .string (ctB sh.a), .string (ctB sh.b), .int .i64 sh.n, .int .i64 sh.m, .int .i64 sh.k, .slice ra L rc] 24)).at HZ1.out id)) Tryd.underlying24 rfl size24) rfl ⟨.slice ra L rc, by rw [HCT.out], cut_end (HK0.out.trans HW1.out.2) HZ1.out (by rw [HCT.out]; exact HRW.out) HW1.out.1 (by cases ra <;> rfl)⟩
end Go.Proofs.YtngoifbflpeapaaDoor

