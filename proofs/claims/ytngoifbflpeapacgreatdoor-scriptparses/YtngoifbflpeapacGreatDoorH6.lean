import Derived.Test.YtngoifbflpeapacGreatDoorH5
import Derived.Test.YtngoifbflpeapacGreatDoorG3
namespace Go.Proofs.YtngoifbflpeapacGreatDoor
open Go.RowKit Go.Maps
set_option maxRecDepth 100000

theorem stF_len : ∀ (ws : List Wd) (l : List Ar) (k : Nat) (t t' : St), stF l k t ws = some t' → t'.l.length ≤ t.l.length + ws.length
  | [], l, k, t, t', h => by
    unfold stF at h
    cases h
    simp
  | x :: ws, l, k, t, t', h => by
    unfold stF at h
    cases ha : argAt l k with
    | none => rw [ha] at h; cases h
    | some a =>
      rw [ha] at h
      simp only at h
      split at h
      · have h1 := stF_len ws l (k + 1) _ t' h
        have h2 := rdF_len a t x
        simp only [List.length_cons]
        omega
      · cases h
theorem lnS_len (t : Bs) : (lnS t).l.length ≤ 20000 := by
  unfold lnS
  split
  · simp [st0]
  · rename_i hl
    cases hw : wds [] t with
    | none => simp [st0]
    | some ws =>
      have h1 := (wds_texts t.length t [] t.length (Nat.le_refl _) (Nat.le_refl _) (by simp) ws hw).2
      simp only
      cases hk : kindOf ws with
      | none => simp [st0]
      | some k =>
        simp only
        split
        · cases hs : stF k.args 0 (st0 k.num) (ws.drop 1) with
          | none => simp [st0]
          | some t' =>
            have h2 := stF_len _ _ _ _ _ hs
            simp only [Option.getD_some]
            simp only [st0, List.length_nil, List.length_drop] at h2 h1
            omega
        · simp [st0]
def szero : Array Value := #[.int .i64 0, .string ⟨#[]⟩, .string ⟨#[]⟩, .int .i64 0, .int .i64 0, .int .i64 0, .slice none 0 0]
theorem wpList_alloc_st {ops : Array Oper} {rest : List Oper} {o : Oper} {a : Act} {w : World} {Q : Exit → Act → World → Prop} (hg : o.guard = none) (ho : o.op = .alloc 25)
    (h : wpList Tryz.prog ops Q rest (a.put o.dst (.pointer (some ⟨w.heap.size, 0, none⟩))) (w.alloc (.cells szero 25))) : wpList Tryz.prog ops Q (o :: rest) a w := by
  refine wpList_plain hg fun K hK => ?_
  have hz := (zero_of_info (P := Tryz.prog) (t := 25) (v := .agg szero) (n := 7) (by kernel_rfl)).1
  unfold Oper.wp execOp
  simp [ho, Instr.alloc, hz, newVar, newRow, Value.cells, Result.andThen]
  exact hK _ _ h
theorem wpList_store_st {ops : Array Oper} {rest : List Oper} {o : Oper} {a : Act} {W : World} {Q : Exit → Act → World → Prop} (hgd : o.guard = none) (x y : Operand) (ho : o.op = .store 25 x y) (t : St) (p : Option Addr) (l c : Nat) (hx : a.eval x = .pointer (some ⟨W.heap.size, 0, none⟩)) (hy : a.eval y = .agg (scell t (.slice p l c)))
    (h : wpList Tryz.prog ops Q rest (a.put o.dst undef) (W.alloc (.cells (scell t (.slice p l c)) 25))) : wpList Tryz.prog ops Q (o :: rest) a (W.alloc (.cells szero 25)) := by
  refine wpList_store_row hgd 25 x y ho W.heap.size (scell t (.slice p l c)) hx hy 25 szero (heap_last W _) size25 rfl (by simp [scell, Value.oneCell']) ?_
  rw [World.setRow_alloc_new]; exact h
def okF (t : St) : Bool := decide (lnE (wrF t) = 0) && smF (lnS (wrF t)) t
/-- Print's answer. -/
def prF (t : St) : Bs := if okF t = true then wrF t else []
set_option maxHeartbeats 4000000 in
theorem print_any (w : World) (hv : Vars w) (t : St) (v : Value) (hr : Row w v t.l.length (ints t.l)) (ho : OkS t) (hln : (wrF t).length ≤ 140737488355328) :
    Calls Tryz.prog 11 #[.agg (scell t v)] w fun e w' => e = .returned (.string (mkB (prF t))) ∧ Keeps (fun _ => False) w w' := by
  obtain ⟨p, c, rfl, _, _⟩ := id hr
  have HRow := Hid.mk' hr
  have HV := Hid.mk' hv
  have HO := Hid.mk' ho
  have HK0 := Hid.mk' ((Keeps.refl (fun _ => False) w).alloc (.cells (scell t (.slice p t.l.length c)) 25))
  have HB0 := Hid.mk' (heap_last w (.cells (scell t (.slice p t.l.length c)) 25))
  have h20 := written_any _ (hv.keep HK0.out) t _ (hr.keep HK0.out) ho hln
  have h8 := fun W h => line_any W h (mkB (wrF t))
  have hm : (mkB (wrF t)).data.toList = wrF t := by simp [mkB]
  have HP : Hid (prF t = if okF t = true then wrF t else []) := rfl
  have HOK : Hid (okF t = (decide (lnE (wrF t) = 0) && smF (lnS (wrF t)) t)) := rfl
  have HLL := Hid.mk' (lnS_len (wrF t))
  simp only [hm] at h8
  generalize lnS (wrF t) = u at *
  generalize lnE (wrF t) = E at *
  generalize hL : mkB (wrF t) = L at *
  have HL := Hid.mk' hL
  unfold scell at HK0 HB0 h20
  clear hr hv ho hln hm hL
  unfold scell
  by_cases hE : E = 0
  · subst hE
    have hSM : okF t = smF u t := by rw [HOK.out]; simp
    rcases Bool.eq_false_or_eq_true (smF u t) with hb | hb
    · have HR : Hid (prF t = wrF t) := by show _ = _; rw [HP.out, if_pos (by rw [hSM, hb])]
      clear hSM
      go_enter Tryz.func11, Tryz.ntmps11
      have S0 := Hid.mk' True.intro
      go_wp2_with (first
      | (clear S0; refine wpList_load_row rfl 25 (.tmp 1) rfl w.heap.size (by rfl) 25 (scell t (.slice p t.l.length c)) (0, 0) _ HB0.out Tryz.underlying25 rfl size25 ?_; have S1 := Hid.mk' True.intro)
      | (clear S1; go_at_call 20; refine h20.mono ?_; clear h20; rintro e w1 ⟨rfl, hk1⟩; have HK1 := Hid.mk' hk1; clear hk1; have S2 := Hid.mk' True.intro)
      | (clear S2; go_at_call 12; refine (h8 _ (HV.out.keep (HK0.out.trans HK1.out))).mono ?_; clear h8; rintro e w2 ⟨v2, rfl, h2⟩; obtain ⟨p2, c2, rfl, _, _⟩ := id (Row.of_own h2.1); have H2 := Hid.mk' h2; have HK3 := Hid.mk' (HK1.out.trans (h2.2.alloc (.cells (scell u (.slice p2 u.l.length c2)) 25))); have HB3 := Hid.mk' (HK3.out.at HB0.out id); have HN3 := Hid.mk' (heap_last w2 (.cells (scell u (.slice p2 u.l.length c2)) 25)); have n0 := new_cell w2 (scell u (.slice p2 u.l.length c2)) 25 0 (.int .i64 u.kind) rfl; have d0 := HK3.out.cell (new_cell w (scell t (.slice p t.l.length c)) 25 0 (.int .i64 t.kind) rfl) id; have n1 := new_cell w2 (scell u (.slice p2 u.l.length c2)) 25 1 (.string u.a) rfl; have d1 := HK3.out.cell (new_cell w (scell t (.slice p t.l.length c)) 25 1 (.string t.a) rfl) id; have n2 := new_cell w2 (scell u (.slice p2 u.l.length c2)) 25 2 (.string u.b) rfl; have d2 := HK3.out.cell (new_cell w (scell t (.slice p t.l.length c)) 25 2 (.string t.b) rfl) id; have n3 := new_cell w2 (scell u (.slice p2 u.l.length c2)) 25 3 (.int .i64 u.n) rfl; have d3 := HK3.out.cell (new_cell w (scell t (.slice p t.l.length c)) 25 3 (.int .i64 t.n) rfl) id; have n4 := new_cell w2 (scell u (.slice p2 u.l.length c2)) 25 4 (.int .i64 u.m) rfl; have d4 := HK3.out.cell (new_cell w (scell t (.slice p t.l.length c)) 25 4 (.int .i64 t.m) rfl) id; have n5 := new_cell w2 (scell u (.slice p2 u.l.length c2)) 25 5 (.int .i64 u.k) rfl; have d5 := HK3.out.cell (new_cell w (scell t (.slice p t.l.length c)) 25 5 (.int .i64 t.k) rfl) id; have n6 := new_cell w2 (scell u (.slice p2 u.l.length c2)) 25 6 (.slice p2 u.l.length c2) rfl; have d6 := HK3.out.cell (new_cell w (scell t (.slice p t.l.length c)) 25 6 (.slice p t.l.length c) rfl) id; clear h2; have S3 := Hid.mk' True.intro)
      | (clear S3; refine wpList_alloc_st rfl rfl ?_; have S4 := Hid.mk' True.intro)
      | (clear S4; refine wpList_store_st rfl _ _ rfl u p2 u.l.length c2 (by rfl) (by rfl) ?_; have S5 := Hid.mk' True.intro)
      | (clear S5; go_at_call 21; refine (same_any _ u t _ _ ((Row.of_own H2.out.out.1).keep ((Keeps.refl (fun _ => False) w2).alloc _)) (HRow.out.keep (HK0.out.trans HK3.out)) (by have := HLL.out; have h : u.l.length ≤ 20000 := HLL.out; omega) HO.out.l).mono ?_; rintro e w4 ⟨rfl, hk4⟩; have HK4 := Hid.mk' hk4; rw [hb]; clear hk4; have S8 := Hid.mk' True.intro))
      go_ret
      exact ⟨by rw [HR.out, HL.out]; first | done | rfl, (HK0.out.trans HK3.out).trans HK4.out⟩
    · have HR : Hid (prF t = []) := by show _ = _; rw [HP.out, if_neg (by rw [hSM, hb]; decide)]
      clear hSM
      go_enter Tryz.func11, Tryz.ntmps11
      have S0 := Hid.mk' True.intro
      go_wp2_with (first
      | (clear S0; refine wpList_load_row rfl 25 (.tmp 1) rfl w.heap.size (by rfl) 25 (scell t (.slice p t.l.length c)) (0, 0) _ HB0.out Tryz.underlying25 rfl size25 ?_; have S1 := Hid.mk' True.intro)
      | (clear S1; go_at_call 20; refine h20.mono ?_; clear h20; rintro e w1 ⟨rfl, hk1⟩; have HK1 := Hid.mk' hk1; clear hk1; have S2 := Hid.mk' True.intro)
      | (clear S2; go_at_call 12; refine (h8 _ (HV.out.keep (HK0.out.trans HK1.out))).mono ?_; clear h8; rintro e w2 ⟨v2, rfl, h2⟩; obtain ⟨p2, c2, rfl, _, _⟩ := id (Row.of_own h2.1); have H2 := Hid.mk' h2; have HK3 := Hid.mk' (HK1.out.trans (h2.2.alloc (.cells (scell u (.slice p2 u.l.length c2)) 25))); have HB3 := Hid.mk' (HK3.out.at HB0.out id); have HN3 := Hid.mk' (heap_last w2 (.cells (scell u (.slice p2 u.l.length c2)) 25)); have n0 := new_cell w2 (scell u (.slice p2 u.l.length c2)) 25 0 (.int .i64 u.kind) rfl; have d0 := HK3.out.cell (new_cell w (scell t (.slice p t.l.length c)) 25 0 (.int .i64 t.kind) rfl) id; have n1 := new_cell w2 (scell u (.slice p2 u.l.length c2)) 25 1 (.string u.a) rfl; have d1 := HK3.out.cell (new_cell w (scell t (.slice p t.l.length c)) 25 1 (.string t.a) rfl) id; have n2 := new_cell w2 (scell u (.slice p2 u.l.length c2)) 25 2 (.string u.b) rfl; have d2 := HK3.out.cell (new_cell w (scell t (.slice p t.l.length c)) 25 2 (.string t.b) rfl) id; have n3 := new_cell w2 (scell u (.slice p2 u.l.length c2)) 25 3 (.int .i64 u.n) rfl; have d3 := HK3.out.cell (new_cell w (scell t (.slice p t.l.length c)) 25 3 (.int .i64 t.n) rfl) id; have n4 := new_cell w2 (scell u (.slice p2 u.l.length c2)) 25 4 (.int .i64 u.m) rfl; have d4 := HK3.out.cell (new_cell w (scell t (.slice p t.l.length c)) 25 4 (.int .i64 t.m) rfl) id; have n5 := new_cell w2 (scell u (.slice p2 u.l.length c2)) 25 5 (.int .i64 u.k) rfl; have d5 := HK3.out.cell (new_cell w (scell t (.slice p t.l.length c)) 25 5 (.int .i64 t.k) rfl) id; have n6 := new_cell w2 (scell u (.slice p2 u.l.length c2)) 25 6 (.slice p2 u.l.length c2) rfl; have d6 := HK3.out.cell (new_cell w (scell t (.slice p t.l.length c)) 25 6 (.slice p t.l.length c) rfl) id; clear h2; have S3 := Hid.mk' True.intro)
      | (clear S3; refine wpList_alloc_st rfl rfl ?_; have S4 := Hid.mk' True.intro)
      | (clear S4; refine wpList_store_st rfl _ _ rfl u p2 u.l.length c2 (by rfl) (by rfl) ?_; have S5 := Hid.mk' True.intro)
      | (clear S5; go_at_call 21; refine (same_any _ u t _ _ ((Row.of_own H2.out.out.1).keep ((Keeps.refl (fun _ => False) w2).alloc _)) (HRow.out.keep (HK0.out.trans HK3.out)) (by have := HLL.out; have h : u.l.length ≤ 20000 := HLL.out; omega) HO.out.l).mono ?_; rintro e w4 ⟨rfl, hk4⟩; have HK4 := Hid.mk' hk4; rw [hb]; clear hk4; have S8 := Hid.mk' True.intro))
      go_ret
      exact ⟨by rw [HR.out]; rfl, (HK0.out.trans HK3.out).trans HK4.out⟩
  · have hE' : (E == 0) = false := beq_eq_false_iff_ne.2 hE
    have HR : Hid (prF t = []) := by show _ = _; rw [HP.out, if_neg (by rw [HOK.out, decide_eq_false hE]; simp)]
    go_enter Tryz.func11, Tryz.ntmps11
    have S0 := Hid.mk' True.intro
    go_wp2_with (first
      | (clear S0; refine wpList_load_row rfl 25 (.tmp 1) rfl w.heap.size (by rfl) 25 (scell t (.slice p t.l.length c)) (0, 0) _ HB0.out Tryz.underlying25 rfl size25 ?_; have S1 := Hid.mk' True.intro)
      | (clear S1; go_at_call 20; refine h20.mono ?_; clear h20; rintro e w1 ⟨rfl, hk1⟩; have HK1 := Hid.mk' hk1; clear hk1; have S2 := Hid.mk' True.intro)
      | (clear S2; go_at_call 12; refine (h8 _ (HV.out.keep (HK0.out.trans HK1.out))).mono ?_; clear h8; rintro e w2 ⟨v2, rfl, h2⟩; obtain ⟨p2, c2, rfl, _, _⟩ := id (Row.of_own h2.1); have H2 := Hid.mk' h2; have HK3 := Hid.mk' (HK1.out.trans (h2.2.alloc (.cells (scell u (.slice p2 u.l.length c2)) 25))); have HB3 := Hid.mk' (HK3.out.at HB0.out id); have HN3 := Hid.mk' (heap_last w2 (.cells (scell u (.slice p2 u.l.length c2)) 25)); clear h2; have S3 := Hid.mk' True.intro)
      | (clear S3; refine wpList_alloc_st rfl rfl ?_; have S4 := Hid.mk' True.intro)
      | (clear S4; refine wpList_store_st rfl _ _ rfl u p2 u.l.length c2 (by rfl) (by rfl) ?_; have S5 := Hid.mk' True.intro))
    go_ret
    exact ⟨by rw [HR.out]; rfl, HK0.out.trans HK3.out⟩
end Go.Proofs.YtngoifbflpeapacGreatDoor

