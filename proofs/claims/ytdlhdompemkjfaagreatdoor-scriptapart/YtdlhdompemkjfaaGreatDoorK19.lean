import Derived.Test.YtdlhdompemkjfaaGreatDoorK17
import Derived.Test.YtdlhdompemkjfaaGreatDoorK18
import Derived.Lib.ItoaLen
import Derived.Test.YtdlhdompemkjfaaGreatDoorK09
namespace Go.Proofs.YtdlhdompemkjfaaGreatDoor
open Go.RowKit Go.Maps
set_option maxRecDepth 100000

theorem stF_len : ∀ (ws : List Wd) (l : List Ar) (k : Nat) (t t' : St), stF l k t ws = some t' → t'.l.length ≤ t.l.length + ws.length
  | [], l, k, t, t', h => by
    unfold stF at h
    cases h
    simp
  | x :: ws, l, k, t, t', h => by
    unfold stF at h
    cases ha : argAt l k with
    | none => rw [ha] at h; cases h
    | some a =>
      rw [ha] at h
      simp only at h
      split at h
      · have h1 := stF_len ws l (k + 1) _ t' h
        have h2 := rdF_len a t x
        simp only [List.length_cons]
        omega
      · cases h
theorem lnS_len (t : Bs) : (lnS t).l.length ≤ 20000 := by
  unfold lnS
  split
  · simp [st0]
  · rename_i hl
    cases hw : wds [] t with
    | none => simp [st0]
    | some ws =>
      have h1 := (wds_texts t.length t [] t.length (Nat.le_refl _) (Nat.le_refl _) (by simp) ws hw).2
      simp only
      cases hk : kindOf ws with
      | none => simp [st0]
      | some k =>
        simp only
        split
        · cases hs : stF k.args 0 (st0 k.num) (ws.drop 1) with
          | none => simp [st0]
          | some t' =>
            have h2 := stF_len _ _ _ _ _ hs
            simp only [Option.getD_some]
            simp only [st0, List.length_nil, List.length_drop] at h2 h1
            omega
        · simp [st0]
def szero : Array Value := #[.int .i64 0, .string ⟨#[]⟩, .string ⟨#[]⟩, .int .i64 0, .int .i64 0, .int .i64 0, .slice none 0 0]
theorem wpList_alloc_st {ops : Array Oper} {rest : List Oper} {o : Oper} {a : Act} {w : World} {Q : Exit → Act → World → Prop} (hg : o.guard = none) (ho : o.op = .alloc 24)
    (h : wpList Tryz.prog ops Q rest (a.put o.dst (.pointer (some ⟨w.heap.size, 0, none⟩))) (w.alloc (.cells szero 24))) : wpList Tryz.prog ops Q (o :: rest) a w := by
  refine wpList_plain hg fun K hK => ?_
  have hz := (zero_of_info (P := Tryz.prog) (t := 24) (v := .agg szero) (n := 7) (by kernel_rfl)).1
  unfold Oper.wp execOp
  simp [ho, Instr.alloc, hz, newVar, newRow, Value.cells, Result.andThen]
  exact hK _ _ h
theorem wpList_store_st {ops : Array Oper} {rest : List Oper} {o : Oper} {a : Act} {W : World} {Q : Exit → Act → World → Prop} (hgd : o.guard = none) (x y : Operand) (ho : o.op = .store 24 x y) (t : St) (p : Option Addr) (l c : Nat) (hx : a.eval x = .pointer (some ⟨W.heap.size, 0, none⟩)) (hy : a.eval y = .agg (scell t (.slice p l c)))
    (h : wpList Tryz.prog ops Q rest (a.put o.dst undef) (W.alloc (.cells (scell t (.slice p l c)) 24))) : wpList Tryz.prog ops Q (o :: rest) a (W.alloc (.cells szero 24)) := by
  refine wpList_store_row hgd 24 x y ho W.heap.size (scell t (.slice p l c)) hx hy 24 szero (heap_last W _) size24 rfl (by simp [scell, Value.oneCell']) ?_
  rw [World.setRow_alloc_new]; exact h
def okF (t : St) : Bool := decide (lnE (wrF t) = 0) && smF (lnS (wrF t)) t
/-- Print's answer. -/
def prF (t : St) : Bs := if okF t = true then wrF t else []
set_option maxHeartbeats 4000000 in
theorem print_any (w : World) (hv : Vars w) (t : St) (v : Value) (hr : Row w v t.l.length (ints t.l)) (ho : OkS t) (hln : (wrF t).length ≤ 140737488355328) :
    Calls Tryz.prog 9 #[.agg (scell t v)] w fun e w' => e = .returned (.string (mkB (prF t))) ∧ Keeps (fun _ => False) w w' := by
  obtain ⟨p, c, rfl, _, _⟩ := id hr
  have HRow := Hid.mk' hr
  have HV := Hid.mk' hv
  have HO := Hid.mk' ho
  have HK0 := Hid.mk' ((Keeps.refl (fun _ => False) w).alloc (.cells (scell t (.slice p t.l.length c)) 24))
  have HB0 := Hid.mk' (heap_last w (.cells (scell t (.slice p t.l.length c)) 24))
  have h20 := written_any _ (hv.keep HK0.out) t _ (hr.keep HK0.out) ho hln
  have h8 := fun W h => line_any W h (mkB (wrF t))
  have hm : (mkB (wrF t)).data.toList = wrF t := by simp [mkB]
  have HP : Hid (prF t = if okF t = true then wrF t else []) := rfl
  have HOK : Hid (okF t = (decide (lnE (wrF t) = 0) && smF (lnS (wrF t)) t)) := rfl
  have HLL := Hid.mk' (lnS_len (wrF t))
  simp only [hm] at h8
  generalize lnS (wrF t) = u at *
  generalize lnE (wrF t) = E at *
  generalize hL : mkB (wrF t) = L at *
  have HL := Hid.mk' hL
  unfold scell at HK0 HB0 h20
  clear hr hv ho hln hm hL
  unfold scell
  by_cases hE : E = 0
  · subst hE
    have hSM : okF t = smF u t := by rw [HOK.out]; simp
    rcases Bool.eq_false_or_eq_true (smF u t) with hb | hb
    · have HR : Hid (prF t = wrF t) := by show _ = _; rw [HP.out, if_pos (by rw [hSM, hb])]
      clear hSM
      go_enter Tryz.func9, Tryz.ntmps9
      have S0 := Hid.mk' True.intro
      go_wp2_with (first
      | (clear S0; refine wpList_load_row rfl 24 (.tmp 1) rfl w.heap.size (by rfl) 24 (scell t (.slice p t.l.length c)) (0, 0) _ HB0.out Tryz.underlying24 rfl size24 ?_; have S1 := Hid.mk' True.intro)
      | (clear S1; go_at_call 18; refine h20.mono ?_; clear h20; rintro e w1 ⟨rfl, hk1⟩; have HK1 := Hid.mk' hk1; clear hk1; have S2 := Hid.mk' True.intro)
      | (clear S2; go_at_call 16; refine (h8 _ (HV.out.keep (HK0.out.trans HK1.out))).mono ?_; clear h8; rintro e w2 ⟨v2, rfl, h2⟩; obtain ⟨p2, c2, rfl, _, _⟩ := id (Row.of_own h2.1); have H2 := Hid.mk' h2; have HK3 := Hid.mk' (HK1.out.trans (h2.2.alloc (.cells (scell u (.slice p2 u.l.length c2)) 24))); have HB3 := Hid.mk' (HK3.out.at HB0.out id); have HN3 := Hid.mk' (heap_last w2 (.cells (scell u (.slice p2 u.l.length c2)) 24)); have n0 := new_cell w2 (scell u (.slice p2 u.l.length c2)) 24 0 (.int .i64 u.kind) rfl; have d0 := HK3.out.cell (new_cell w (scell t (.slice p t.l.length c)) 24 0 (.int .i64 t.kind) rfl) id; have n1 := new_cell w2 (scell u (.slice p2 u.l.length c2)) 24 1 (.string u.a) rfl; have d1 := HK3.out.cell (new_cell w (scell t (.slice p t.l.length c)) 24 1 (.string t.a) rfl) id; have n2 := new_cell w2 (scell u (.slice p2 u.l.length c2)) 24 2 (.string u.b) rfl; have d2 := HK3.out.cell (new_cell w (scell t (.slice p t.l.length c)) 24 2 (.string t.b) rfl) id; have n3 := new_cell w2 (scell u (.slice p2 u.l.length c2)) 24 3 (.int .i64 u.n) rfl; have d3 := HK3.out.cell (new_cell w (scell t (.slice p t.l.length c)) 24 3 (.int .i64 t.n) rfl) id; have n4 := new_cell w2 (scell u (.slice p2 u.l.length c2)) 24 4 (.int .i64 u.m) rfl; have d4 := HK3.out.cell (new_cell w (scell t (.slice p t.l.length c)) 24 4 (.int .i64 t.m) rfl) id; have n5 := new_cell w2 (scell u (.slice p2 u.l.length c2)) 24 5 (.int .i64 u.k) rfl; have d5 := HK3.out.cell (new_cell w (scell t (.slice p t.l.length c)) 24 5 (.int .i64 t.k) rfl) id; have n6 := new_cell w2 (scell u (.slice p2 u.l.length c2)) 24 6 (.slice p2 u.l.length c2) rfl; have d6 := HK3.out.cell (new_cell w (scell t (.slice p t.l.length c)) 24 6 (.slice p t.l.length c) rfl) id; clear h2; have S3 := Hid.mk' True.intro)
      | (clear S3; refine wpList_alloc_st rfl rfl ?_; have S4 := Hid.mk' True.intro)
      | (clear S4; refine wpList_store_st rfl _ _ rfl u p2 u.l.length c2 (by rfl) (by rfl) ?_; have S5 := Hid.mk' True.intro)
      | (clear S5; go_at_call 19; refine (same_any _ u t _ _ ((Row.of_own H2.out.out.1).keep ((Keeps.refl (fun _ => False) w2).alloc _)) (HRow.out.keep (HK0.out.trans HK3.out)) (by have := HLL.out; have h : u.l.length ≤ 20000 := HLL.out; omega) HO.out.l).mono ?_; rintro e w4 ⟨rfl, hk4⟩; have HK4 := Hid.mk' hk4; rw [hb]; clear hk4; have S8 := Hid.mk' True.intro))
      go_ret
      exact ⟨by rw [HR.out, HL.out]; first | done | rfl, (HK0.out.trans HK3.out).trans HK4.out⟩
    · have HR : Hid (prF t = []) := by show _ = _; rw [HP.out, if_neg (by rw [hSM, hb]; decide)]
      clear hSM
      go_enter Tryz.func9, Tryz.ntmps9
      have S0 := Hid.mk' True.intro
      go_wp2_with (first
      | (clear S0; refine wpList_load_row rfl 24 (.tmp 1) rfl w.heap.size (by rfl) 24 (scell t (.slice p t.l.length c)) (0, 0) _ HB0.out Tryz.underlying24 rfl size24 ?_; have S1 := Hid.mk' True.intro)
      | (clear S1; go_at_call 18; refine h20.mono ?_; clear h20; rintro e w1 ⟨rfl, hk1⟩; have HK1 := Hid.mk' hk1; clear hk1; have S2 := Hid.mk' True.intro)
      | (clear S2; go_at_call 16; refine (h8 _ (HV.out.keep (HK0.out.trans HK1.out))).mono ?_; clear h8; rintro e w2 ⟨v2, rfl, h2⟩; obtain ⟨p2, c2, rfl, _, _⟩ := id (Row.of_own h2.1); have H2 := Hid.mk' h2; have HK3 := Hid.mk' (HK1.out.trans (h2.2.alloc (.cells (scell u (.slice p2 u.l.length c2)) 24))); have HB3 := Hid.mk' (HK3.out.at HB0.out id); have HN3 := Hid.mk' (heap_last w2 (.cells (scell u (.slice p2 u.l.length c2)) 24)); have n0 := new_cell w2 (scell u (.slice p2 u.l.length c2)) 24 0 (.int .i64 u.kind) rfl; have d0 := HK3.out.cell (new_cell w (scell t (.slice p t.l.length c)) 24 0 (.int .i64 t.kind) rfl) id; have n1 := new_cell w2 (scell u (.slice p2 u.l.length c2)) 24 1 (.string u.a) rfl; have d1 := HK3.out.cell (new_cell w (scell t (.slice p t.l.length c)) 24 1 (.string t.a) rfl) id; have n2 := new_cell w2 (scell u (.slice p2 u.l.length c2)) 24 2 (.string u.b) rfl; have d2 := HK3.out.cell (new_cell w (scell t (.slice p t.l.length c)) 24 2 (.string t.b) rfl) id; have n3 := new_cell w2 (scell u (.slice p2 u.l.length c2)) 24 3 (.int .i64 u.n) rfl; have d3 := HK3.out.cell (new_cell w (scell t (.slice p t.l.length c)) 24 3 (.int .i64 t.n) rfl) id; have n4 := new_cell w2 (scell u (.slice p2 u.l.length c2)) 24 4 (.int .i64 u.m) rfl; have d4 := HK3.out.cell (new_cell w (scell t (.slice p t.l.length c)) 24 4 (.int .i64 t.m) rfl) id; have n5 := new_cell w2 (scell u (.slice p2 u.l.length c2)) 24 5 (.int .i64 u.k) rfl; have d5 := HK3.out.cell (new_cell w (scell t (.slice p t.l.length c)) 24 5 (.int .i64 t.k) rfl) id; have n6 := new_cell w2 (scell u (.slice p2 u.l.length c2)) 24 6 (.slice p2 u.l.length c2) rfl; have d6 := HK3.out.cell (new_cell w (scell t (.slice p t.l.length c)) 24 6 (.slice p t.l.length c) rfl) id; clear h2; have S3 := Hid.mk' True.intro)
      | (clear S3; refine wpList_alloc_st rfl rfl ?_; have S4 := Hid.mk' True.intro)
      | (clear S4; refine wpList_store_st rfl _ _ rfl u p2 u.l.length c2 (by rfl) (by rfl) ?_; have S5 := Hid.mk' True.intro)
      | (clear S5; go_at_call 19; refine (same_any _ u t _ _ ((Row.of_own H2.out.out.1).keep ((Keeps.refl (fun _ => False) w2).alloc _)) (HRow.out.keep (HK0.out.trans HK3.out)) (by have := HLL.out; have h : u.l.length ≤ 20000 := HLL.out; omega) HO.out.l).mono ?_; rintro e w4 ⟨rfl, hk4⟩; have HK4 := Hid.mk' hk4; rw [hb]; clear hk4; have S8 := Hid.mk' True.intro))
      go_ret
      exact ⟨by rw [HR.out]; rfl, (HK0.out.trans HK3.out).trans HK4.out⟩
  · have hE' : (E == 0) = false := beq_eq_false_iff_ne.2 hE
    have HR : Hid (prF t = []) := by show _ = _; rw [HP.out, if_neg (by rw [HOK.out, decide_eq_false hE]; simp)]
    go_enter Tryz.func9, Tryz.ntmps9
    have S0 := Hid.mk' True.intro
    go_wp2_with (first
      | (clear S0; refine wpList_load_row rfl 24 (.tmp 1) rfl w.heap.size (by rfl) 24 (scell t (.slice p t.l.length c)) (0, 0) _ HB0.out Tryz.underlying24 rfl size24 ?_; have S1 := Hid.mk' True.intro)
      | (clear S1; go_at_call 18; refine h20.mono ?_; clear h20; rintro e w1 ⟨rfl, hk1⟩; have HK1 := Hid.mk' hk1; clear hk1; have S2 := Hid.mk' True.intro)
      | (clear S2; go_at_call 16; refine (h8 _ (HV.out.keep (HK0.out.trans HK1.out))).mono ?_; clear h8; rintro e w2 ⟨v2, rfl, h2⟩; obtain ⟨p2, c2, rfl, _, _⟩ := id (Row.of_own h2.1); have H2 := Hid.mk' h2; have HK3 := Hid.mk' (HK1.out.trans (h2.2.alloc (.cells (scell u (.slice p2 u.l.length c2)) 24))); have HB3 := Hid.mk' (HK3.out.at HB0.out id); have HN3 := Hid.mk' (heap_last w2 (.cells (scell u (.slice p2 u.l.length c2)) 24)); clear h2; have S3 := Hid.mk' True.intro)
      | (clear S3; refine wpList_alloc_st rfl rfl ?_; have S4 := Hid.mk' True.intro)
      | (clear S4; refine wpList_store_st rfl _ _ rfl u p2 u.l.length c2 (by rfl) (by rfl) ?_; have S5 := Hid.mk' True.intro))
    go_ret
    exact ⟨by rw [HR.out]; rfl, HK0.out.trans HK3.out⟩
end Go.Proofs.YtdlhdompemkjfaaGreatDoor

namespace Go.Proofs.YtdlhdompemkjfaaGreatDoor
open Go.RowKit Go.Maps
set_option maxRecDepth 100000

/-! How long a written line can be. -/
theorem join_len (M : Nat) (sep : Bs) : ∀ l : List Bs, (∀ x ∈ l, x.length ≤ M) → (Lib.join l sep).length ≤ l.length * (M + sep.length)
  | [], _ => by simp [Lib.join]
  | [x], h => by
    have := h x (by simp)
    simp [Lib.join]
    omega
  | x :: y :: r, h => by
    have h1 := h x (by simp)
    have h2 := join_len M sep (y :: r) (fun z hz => h z (by simp [hz]))
    have e : Lib.join (x :: y :: r) sep = x ++ sep ++ Lib.join (y :: r) sep := by simp [Lib.join]
    rw [e, List.length_append, List.length_append, List.length_cons (a := x), Nat.add_mul]
    omega
theorem nums10_le {l : List Int} (h : OkI l) : ∀ x ∈ nums10 l, x.data.toList.length ≤ 4000002 := by
  intro x hx
  obtain ⟨n, hn, rfl⟩ := List.mem_map.1 hx
  have := Lib.itoa_length_le n (h n hn).1 (h n hn).2
  rw [data_mkB]; omega
theorem tlF_le {a : Ar} {t : St} (h : OkS t) : ∀ x ∈ tlF a t, x.data.toList.length ≤ 4000002 := by
  cases a with
  | A => intro x hx; rw [show x = mkB (quo t.a.data.toList) from List.mem_singleton.1 hx, data_mkB]; have := quo_le t.a.data.toList; have h1 := h.a; rw [size_len] at h1; omega
  | B => intro x hx; rw [show x = mkB (quo t.b.data.toList) from List.mem_singleton.1 hx, data_mkB]; have := quo_le t.b.data.toList; have h1 := h.b; rw [size_len] at h1; omega
  | N => exact nums10_le (okI_one h.n)
  | M => exact nums10_le (okI_one h.m)
  | K => exact nums10_le (okI_one h.k)
  | L => exact nums10_le h.o
theorem kd_word : ∀ k ∈ kds, k.word.data.toList.length ≤ 100 := by decide
theorem wrF_le {t : St} (h : OkS t) : (wrF t).length ≤ 140737488355328 := by
  unfold wrF
  split
  · simp
  · rename_i k hk
    have hm : k ∈ kds := List.mem_of_find?_eq_some hk
    have h1 := kd_word k hm
    have h2 := kd_args3 k hm
    have h3 := tells_len t k.args
    have h4 := h.l
    have h5 : k.args.length * (1 + t.l.length) ≤ 3 * (1 + t.l.length) := Nat.mul_le_mul_right _ h2
    have h6 := join_len 4000002 [32] ((k.word :: tells k.args t).map (·.data.toList)) (by
      intro x hx
      obtain ⟨y, hy, rfl⟩ := List.mem_map.1 hx
      rcases List.mem_cons.1 hy with rfl | hy
      · omega
      · obtain ⟨a, _, ha⟩ := List.mem_flatMap.1 hy
        exact tlF_le h y ha)
    rw [List.length_map, List.length_cons] at h6
    have h7 : ((tells k.args t).length + 1) * (4000002 + [(32 : UInt8)].length) ≤ 3000004 * 4000003 := Nat.mul_le_mul (by omega) (by simp)
    unfold line
    omega
end Go.Proofs.YtdlhdompemkjfaaGreatDoor

namespace Go.Proofs.YtdlhdompemkjfaaGreatDoor
open Go.RowKit Go.Maps
set_option maxRecDepth 100000

/-! Numbers there and back. -/
theorem dig_nat {d : Nat} (h : d < 10) : (UInt8.ofNat (48 + d)).toNat = 48 + d := ofNat_small (by omega)
theorem parse_step (acc d : Nat) (r : Bs) (hd : d < 10) (h : acc * 10 + d ≤ 18446744073709551615) : Lib.parseUintM 18446744073709551615 acc (UInt8.ofNat (48 + d) :: r) = Lib.parseUintM 18446744073709551615 (acc * 10 + d) r := by
  rw [Lib.parseUintM, dig_nat hd, if_pos (by omega), if_neg (by omega), if_neg (by omega), show 48 + d - 48 = d by omega]
theorem parse_dec : ∀ (u : Nat) (r : Bs), u ≤ 18446744073709551615 → Lib.parseUintM 18446744073709551615 0 (Lib.decDigits u ++ r) = Lib.parseUintM 18446744073709551615 u r := by
  intro u
  induction u using Nat.strongRecOn with
  | ind u ih =>
    intro r hu
    rw [Lib.decDigits]
    split
    · rename_i h
      rw [List.singleton_append, parse_step 0 u r h (by omega)]
      simp
    · rename_i h
      rw [List.append_assoc, ih (u / 10) (by omega) _ (by omega), List.singleton_append, parse_step _ _ _ (by omega) (by omega), show u / 10 * 10 + u % 10 = u by omega]
theorem dec_head : ∀ (u : Nat), ∃ c r, Lib.decDigits u = c :: r ∧ 48 ≤ c.toNat ∧ c.toNat ≤ 57 := by
  intro u
  induction u using Nat.strongRecOn with
  | ind u ih =>
    rw [Lib.decDigits]
    split
    · rename_i h
      exact ⟨_, [], rfl, by rw [dig_nat h]; omega, by rw [dig_nat h]; omega⟩
    · rename_i h
      obtain ⟨c, r, e, h1, h2⟩ := ih (u / 10) (by omega)
      exact ⟨c, r ++ [UInt8.ofNat (48 + u % 10)], by rw [e]; rfl, h1, h2⟩
theorem parse_all (u : Nat) (hu : u ≤ 18446744073709551615) : Lib.parseUintB 64 (Lib.decDigits u) = .ok u := by
  obtain ⟨c, r, e, _⟩ := dec_head u
  unfold Lib.parseUintB
  rw [if_neg (by rw [e]; simp)]
  have := parse_dec u [] hu
  rw [List.append_nil] at this
  show Lib.parseUintM 18446744073709551615 0 _ = _
  rw [this, Lib.parseUintM]
theorem parse_itoa (n : Int) (h0 : -9223372036854775808 ≤ n) (h1 : n ≤ 9223372036854775807) : Lib.parseIntB 64 (Lib.itoa n) = .ok n := by
  unfold Lib.itoa
  split
  · rename_i hn
    have hp := parse_all n.natAbs (by omega)
    unfold Lib.parseIntB
    simp only [show (45 : UInt8).toNat = 45 from rfl]
    rw [if_pos (Or.inr trivial), hp]
    simp only
    rw [if_neg (by simp), if_neg (by omega), if_pos trivial]
    congr 1
    omega
  · rename_i hn
    have hp := parse_all n.toNat (by omega)
    obtain ⟨c, r, e, hc1, hc2⟩ := dec_head n.toNat
    rw [e] at hp ⊢
    unfold Lib.parseIntB
    simp only
    rw [if_neg (by omega), hp]
    simp only
    rw [if_neg (by omega), if_neg (by omega), if_neg (by omega)]
    congr 1
    omega
theorem num_itoa (n : Int) (h0 : -9223372036854775808 ≤ n) (h1 : n ≤ 9223372036854775807) : num (Lib.itoa n) = some n := by
  unfold num
  rw [parse_itoa n h0 h1]
  simp
/-- What a number's word holds: digits, and a minus sign ahead. -/
theorem dec_bytes : ∀ (u : Nat) (c : UInt8), c ∈ Lib.decDigits u → 48 ≤ c.toNat ∧ c.toNat ≤ 57 := by
  intro u
  induction u using Nat.strongRecOn with
  | ind u ih =>
    intro c hc
    rw [Lib.decDigits] at hc
    split at hc
    · rename_i h
      have : c = UInt8.ofNat (48 + u) := by simpa using hc
      rw [this, dig_nat h]; omega
    · rename_i h
      rcases List.mem_append.1 hc with hc | hc
      · exact ih (u / 10) (by omega) c hc
      · have : c = UInt8.ofNat (48 + u % 10) := by simpa using hc
        rw [this, dig_nat (by omega)]; omega
theorem itoa_bytes {n : Int} {c : UInt8} (h : c ∈ Lib.itoa n) : c ≠ 32 ∧ c ≠ 34 := by
  have key : c = 45 ∨ (48 ≤ c.toNat ∧ c.toNat ≤ 57) := by
    unfold Lib.itoa at h
    split at h
    · rcases List.mem_cons.1 h with h | h
      · exact Or.inl h
      · exact Or.inr (dec_bytes _ c h)
    · exact Or.inr (dec_bytes _ c h)
  rcases key with rfl | ⟨h1, h2⟩
  · exact ⟨by decide, by decide⟩
  · exact ⟨by rintro rfl; exact absurd h1 (by decide), by rintro rfl; exact absurd h1 (by decide)⟩
theorem itoa_ne (n : Int) : Lib.itoa n ≠ [] := by
  unfold Lib.itoa
  split
  · simp
  · obtain ⟨c, r, e, _⟩ := dec_head n.toNat
    rw [e]; simp
end Go.Proofs.YtdlhdompemkjfaaGreatDoor
