import Derived.Test.YtdlhdompemkjfaaGreatDoorK21
import Derived.Deep.DeepCutAuto
namespace Go.Proofs.YtdlhdompemkjfaaGreatDoor
open Go.RowKit Go.Maps
set_option maxRecDepth 100000

/-! A step with its kind's fields alone, as the statements make it. -/
theorem ints_len (l : List Int) : (ints l).length = l.length := by simp [ints]
theorem ints_one (l : List Int) : ∀ u ∈ ints l, u.oneCell' = true := by
  intro u hu
  obtain ⟨x, _, rfl⟩ := List.mem_map.1 hu
  rfl
/-- append of a list of numbers to none. -/
theorem wpList_appi {ops : Array Oper} {rest : List Oper} {o : Oper} {a : Act} {Q : Exit → Act → World → Prop} (hgd : o.guard = none) (s x : Operand)
    (ho : o.op = .call { callee := .builtin .append, args := #[s, x], argTypes := #[22, 22] }) (base : Nat) (W : World) (hs : a.eval s = .slice none 0 0) (hb : base ≤ W.heap.size) (z : Value) (m : List Int)
    (hx : a.eval x = z) (hz : Row W z m.length (ints m)) (hl : m.length ≤ 17592186044416)
    (K : ∀ v' W', W'.ownsRow base 3 1 v' m.length (ints m) → Keeps (fun _ => False) W W' → wpList Tryz.prog ops Q rest (a.put o.dst v') W') : wpList Tryz.prog ops Q (o :: rest) a W := by
  obtain ⟨i0, hi, hz0, hz1, hz2⟩ := info_parts info3
  obtain ⟨p, c, rfl, _, hc⟩ := hz
  refine wpList_append_any hgd s x 22 ho base 3 i0 (.int .i64 0) 1 8 Tryz.underlying22 hi hz0 hz1 hz2 rfl (by decide) (.slice none 0 0) 0 [] hs (World.ownsRow_nil _ _ _ _) p m.length c (ints m) hx (by rw [ints_len, Nat.mul_one]) ?_ (ints_one m) (by unfold maxLen; omega) (by omega) hb ?_
  · intro h0
    obtain ⟨b, o, rfl, _, hcell⟩ := hc h0
    exact ⟨_, rfl, fun j u hj => by rw [addr_add]; exact hcell j u hj⟩
  · intro v' W' hown hgr
    refine K v' W' ?_ (Keeps.of hgr (fun k hk => by cases hk))
    rw [Nat.zero_add] at hown
    exact hown
theorem tmod_abs (n : Int) : (n.tmod 21 < 0 → kdn n = -(n.tmod 21) + 1 ∨ (1 ≤ n ∧ n ≤ 21)) ∧ (¬ n.tmod 21 < 0 → kdn n = n.tmod 21 + 1 ∨ (1 ≤ n ∧ n ≤ 21)) := by
  unfold kdn
  constructor
  · intro h
    split
    · left; omega
    · right; omega
  · intro h
    split
    · left; omega
    · right; omega
theorem tmod_in (n : Int) : -20 ≤ n.tmod 21 ∧ n.tmod 21 ≤ 20 := by
  have h1 := Int.natAbs_tmod n 21
  have h2 := Nat.mod_lt n.natAbs (show 0 < 21 by decide)
  have h3 : (n.tmod 21).natAbs ≤ 20 := by rw [h1]; show n.natAbs % 21 ≤ 20; omega
  omega
theorem sh_end {w W : World} {R : Array Value} {v : Value} {l : List Int} (h1 : W.heap[w.heap.size + 1]? = some (.cells szero 24 (0, 0))) (h2 : W.heap[w.heap.size + 1 + 1]? = some (.cells R 24 (0, 0)))
    (ho : W.ownsRow w.heap.size 3 1 v l.length (ints l)) (hk : Keeps (fun _ => False) w W) :
    (W.setCell ⟨w.heap.size + 1 + 1, 6, none⟩ v).heap[w.heap.size + 1 + 1]? = some (.cells (R.setIfInBounds 6 v) 24 (0, 0)) ∧ (W.setCell ⟨w.heap.size + 1 + 1, 6, none⟩ v).heap[w.heap.size + 1]? = some (.cells szero 24 (0, 0)) ∧
    ∀ cs, ((W.setCell ⟨w.heap.size + 1 + 1, 6, none⟩ v).setRow (w.heap.size + 1) cs).ownsRow w.heap.size 3 1 v l.length (ints l) ∧ Keeps (fun _ => False) w ((W.setCell ⟨w.heap.size + 1 + 1, 6, none⟩ v).setRow (w.heap.size + 1) cs) := by
  have k1 : Keeps (fun k => k = w.heap.size + 1 + 1) W (W.setCell ⟨w.heap.size + 1 + 1, 6, none⟩ v) := Keeps.of (grownBy_setCell _ _ _) (fun k hk => Or.inl (by cases hk; rfl))
  have b1 := setCell_block (a := ⟨w.heap.size + 1 + 1, 6, none⟩) (v := v) h2 rfl
  have b2 := k1.at h1 (by omega)
  have o1 := own_keep ho k1 (row_ne h2 ho)
  refine ⟨b1, b2, fun cs => ⟨?_, ?_⟩⟩
  · have k2 : Keeps (fun k => k = w.heap.size + 1) (W.setCell ⟨w.heap.size + 1 + 1, 6, none⟩ v) ((W.setCell ⟨w.heap.size + 1 + 1, 6, none⟩ v).setRow (w.heap.size + 1) cs) := (Keeps.refl _ _).setRow _ _ (Or.inr rfl)
    exact own_keep o1 k2 (row_ne b2 o1)
  · exact (hk.step (grownBy_setCell _ _ _) (fun k h => Or.inr (by cases h; show w.heap.size ≤ w.heap.size + 1 + 1; omega))).setRow _ _ (Or.inl (by omega))

set_option maxHeartbeats 8000000 in
theorem shaped_any (w : World) (t : St) (v : Value) (hr : Row w v t.l.length (ints t.l)) (hk0 : -9223372036854775808 ≤ t.kind ∧ t.kind ≤ 9223372036854775807) (hl : t.l.length ≤ 17592186044416) :
    Calls Tryz.prog 27 #[.agg (scell t v)] w fun e w' => ∃ v', e = .returned (.agg (scell (shF t) v')) ∧ Hid (w'.ownsRow w.heap.size 3 1 v' (shF t).l.length (ints (shF t).l) ∧ Keeps (fun _ => False) w w') := by
  obtain ⟨p, c, rfl, _, _⟩ := id hr
  have HR := Hid.mk' hr
  have HSH : Hid (shF t = bkS (kdF t.kind) t) := rfl
  have HKD := Hid.mk' (kdF_in t.kind)
  have HIN := Hid.mk' (kdn_in t.kind)
  have HL := Hid.mk' hl
  clear hr hl
  unfold scell
  generalize shF t = sh at *
  generalize kdF t.kind = kd at *
  go_enter Tryz.func27, Tryz.ntmps27
  have S0 := Hid.mk' True.intro
  go_upto_region 2 with (first
    | (clear S0; refine wpList_alloc_st rfl rfl ?_; have S1 := Hid.mk' True.intro))
  go_cut [14] from 7 to 14 (fun cc wx => cc = .bool (decide (t.kind < 1 ∨ 21 < t.kind)) ∧ wx = ((w.alloc (.cells #[.int .i64 t.kind, .string t.a, .string t.b, .int .i64 t.n, .int .i64 t.m, .int .i64 t.k, .slice p t.l.length c] 24)).alloc (.cells #[.int .i64 0, .string ⟨#[]⟩, .string ⟨#[]⟩, .int .i64 0, .int .i64 0, .int .i64 0, .slice none 0 0] 24)).alloc (.cells #[.int .i64 t.kind, .string ⟨#[]⟩, .string ⟨#[]⟩, .int .i64 0, .int .i64 0, .int .i64 0, .slice none 0 0] 24))
  case first =>
    by_cases h1 : t.kind < 1
    · go_wp2
      go_meet
      case rel => exact ⟨by rw [decide_eq_true (Or.inl h1)], rfl⟩
    · by_cases h2 : 21 < t.kind
      · go_wp2
        go_meet
        case rel => exact ⟨by rw [decide_eq_true (Or.inr h2)], rfl⟩
      · go_wp2
        go_meet
        case rel => exact ⟨by rw [decide_eq_false (by omega)], rfl⟩
  case rest =>
    obtain ⟨rfl, rfl⟩ := hcut
    go_upto_if 14 with (fail)
    go_cut [14] from 14 to 29 (fun _ wx => wx = ((w.alloc (.cells #[.int .i64 t.kind, .string t.a, .string t.b, .int .i64 t.n, .int .i64 t.m, .int .i64 t.k, .slice p t.l.length c] 24)).alloc (.cells #[.int .i64 0, .string ⟨#[]⟩, .string ⟨#[]⟩, .int .i64 0, .int .i64 0, .int .i64 0, .slice none 0 0] 24)).alloc (.cells #[.int .i64 (kdn t.kind), .string ⟨#[]⟩, .string ⟨#[]⟩, .int .i64 0, .int .i64 0, .int .i64 0, .slice none 0 0] 24))
    case first =>
      obtain ⟨hb1, hb2⟩ := tmod_in t.kind
      by_cases h1 : t.kind < 1 ∨ 21 < t.kind
      · rw [decide_eq_true h1]
        by_cases h2 : t.kind.tmod 21 < 0
        · have h3 := (tmod_abs t.kind).1 h2
          have h4 : kdn t.kind = -(t.kind.tmod 21) + 1 := by omega
          clear h3
          go_wp2
          go_meet
          case rel => rw [h4]
        · have h3 := (tmod_abs t.kind).2 h2
          have h4 : kdn t.kind = t.kind.tmod 21 + 1 := by omega
          clear h3
          go_wp2
          go_meet
          case rel => rw [h4]
      · rw [decide_eq_false h1]
        have h4 : kdn t.kind = t.kind := by unfold kdn; rw [if_neg h1]
        go_wp2
        go_meet
        case rel => rw [h4]
    case rest =>
      subst hcut
      have hmem := HKD.out.2.1
      have hnum := HKD.out.2.2
      have hsh := HSH.out
      have HN := HKD.out.1
      clear HKD HSH HN HIN hk0
      simp only [kds, List.mem_cons, List.not_mem_nil, or_false] at hmem
      rcases hmem with rfl | rfl | rfl | rfl | rfl | rfl | rfl | rfl | rfl | rfl | rfl | rfl | rfl | rfl | rfl | rfl | rfl | rfl | rfl | rfl | rfl
      · have hK : kdn t.kind = 1 := hnum.symm
        rw [hK]
        subst hsh
        clear hnum hK
        clear HR HL
        go_wp2
        exact bodyPost_ret (results_cell_row rfl _ _ (w.heap.size + 1) 24 #[.int .i64 1, .string ⟨#[]⟩, .string ⟨#[]⟩, .int .i64 t.n, .int .i64 t.m, .int .i64 t.k, .slice none 0 0] (0, 0) _ rfl (three_blocks w _ _ _).2.1 Tryz.underlying24 rfl size24) rfl ⟨.slice none 0 0, rfl, World.ownsRow_nil _ _ _ _, (((Keeps.refl _ w).alloc _).alloc _).alloc _⟩
      · have hK : kdn t.kind = 2 := hnum.symm
        rw [hK]
        subst hsh
        clear hnum hK
        have HK3 := Hid.mk' ((((Keeps.refl (fun _ => False) w).alloc (.cells #[.int .i64 t.kind, .string t.a, .string t.b, .int .i64 t.n, .int .i64 t.m, .int .i64 t.k, .slice p t.l.length c] 24)).alloc (.cells #[.int .i64 0, .string ⟨#[]⟩, .string ⟨#[]⟩, .int .i64 0, .int .i64 0, .int .i64 0, .slice none 0 0] 24)).alloc (.cells #[.int .i64 2, .string ⟨#[]⟩, .string ⟨#[]⟩, .int .i64 t.n, .int .i64 0, .int .i64 0, .slice none 0 0] 24))
        have HB3 := Hid.mk' (three_blocks w (.cells #[.int .i64 t.kind, .string t.a, .string t.b, .int .i64 t.n, .int .i64 t.m, .int .i64 t.k, .slice p t.l.length c] 24) (.cells #[.int .i64 0, .string ⟨#[]⟩, .string ⟨#[]⟩, .int .i64 0, .int .i64 0, .int .i64 0, .slice none 0 0] 24) (.cells #[.int .i64 2, .string ⟨#[]⟩, .string ⟨#[]⟩, .int .i64 t.n, .int .i64 0, .int .i64 0, .slice none 0 0] 24))
        have S0 := Hid.mk' True.intro
        go_wp2_with (first
          | (clear S0; at_builtin; go_must (refine wpList_appi rfl _ _ rfl w.heap.size _ (by rfl) HK3.out.size _ t.l (by rfl) (HR.out.keep HK3.out) HL.out ?_)
             intro v2 W2 hown hk2
             obtain ⟨ra, rc, hr2, _⟩ := Row.of_own hown
             subst hr2
             have b3 := hk2.at HB3.out.2.2.1 id
             have HE := Hid.mk' (sh_end (hk2.at HB3.out.2.1 id) b3 hown (HK3.out.trans hk2))
             have c2 : W2.cell? ⟨w.heap.size + 1 + 1, 6, none⟩ = some (.slice none 0 0) := by simp only [World.cell?, b3]; rfl
             have f2 : W2.frozen? ⟨w.heap.size + 1 + 1, 6, none⟩ = false := by simp only [World.frozen?, b3]; simp
             clear hown hk2 b3
             have S1 := Hid.mk' True.intro)
          | (clear S1; refine wpList_load_row rfl 24 (.tmp 3) rfl (w.heap.size + 1 + 1) (by rfl) 24 #[.int .i64 2, .string ⟨#[]⟩, .string ⟨#[]⟩, .int .i64 t.n, .int .i64 0, .int .i64 0, .slice ra t.l.length rc] (0, 0) _ HE.out.1 Tryz.underlying24 rfl size24 ?_; have S2 := Hid.mk' True.intro)
          | (clear S2; refine wpList_store_row rfl 24 (.tmp 2) _ rfl (w.heap.size + 1) #[.int .i64 2, .string ⟨#[]⟩, .string ⟨#[]⟩, .int .i64 t.n, .int .i64 0, .int .i64 0, .slice ra t.l.length rc] (by rfl) (by rfl) 24 szero HE.out.2.1 size24 rfl (by simp [Value.oneCell']) ?_; have S3 := Hid.mk' True.intro))
        exact bodyPost_ret (results_cell_row rfl _ _ (w.heap.size + 1) 24 #[.int .i64 2, .string ⟨#[]⟩, .string ⟨#[]⟩, .int .i64 t.n, .int .i64 0, .int .i64 0, .slice ra t.l.length rc] (0, 0) _ rfl (setRow_heap _ _ _ _ _ _ HE.out.2.1) Tryz.underlying24 rfl size24) rfl ⟨.slice ra t.l.length rc, rfl, HE.out.2.2 _⟩
      · have hK : kdn t.kind = 3 := hnum.symm
        rw [hK]
        subst hsh
        clear hnum hK
        clear HR HL
        go_wp2
        exact bodyPost_ret (results_cell_row rfl _ _ (w.heap.size + 1) 24 #[.int .i64 3, .string ⟨#[]⟩, .string ⟨#[]⟩, .int .i64 0, .int .i64 0, .int .i64 0, .slice none 0 0] (0, 0) _ rfl (three_blocks w _ _ _).2.1 Tryz.underlying24 rfl size24) rfl ⟨.slice none 0 0, rfl, World.ownsRow_nil _ _ _ _, (((Keeps.refl _ w).alloc _).alloc _).alloc _⟩
      · have hK : kdn t.kind = 4 := hnum.symm
        rw [hK]
        subst hsh
        clear hnum hK
        clear HR HL
        go_wp2
        exact bodyPost_ret (results_cell_row rfl _ _ (w.heap.size + 1) 24 #[.int .i64 4, .string t.a, .string ⟨#[]⟩, .int .i64 0, .int .i64 0, .int .i64 0, .slice none 0 0] (0, 0) _ rfl (three_blocks w _ _ _).2.1 Tryz.underlying24 rfl size24) rfl ⟨.slice none 0 0, rfl, World.ownsRow_nil _ _ _ _, (((Keeps.refl _ w).alloc _).alloc _).alloc _⟩
      · have hK : kdn t.kind = 5 := hnum.symm
        rw [hK]
        subst hsh
        clear hnum hK
        clear HR HL
        go_wp2
        exact bodyPost_ret (results_cell_row rfl _ _ (w.heap.size + 1) 24 #[.int .i64 5, .string t.a, .string ⟨#[]⟩, .int .i64 0, .int .i64 0, .int .i64 0, .slice none 0 0] (0, 0) _ rfl (three_blocks w _ _ _).2.1 Tryz.underlying24 rfl size24) rfl ⟨.slice none 0 0, rfl, World.ownsRow_nil _ _ _ _, (((Keeps.refl _ w).alloc _).alloc _).alloc _⟩
      · have hK : kdn t.kind = 6 := hnum.symm
        rw [hK]
        subst hsh
        clear hnum hK
        clear HR HL
        go_wp2
        exact bodyPost_ret (results_cell_row rfl _ _ (w.heap.size + 1) 24 #[.int .i64 6, .string t.a, .string ⟨#[]⟩, .int .i64 0, .int .i64 0, .int .i64 0, .slice none 0 0] (0, 0) _ rfl (three_blocks w _ _ _).2.1 Tryz.underlying24 rfl size24) rfl ⟨.slice none 0 0, rfl, World.ownsRow_nil _ _ _ _, (((Keeps.refl _ w).alloc _).alloc _).alloc _⟩
      · have hK : kdn t.kind = 7 := hnum.symm
        rw [hK]
        subst hsh
        clear hnum hK
        clear HR HL
        go_wp2
        exact bodyPost_ret (results_cell_row rfl _ _ (w.heap.size + 1) 24 #[.int .i64 7, .string t.a, .string ⟨#[]⟩, .int .i64 0, .int .i64 0, .int .i64 0, .slice none 0 0] (0, 0) _ rfl (three_blocks w _ _ _).2.1 Tryz.underlying24 rfl size24) rfl ⟨.slice none 0 0, rfl, World.ownsRow_nil _ _ _ _, (((Keeps.refl _ w).alloc _).alloc _).alloc _⟩
      · have hK : kdn t.kind = 8 := hnum.symm
        rw [hK]
        subst hsh
        clear hnum hK
        clear HR HL
        go_wp2
        exact bodyPost_ret (results_cell_row rfl _ _ (w.heap.size + 1) 24 #[.int .i64 8, .string t.a, .string t.b, .int .i64 0, .int .i64 0, .int .i64 0, .slice none 0 0] (0, 0) _ rfl (three_blocks w _ _ _).2.1 Tryz.underlying24 rfl size24) rfl ⟨.slice none 0 0, rfl, World.ownsRow_nil _ _ _ _, (((Keeps.refl _ w).alloc _).alloc _).alloc _⟩
      · have hK : kdn t.kind = 9 := hnum.symm
        rw [hK]
        subst hsh
        clear hnum hK
        clear HR HL
        go_wp2
        exact bodyPost_ret (results_cell_row rfl _ _ (w.heap.size + 1) 24 #[.int .i64 9, .string t.a, .string t.b, .int .i64 0, .int .i64 0, .int .i64 0, .slice none 0 0] (0, 0) _ rfl (three_blocks w _ _ _).2.1 Tryz.underlying24 rfl size24) rfl ⟨.slice none 0 0, rfl, World.ownsRow_nil _ _ _ _, (((Keeps.refl _ w).alloc _).alloc _).alloc _⟩
      · have hK : kdn t.kind = 10 := hnum.symm
        rw [hK]
        subst hsh
        clear hnum hK
        clear HR HL
        go_wp2
        exact bodyPost_ret (results_cell_row rfl _ _ (w.heap.size + 1) 24 #[.int .i64 10, .string t.a, .string ⟨#[]⟩, .int .i64 t.n, .int .i64 t.m, .int .i64 0, .slice none 0 0] (0, 0) _ rfl (three_blocks w _ _ _).2.1 Tryz.underlying24 rfl size24) rfl ⟨.slice none 0 0, rfl, World.ownsRow_nil _ _ _ _, (((Keeps.refl _ w).alloc _).alloc _).alloc _⟩
      · have hK : kdn t.kind = 11 := hnum.symm
        rw [hK]
        subst hsh
        clear hnum hK
        clear HR HL
        go_wp2
        exact bodyPost_ret (results_cell_row rfl _ _ (w.heap.size + 1) 24 #[.int .i64 11, .string t.a, .string t.b, .int .i64 t.n, .int .i64 0, .int .i64 0, .slice none 0 0] (0, 0) _ rfl (three_blocks w _ _ _).2.1 Tryz.underlying24 rfl size24) rfl ⟨.slice none 0 0, rfl, World.ownsRow_nil _ _ _ _, (((Keeps.refl _ w).alloc _).alloc _).alloc _⟩
      · have hK : kdn t.kind = 12 := hnum.symm
        rw [hK]
        subst hsh
        clear hnum hK
        clear HR HL
        go_wp2
        exact bodyPost_ret (results_cell_row rfl _ _ (w.heap.size + 1) 24 #[.int .i64 12, .string t.a, .string ⟨#[]⟩, .int .i64 t.n, .int .i64 0, .int .i64 0, .slice none 0 0] (0, 0) _ rfl (three_blocks w _ _ _).2.1 Tryz.underlying24 rfl size24) rfl ⟨.slice none 0 0, rfl, World.ownsRow_nil _ _ _ _, (((Keeps.refl _ w).alloc _).alloc _).alloc _⟩
      · have hK : kdn t.kind = 13 := hnum.symm
        rw [hK]
        subst hsh
        clear hnum hK
        clear HR HL
        go_wp2
        exact bodyPost_ret (results_cell_row rfl _ _ (w.heap.size + 1) 24 #[.int .i64 13, .string t.a, .string ⟨#[]⟩, .int .i64 0, .int .i64 0, .int .i64 0, .slice none 0 0] (0, 0) _ rfl (three_blocks w _ _ _).2.1 Tryz.underlying24 rfl size24) rfl ⟨.slice none 0 0, rfl, World.ownsRow_nil _ _ _ _, (((Keeps.refl _ w).alloc _).alloc _).alloc _⟩
      · have hK : kdn t.kind = 14 := hnum.symm
        rw [hK]
        subst hsh
        clear hnum hK
        clear HR HL
        go_wp2
        exact bodyPost_ret (results_cell_row rfl _ _ (w.heap.size + 1) 24 #[.int .i64 14, .string t.a, .string ⟨#[]⟩, .int .i64 0, .int .i64 0, .int .i64 0, .slice none 0 0] (0, 0) _ rfl (three_blocks w _ _ _).2.1 Tryz.underlying24 rfl size24) rfl ⟨.slice none 0 0, rfl, World.ownsRow_nil _ _ _ _, (((Keeps.refl _ w).alloc _).alloc _).alloc _⟩
      · have hK : kdn t.kind = 15 := hnum.symm
        rw [hK]
        subst hsh
        clear hnum hK
        clear HR HL
        go_wp2
        exact bodyPost_ret (results_cell_row rfl _ _ (w.heap.size + 1) 24 #[.int .i64 15, .string ⟨#[]⟩, .string ⟨#[]⟩, .int .i64 0, .int .i64 0, .int .i64 0, .slice none 0 0] (0, 0) _ rfl (three_blocks w _ _ _).2.1 Tryz.underlying24 rfl size24) rfl ⟨.slice none 0 0, rfl, World.ownsRow_nil _ _ _ _, (((Keeps.refl _ w).alloc _).alloc _).alloc _⟩
      · have hK : kdn t.kind = 16 := hnum.symm
        rw [hK]
        subst hsh
        clear hnum hK
        clear HR HL
        go_wp2
        exact bodyPost_ret (results_cell_row rfl _ _ (w.heap.size + 1) 24 #[.int .i64 16, .string ⟨#[]⟩, .string ⟨#[]⟩, .int .i64 0, .int .i64 0, .int .i64 0, .slice none 0 0] (0, 0) _ rfl (three_blocks w _ _ _).2.1 Tryz.underlying24 rfl size24) rfl ⟨.slice none 0 0, rfl, World.ownsRow_nil _ _ _ _, (((Keeps.refl _ w).alloc _).alloc _).alloc _⟩
      · have hK : kdn t.kind = 17 := hnum.symm
        rw [hK]
        subst hsh
        clear hnum hK
        clear HR HL
        go_wp2
        exact bodyPost_ret (results_cell_row rfl _ _ (w.heap.size + 1) 24 #[.int .i64 17, .string ⟨#[]⟩, .string ⟨#[]⟩, .int .i64 t.n, .int .i64 0, .int .i64 0, .slice none 0 0] (0, 0) _ rfl (three_blocks w _ _ _).2.1 Tryz.underlying24 rfl size24) rfl ⟨.slice none 0 0, rfl, World.ownsRow_nil _ _ _ _, (((Keeps.refl _ w).alloc _).alloc _).alloc _⟩
      · have hK : kdn t.kind = 18 := hnum.symm
        rw [hK]
        subst hsh
        clear hnum hK
        have HK3 := Hid.mk' ((((Keeps.refl (fun _ => False) w).alloc (.cells #[.int .i64 t.kind, .string t.a, .string t.b, .int .i64 t.n, .int .i64 t.m, .int .i64 t.k, .slice p t.l.length c] 24)).alloc (.cells #[.int .i64 0, .string ⟨#[]⟩, .string ⟨#[]⟩, .int .i64 0, .int .i64 0, .int .i64 0, .slice none 0 0] 24)).alloc (.cells #[.int .i64 18, .string ⟨#[]⟩, .string ⟨#[]⟩, .int .i64 0, .int .i64 0, .int .i64 0, .slice none 0 0] 24))
        have HB3 := Hid.mk' (three_blocks w (.cells #[.int .i64 t.kind, .string t.a, .string t.b, .int .i64 t.n, .int .i64 t.m, .int .i64 t.k, .slice p t.l.length c] 24) (.cells #[.int .i64 0, .string ⟨#[]⟩, .string ⟨#[]⟩, .int .i64 0, .int .i64 0, .int .i64 0, .slice none 0 0] 24) (.cells #[.int .i64 18, .string ⟨#[]⟩, .string ⟨#[]⟩, .int .i64 0, .int .i64 0, .int .i64 0, .slice none 0 0] 24))
        have S0 := Hid.mk' True.intro
        go_wp2_with (first
          | (clear S0; at_builtin; go_must (refine wpList_appi rfl _ _ rfl w.heap.size _ (by rfl) HK3.out.size _ t.l (by rfl) (HR.out.keep HK3.out) HL.out ?_)
             intro v2 W2 hown hk2
             obtain ⟨ra, rc, hr2, _⟩ := Row.of_own hown
             subst hr2
             have b3 := hk2.at HB3.out.2.2.1 id
             have HE := Hid.mk' (sh_end (hk2.at HB3.out.2.1 id) b3 hown (HK3.out.trans hk2))
             have c2 : W2.cell? ⟨w.heap.size + 1 + 1, 6, none⟩ = some (.slice none 0 0) := by simp only [World.cell?, b3]; rfl
             have f2 : W2.frozen? ⟨w.heap.size + 1 + 1, 6, none⟩ = false := by simp only [World.frozen?, b3]; simp
             clear hown hk2 b3
             have S1 := Hid.mk' True.intro)
          | (clear S1; refine wpList_load_row rfl 24 (.tmp 3) rfl (w.heap.size + 1 + 1) (by rfl) 24 #[.int .i64 18, .string ⟨#[]⟩, .string ⟨#[]⟩, .int .i64 0, .int .i64 0, .int .i64 0, .slice ra t.l.length rc] (0, 0) _ HE.out.1 Tryz.underlying24 rfl size24 ?_; have S2 := Hid.mk' True.intro)
          | (clear S2; refine wpList_store_row rfl 24 (.tmp 2) _ rfl (w.heap.size + 1) #[.int .i64 18, .string ⟨#[]⟩, .string ⟨#[]⟩, .int .i64 0, .int .i64 0, .int .i64 0, .slice ra t.l.length rc] (by rfl) (by rfl) 24 szero HE.out.2.1 size24 rfl (by simp [Value.oneCell']) ?_; have S3 := Hid.mk' True.intro))
        exact bodyPost_ret (results_cell_row rfl _ _ (w.heap.size + 1) 24 #[.int .i64 18, .string ⟨#[]⟩, .string ⟨#[]⟩, .int .i64 0, .int .i64 0, .int .i64 0, .slice ra t.l.length rc] (0, 0) _ rfl (setRow_heap _ _ _ _ _ _ HE.out.2.1) Tryz.underlying24 rfl size24) rfl ⟨.slice ra t.l.length rc, rfl, HE.out.2.2 _⟩
      · have hK : kdn t.kind = 19 := hnum.symm
        rw [hK]
        subst hsh
        clear hnum hK
        clear HR HL
        go_wp2
        exact bodyPost_ret (results_cell_row rfl _ _ (w.heap.size + 1) 24 #[.int .i64 19, .string ⟨#[]⟩, .string ⟨#[]⟩, .int .i64 t.n, .int .i64 t.m, .int .i64 0, .slice none 0 0] (0, 0) _ rfl (three_blocks w _ _ _).2.1 Tryz.underlying24 rfl size24) rfl ⟨.slice none 0 0, rfl, World.ownsRow_nil _ _ _ _, (((Keeps.refl _ w).alloc _).alloc _).alloc _⟩
      · have hK : kdn t.kind = 20 := hnum.symm
        rw [hK]
        subst hsh
        clear hnum hK
        clear HR HL
        go_wp2
        exact bodyPost_ret (results_cell_row rfl _ _ (w.heap.size + 1) 24 #[.int .i64 20, .string ⟨#[]⟩, .string ⟨#[]⟩, .int .i64 0, .int .i64 0, .int .i64 0, .slice none 0 0] (0, 0) _ rfl (three_blocks w _ _ _).2.1 Tryz.underlying24 rfl size24) rfl ⟨.slice none 0 0, rfl, World.ownsRow_nil _ _ _ _, (((Keeps.refl _ w).alloc _).alloc _).alloc _⟩
      · have hK : kdn t.kind = 21 := hnum.symm
        rw [hK]
        subst hsh
        clear hnum hK
        have HK3 := Hid.mk' ((((Keeps.refl (fun _ => False) w).alloc (.cells #[.int .i64 t.kind, .string t.a, .string t.b, .int .i64 t.n, .int .i64 t.m, .int .i64 t.k, .slice p t.l.length c] 24)).alloc (.cells #[.int .i64 0, .string ⟨#[]⟩, .string ⟨#[]⟩, .int .i64 0, .int .i64 0, .int .i64 0, .slice none 0 0] 24)).alloc (.cells #[.int .i64 21, .string ⟨#[]⟩, .string ⟨#[]⟩, .int .i64 t.n, .int .i64 0, .int .i64 0, .slice none 0 0] 24))
        have HB3 := Hid.mk' (three_blocks w (.cells #[.int .i64 t.kind, .string t.a, .string t.b, .int .i64 t.n, .int .i64 t.m, .int .i64 t.k, .slice p t.l.length c] 24) (.cells #[.int .i64 0, .string ⟨#[]⟩, .string ⟨#[]⟩, .int .i64 0, .int .i64 0, .int .i64 0, .slice none 0 0] 24) (.cells #[.int .i64 21, .string ⟨#[]⟩, .string ⟨#[]⟩, .int .i64 t.n, .int .i64 0, .int .i64 0, .slice none 0 0] 24))
        have S0 := Hid.mk' True.intro
        go_wp2_with (first
          | (clear S0; at_builtin; go_must (refine wpList_appi rfl _ _ rfl w.heap.size _ (by rfl) HK3.out.size _ t.l (by rfl) (HR.out.keep HK3.out) HL.out ?_)
             intro v2 W2 hown hk2
             obtain ⟨ra, rc, hr2, _⟩ := Row.of_own hown
             subst hr2
             have b3 := hk2.at HB3.out.2.2.1 id
             have HE := Hid.mk' (sh_end (hk2.at HB3.out.2.1 id) b3 hown (HK3.out.trans hk2))
             have c2 : W2.cell? ⟨w.heap.size + 1 + 1, 6, none⟩ = some (.slice none 0 0) := by simp only [World.cell?, b3]; rfl
             have f2 : W2.frozen? ⟨w.heap.size + 1 + 1, 6, none⟩ = false := by simp only [World.frozen?, b3]; simp
             clear hown hk2 b3
             have S1 := Hid.mk' True.intro)
          | (clear S1; refine wpList_load_row rfl 24 (.tmp 3) rfl (w.heap.size + 1 + 1) (by rfl) 24 #[.int .i64 21, .string ⟨#[]⟩, .string ⟨#[]⟩, .int .i64 t.n, .int .i64 0, .int .i64 0, .slice ra t.l.length rc] (0, 0) _ HE.out.1 Tryz.underlying24 rfl size24 ?_; have S2 := Hid.mk' True.intro)
          | (clear S2; refine wpList_store_row rfl 24 (.tmp 2) _ rfl (w.heap.size + 1) #[.int .i64 21, .string ⟨#[]⟩, .string ⟨#[]⟩, .int .i64 t.n, .int .i64 0, .int .i64 0, .slice ra t.l.length rc] (by rfl) (by rfl) 24 szero HE.out.2.1 size24 rfl (by simp [Value.oneCell']) ?_; have S3 := Hid.mk' True.intro))
        exact bodyPost_ret (results_cell_row rfl _ _ (w.heap.size + 1) 24 #[.int .i64 21, .string ⟨#[]⟩, .string ⟨#[]⟩, .int .i64 t.n, .int .i64 0, .int .i64 0, .slice ra t.l.length rc] (0, 0) _ rfl (setRow_heap _ _ _ _ _ _ HE.out.2.1) Tryz.underlying24 rfl size24) rfl ⟨.slice ra t.l.length rc, rfl, HE.out.2.2 _⟩
end Go.Proofs.YtdlhdompemkjfaaGreatDoor
