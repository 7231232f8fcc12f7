import Derived.Test.YtdlhdompemkjfaaGreatDoorKW7
namespace Go.Proofs.YtdlhdompemkjfaaGreatDoor
open Go.RowKit Go.Maps
set_option maxRecDepth 100000

/-! What is handed to Print and Text stays. -/
def csS (l : List Int) : St := ⟨18, ⟨#[]⟩, ⟨#[]⟩, 0, 0, 0, l⟩
theorem cs_cut {l : List Int} (hl : l.length ≤ 300) : cutF (csS l) = csS l := by
  have e : shF (csS l) = csS l := by
    unfold shF
    rw [show (csS l).kind = 18 from rfl, show kdF 18 = ⟨18, ⟨#[99, 114, 97, 115, 104]⟩, [.L]⟩ by kernel_rfl]
    rfl
  unfold cutF
  rw [e]
  unfold ctS
  have h1 : (csS l).l.take 500 = l := List.take_of_length_le (by show l.length ≤ 500; omega)
  have h2 : ctB (csS l).a = ⟨#[]⟩ := rfl
  have h3 : ctB (csS l).b = ⟨#[]⟩ := rfl
  rw [h1, h2, h3]
  rfl
theorem cs_rdb {l : List Int} (hl : l.length ≤ 300) (ho : OkI l) : Rdb (csS l) := by
  have h := st0_ok 18
  rw [← cs_cut hl]
  exact cut_rdb ⟨h.n, h.m, h.k, ho⟩
def knS (n : Int) : St := ⟨n, ⟨#[]⟩, ⟨#[]⟩, 0, 0, 0, []⟩
theorem fill4 (t : St) (v : Value) (m n : Int) : Instr.fill (fun i => some (i * 7, 7)) ((Array.range (4 * 7)).map (szero[· % 7]!)) [(0, .agg (scell t v)), (1, .agg (scell t v)), (2, .agg (scell (knS m) (.slice none 0 0))), (3, .agg (scell (knS n) (.slice none 0 0)))] = some (pcells [(t, v), (t, v), (knS m, .slice none 0 0), (knS n, .slice none 0 0)]).toArray := by kernel_rfl
theorem wpList_step4 {ops : Array Oper} {rest : List Oper} {o : Oper} {a : Act} {W : World} {Q : Exit → Act → World → Prop} (hgd : o.guard = none) (x0 x1 x2 x3 : Operand) (ho : o.op = .buildSlice 29 4 #[(0, x0), (1, x1), (2, x2), (3, x3)])
    (t : St) (v : Value) (m n : Int) (h0 : a.eval x0 = .agg (scell t v)) (h1 : a.eval x1 = .agg (scell t v)) (h2 : a.eval x2 = .agg (scell (knS m) (.slice none 0 0))) (h3 : a.eval x3 = .agg (scell (knS n) (.slice none 0 0)))
    (h : wpList Tryz.prog ops Q rest (a.put o.dst (.slice (some ⟨W.heap.size, 0, none⟩) 4 4)) (W.alloc (.cells (pcells [(t, v), (t, v), (knS m, .slice none 0 0), (knS n, .slice none 0 0)]).toArray 24))) : wpList Tryz.prog ops Q (o :: rest) a W := by
  obtain ⟨i0, hi, hz0, hz1, hz2⟩ := info_parts infoStep
  refine wpList_buildSlice hgd 29 24 4 _ ho _ i0 (.agg szero) Tryz.underlying29 hi hz0 (by rw [hz1]; decide) (by rw [hz1]; decide) ?_ h
  rw [hz1, show ((#[(0, x0), (1, x1), (2, x2), (3, x3)] : Array (Nat × Operand)).map fun (i, x) => (i, a.eval x)).toList = [(0, a.eval x0), (1, a.eval x1), (2, a.eval x2), (3, a.eval x3)] by simp, h0, h1, h2, h3]
  exact fill4 t v m n
theorem tx_two {t : St} (h : Rdb t) : mkB (txF [t, t]) = mkB (prF t) ++ ⟨#[10]⟩ ++ mkB (prF t) ++ ⟨#[10]⟩ := by
  rw [txF_all (fun x hx => by simp only [List.mem_cons, List.not_mem_nil, or_false] at hx; rcases hx with rfl | rfl <;> exact h)]
  have e : txL [t, t] = prF t ++ [10] ++ prF t ++ [10] := by simp [txL]
  rw [e]
  have hm : ∀ x y : Bs, mkB (x ++ y) = mkB x ++ mkB y := fun x y => toList_inj (by simp [ByteArray.toList_eq, mkB])
  rw [hm, hm, hm]
  rfl
theorem st4_cell {W : World} {G : Nat} {xs : List Value} {e : TypeId} {f : Nat × Nat} (hb : W.heap[G]? = some (.cells xs.toArray e f)) (j : Nat) (u : Value) (hj : xs[j]? = some u) : W.cell? ⟨G, j, none⟩ = some u := by
  simp only [World.cell?, hb]
  rw [List.getElem?_toArray]; exact hj
def four (t : St) (v : Value) : List (St × Value) := [(t, v), (t, v), (knS 74, .slice none 0 0), (knS 75, .slice none 0 0)]
theorem st4 {W : World} {G : Nat} {t : St} {v : Value} {f : Nat × Nat} (hb : W.heap[G]? = some (.cells (pcells (four t v)).toArray 24 f)) (hr : Row W v t.l.length (ints t.l)) : StR W (.slice (some ⟨G, 0, none⟩) 2 4) [(t, v), (t, v)] := by
  refine ⟨⟨_, 4, rfl, by simp, fun _ => ⟨G, 0, rfl, heap_lt hb, fun j u hj => ?_⟩⟩, fun p hp => ?_⟩
  · rw [Nat.zero_add]
    refine st4_cell hb j u ?_
    have e : pcells (four t v) = pcells [(t, v), (t, v)] ++ pcells [(knS 74, .slice none 0 0), (knS 75, .slice none 0 0)] := by simp [pcells, four]
    rw [e, List.getElem?_append_left (List.getElem?_eq_some_iff.1 hj).1]
    exact hj
  · have e : p = (t, v) := by
      simp only [List.mem_cons, List.not_mem_nil, or_false] at hp
      rcases hp with rfl | rfl <;> rfl
    rw [e]; exact hr
theorem txt4 {W : World} (hv : Vars W) {G : Nat} {t : St} {v : Value} {f : Nat × Nat} (hb : W.heap[G]? = some (.cells (pcells (four t v)).toArray 24 f)) (hr : Row W v t.l.length (ints t.l)) (h : Rdb t) (PR : ByteArray) (hp : mkB (prF t) = PR) :
    Calls Tryz.prog 12 #[.slice (some ⟨G, 0, none⟩) 2 4] W fun e w' => e = .returned (.string (PR ++ ⟨#[10]⟩ ++ PR ++ ⟨#[10]⟩)) ∧ Keeps (fun _ => False) W w' := by
  have h12 := text_any W hv _ _ (st4 hb hr) (by simp) (fun p hp => by
    have e : p = (t, v) := by
      simp only [List.mem_cons, List.not_mem_nil, or_false] at hp
      rcases hp with rfl | rfl <;> rfl
    rw [e]; exact h.ok)
  have e : mkB (txF ([(t, v), (t, v)].map (·.1))) = PR ++ ⟨#[10]⟩ ++ PR ++ ⟨#[10]⟩ := by rw [← hp]; exact tx_two h
  rw [e] at h12
  exact h12
set_option maxHeartbeats 16000000 in
theorem lent_any (w : World) (hv : Vars w) (v : Value) (l : List Int) (hr : Row w v l.length (ints l)) (hl : l.length ≤ 300) (ho : OkI l) :
    Calls Tryz.prog 17 #[v] w fun e w' => e = .returned (.bool true) ∧ Keeps (fun _ => False) w w' := by
  obtain ⟨a, c, rfl, hc, _⟩ := id hr
  have HR := Hid.mk' hr
  have HV := Hid.mk' hv
  have HRD := Hid.mk' (cs_rdb hl ho)
  obtain ⟨PR, HPR⟩ : ∃ PR, Hid (mkB (prF (csS l)) = PR) := ⟨_, rfl⟩
  clear hr hv ho
  go_enter Tryz.func17, Tryz.ntmps17
  have S0 := Hid.mk' True.intro
  go_wp2_with (first
    | (clear S0; at_builtin; go_must (refine wpList_appi rfl _ _ rfl w.heap.size w (by rfl) (Nat.le_refl _) (.slice a l.length c) l (by rfl) HR.out (by omega) ?_)
       intro v2 W2 hown2 hk2
       obtain ⟨p2, c2, hv2, _, _⟩ := id (Row.of_own hown2)
       subst hv2
       have H2 : Hid (W2.ownsRow w.heap.size 3 1 (.slice p2 l.length c2) l.length (ints l) ∧ Keeps (fun _ => False) w W2) := ⟨hown2, hk2⟩
       clear hown2 hk2
       have S1 := Hid.mk' True.intro)
    | (clear S1; at_builtin; go_must (refine wpList_app3 rfl _ _ rfl w.heap.size W2 (.slice p2 l.length c2) l [71, 72, 73] rfl _ (by rfl) (by rfl) H2.out.1 (by rfl) (by omega) H2.out.2.size ?_)
       intro g cap W3 hown3 hk3 _ _
       have H3 : Hid (W3.ownsRow w.heap.size 3 1 (.slice (some ⟨g, 0, none⟩) (l.length + 3) cap) (l.length + 3) (ints (l ++ [71, 72, 73])) ∧ Keeps (fun _ => False) w W3) := ⟨hown3, H2.out.2.then hk3 (fun k hk => Or.inr ((H2.out.1.lt k hk).1))⟩
       have hcap : l.length + 3 ≤ cap := (Row.of_own hown3).cap
       have hcap' : ((l.length : Int)) ≤ (cap : Int) := by omega
       have hcap2 : l.length ≤ cap := by omega
       have HZ : Hid (W3.ownsRow w.heap.size 3 1 (.slice (some ⟨g, 0, none⟩) l.length cap) l.length (ints l)) := by
         have h := own_take (l := l ++ [71, 72, 73]) (m := l.length) (by simpa using hown3) (by simp)
         rw [List.take_left' rfl] at h
         exact h
       clear hown3 hk3
       have S2 := Hid.mk' True.intro)
    | (clear S2; refine wpList_buildTo rfl 24 _ rfl _ rfl (scell (csS l) (.slice (some ⟨g, 0, none⟩) l.length cap)) (by kernel_rfl) ?_; have S3 := Hid.mk' True.intro)
    | (clear S3; refine wpList_alloc_st rfl rfl ?_; have S4 := Hid.mk' True.intro)
    | (clear S4; refine wpList_store_st rfl _ _ rfl (csS l) _ _ _ (by rfl) (by rfl) ?_
       have HK4 := Hid.mk' ((Keeps.refl (fun _ => False) W3).alloc (.cells (scell (csS l) (.slice (some ⟨g, 0, none⟩) l.length cap)) 24))
       have HB4 := Hid.mk' (heap_last W3 (.cells (scell (csS l) (.slice (some ⟨g, 0, none⟩) l.length cap)) 24))
       have S5 := Hid.mk' True.intro)
    | (clear S5; refine wpList_load_row rfl 24 (.tmp 4) rfl W3.heap.size (by rfl) 24 (scell (csS l) (.slice (some ⟨g, 0, none⟩) l.length cap)) (0, 0) _ HB4.out Tryz.underlying24 rfl size24 ?_; have S6 := Hid.mk' True.intro)
    | (clear S6; refine wpList_load_row rfl 24 (.tmp 4) rfl W3.heap.size (by rfl) 24 (scell (csS l) (.slice (some ⟨g, 0, none⟩) l.length cap)) (0, 0) _ HB4.out Tryz.underlying24 rfl size24 ?_; have S7 := Hid.mk' True.intro)
    | (clear S7; refine wpList_buildTo rfl 24 _ rfl _ rfl (scell (knS 74) (.slice none 0 0)) (by kernel_rfl) ?_; have S8 := Hid.mk' True.intro)
    | (clear S8; refine wpList_buildTo rfl 24 _ rfl _ rfl (scell (knS 75) (.slice none 0 0)) (by kernel_rfl) ?_; have S9 := Hid.mk' True.intro)
    | (clear S9; refine wpList_step4 rfl _ _ _ _ rfl (csS l) (.slice (some ⟨g, 0, none⟩) l.length cap) 74 75 (by rfl) (by rfl) (by rfl) (by rfl) ?_
       obtain ⟨G, hG⟩ : ∃ G, Hid (G = W3.heap.size + 1) := ⟨_, rfl⟩
       have HK5 := Hid.mk' (HK4.out.alloc (.cells (pcells (four (csS l) (.slice (some ⟨g, 0, none⟩) l.length cap))).toArray 24))
       have hb5 := heap_last (W3.alloc (.cells (scell (csS l) (.slice (some ⟨g, 0, none⟩) l.length cap)) 24)) (.cells (pcells (four (csS l) (.slice (some ⟨g, 0, none⟩) l.length cap))).toArray 24)
       rw [World.size_alloc] at hb5
       have HB5 := Hid.mk' hb5
       clear hb5
       have HB45 := Hid.mk' (((Keeps.refl (fun _ => False) (W3.alloc (.cells (scell (csS l) (.slice (some ⟨g, 0, none⟩) l.length cap)) 24))).alloc (.cells (pcells (four (csS l) (.slice (some ⟨g, 0, none⟩) l.length cap))).toArray 24)).at HB4.out id)
       have S10 := Hid.mk' True.intro)
    | (clear S10; refine wpList_load_row rfl 24 (.tmp 4) rfl W3.heap.size (by rfl) 24 (scell (csS l) (.slice (some ⟨g, 0, none⟩) l.length cap)) (0, 0) _ HB45.out Tryz.underlying24 rfl size24 ?_; have S11 := Hid.mk' True.intro)
    | (clear S11; go_at_call 9
       have h9 := print_any _ (HV.out.keep (H3.out.2.trans HK5.out)) (csS l) _ ((Row.of_own HZ.out).keep HK5.out) HRD.out.ok (wrF_le HRD.out.ok)
       rw [HPR.out] at h9
       refine h9.mono ?_
       clear h9
       rintro e w6 ⟨rfl, hk6⟩
       have HK6 := Hid.mk' hk6
       clear hk6
       have S12 := Hid.mk' True.intro)
    | (clear S12; go_at_call 12
       refine (txt4 (HV.out.keep (H3.out.2.trans (HK5.out.trans HK6.out))) (HK6.out.at HB5.out id) (((Row.of_own HZ.out).keep HK5.out).keep HK6.out) HRD.out PR HPR.out).mono ?_
       rintro e w7 ⟨rfl, hk7⟩
       have HK7 := Hid.mk' (HK6.out.trans hk7)
       clear hk7
       have S13 := Hid.mk' True.intro))
  clear S13
  go_loopw [9] (fun i wr => ∃ j : Nat, j ≤ l.length ∧ i = .int .i64 j ∧ Hid (Keeps (fun _ => False) w7 wr)) (fun i _ => l.length - (intOf i).toNat)
  case atStart => exact ⟨0, Nat.zero_le _, rfl, Keeps.refl _ _⟩
  case round =>
    obtain ⟨j, hj, rfl, HW⟩ := hrel
    have HX := Hid.mk' (HK5.out.trans (HK7.out.trans HW.out))
    by_cases h1 : j < l.length
    · have h1' : (j : Int) < (l.length : Int) := by omega
      have h1b : (j : Int) < (l.length : Int) + 3 := by omega
      have h1c : (j : Int) < ((l.length + 3 : Nat) : Int) := by omega
      obtain ⟨x, hx⟩ : ∃ x, l[j]? = some x := ⟨l[j], by simp [h1]⟩
      have q0 : wr.cell? ⟨g, j, none⟩ = some (.int .i64 x) := HX.out.cell (own_cell H3.out.1 (g := g) rfl (by rw [ints, List.map_append, List.getElem?_append_left (by simp; omega)]; simp [hx])) id
      obtain ⟨a', c', e1, _, hcell⟩ := HR.out.keep (H3.out.2.trans HX.out)
      injection e1 with e11 e12 e13
      subst e11 e13
      obtain ⟨b, o, e2, _, hc2⟩ := hcell (by omega)
      subst e2
      have q1 := hc2 j _ (ints_get hx)
      have g7 : (x != x) = false := by simp
      clear hcell hc2 hx e12
      go_wp2
      go_quiet (fail)
      go_wp2
      go_roundw
      case rel => exact ⟨j + 1, by omega, by go_num, HW.out.trans (Keeps.drewN _ _ _)⟩
      case measure => simp [intOf]; omega
    · have h1' : ¬ (j : Int) < (l.length : Int) := by omega
      have HX1 := Hid.mk' (HX.out.trans (Keeps.drewN (fun _ => False) wr 1))
      have HKK0 := HX1
      have hm1 : (l.length : Int) < (l.length : Int) + 3 := by omega
      have hm2 : (l.length : Int) + 1 < (l.length : Int) + 3 := by omega
      have hm3 : (l.length : Int) + 2 < (l.length : Int) + 3 := by omega
      have hPS : PR.size ≤ 20000 := by rw [← HPR.out, mkB_size]; exact prF_len _
      have hw1 := i64_id (x := (l.length : Int) + 1) (by omega) (by omega)
      have hw2 := i64_id (x := (l.length : Int) + 2) (by omega) (by omega)
      have hn1 : ¬ (l.length : Int) + 1 < 0 := by omega
      have hn2 : ¬ (l.length : Int) + 2 < 0 := by omega
      have hS0 : wr.cell? ⟨g, l.length, none⟩ = some (.int .i64 71) ∧ wr.cell? ⟨g, l.length + 1, none⟩ = some (.int .i64 72) ∧ wr.cell? ⟨g, l.length + 2, none⟩ = some (.int .i64 73) ∧ wr.rangeAt W3.heap.size 0 (scell (csS l) (.slice (some ⟨g, 0, none⟩) l.length cap)).toList ∧ wr.rangeAt (W3.heap.size + 1) 0 (scell (csS l) (.slice (some ⟨g, 0, none⟩) l.length cap)).toList ∧ wr.rangeAt (W3.heap.size + 1) 7 (scell (csS l) (.slice (some ⟨g, 0, none⟩) l.length cap)).toList ∧ wr.cell? ⟨(W3.heap.size + 1), 14, none⟩ = some (.int .i64 74) ∧ wr.cell? ⟨(W3.heap.size + 1), 21, none⟩ = some (.int .i64 75) := by
        have hc : ∀ j x, (l ++ [71, 72, 73])[j]? = some x → wr.cell? ⟨g, j, none⟩ = some (.int .i64 x) := fun j x hj => HX.out.cell (own_cell H3.out.1 (g := g) rfl (ints_get hj)) id
        have hb4 := (HK7.out.trans HW.out).at HB45.out id
        have hb5 := (HK7.out.trans HW.out).at HB5.out id
        have hcell : ∀ j u, (pcells (four (csS l) (.slice (some ⟨g, 0, none⟩) l.length cap)))[j]? = some u → wr.cell? ⟨(W3.heap.size + 1), j, none⟩ = some u := fun j u hj => by
          exact st4_cell hb5 j u hj
        refine ⟨hc _ _ (by simp), hc _ _ (by simp), hc _ _ (by simp), rangeAt_block hb4 (scell (csS l) (.slice (some ⟨g, 0, none⟩) l.length cap)), fun j u hj => ?_, fun j u hj => ?_, hcell 14 _ rfl, hcell 21 _ rfl⟩
        · have h := pcells_at (four (csS l) (.slice (some ⟨g, 0, none⟩) l.length cap)) 0 _ rfl j u hj
          rw [Nat.zero_mul] at h
          exact hcell _ u h
        · exact hcell _ u (pcells_at (four (csS l) (.slice (some ⟨g, 0, none⟩) l.length cap)) 1 _ rfl j u hj)
      go_upto_region 14 with (fail)
      refine wp_region_held_drew (S := fun wx => wx.cell? ⟨g, l.length, none⟩ = some (.int .i64 71) ∧ wx.cell? ⟨g, l.length + 1, none⟩ = some (.int .i64 72) ∧ wx.cell? ⟨g, l.length + 2, none⟩ = some (.int .i64 73) ∧ wx.rangeAt W3.heap.size 0 (scell (csS l) (.slice (some ⟨g, 0, none⟩) l.length cap)).toList ∧ wx.rangeAt (W3.heap.size + 1) 0 (scell (csS l) (.slice (some ⟨g, 0, none⟩) l.length cap)).toList ∧ wx.rangeAt (W3.heap.size + 1) 7 (scell (csS l) (.slice (some ⟨g, 0, none⟩) l.length cap)).toList ∧ wx.cell? ⟨(W3.heap.size + 1), 14, none⟩ = some (.int .i64 74) ∧ wx.cell? ⟨(W3.heap.size + 1), 21, none⟩ = some (.int .i64 75)) (by kernel_rfl) hS0 (fun hS => ?_)
      clear hS0
      refine takeH 0 (some 47) (.string (PR ++ ⟨#[10]⟩ ++ PR ++ ⟨#[10]⟩)) rfl rfl (by kernel_rfl) (by kernel_rfl) (by kernel_rfl) (fun _ _ _ h => h) (Or.inl ⟨by rfl, fun wx _ => by go_simp⟩) hS ?_
      try simp only [Act.put, List.setIfInBounds_toArray, List.set_cons_zero, List.set_cons_succ]
      refine takeH 1 (some 48) (.string PR) rfl rfl (by kernel_rfl) (by kernel_rfl) (by kernel_rfl) (fun _ _ _ h => h) (Or.inl ⟨by rfl, fun wx _ => by go_simp⟩) hS ?_
      try simp only [Act.put, List.setIfInBounds_toArray, List.set_cons_zero, List.set_cons_succ]
      refine takeH 2 (some 49) (.string (PR ++ ⟨#[10]⟩)) rfl rfl (by kernel_rfl) (by kernel_rfl) (by kernel_rfl) (fun _ _ _ h => h) (Or.inl ⟨by rfl, fun wx _ => by go_simp <;> omega⟩) hS ?_
      try simp only [Act.put, List.setIfInBounds_toArray, List.set_cons_zero, List.set_cons_succ]
      refine takeH 3 (some 50) (.string PR) rfl rfl (by kernel_rfl) (by kernel_rfl) (by kernel_rfl) (fun _ _ _ h => h) (Or.inl ⟨by rfl, fun wx _ => by go_simp⟩) hS ?_
      try simp only [Act.put, List.setIfInBounds_toArray, List.set_cons_zero, List.set_cons_succ]
      refine takeH 4 (some 51) (.string (PR ++ ⟨#[10]⟩ ++ PR)) rfl rfl (by kernel_rfl) (by kernel_rfl) (by kernel_rfl) (fun _ _ _ h => h) (Or.inl ⟨by rfl, fun wx _ => by go_simp <;> omega⟩) hS ?_
      try simp only [Act.put, List.setIfInBounds_toArray, List.set_cons_zero, List.set_cons_succ]
      refine takeH 5 (some 52) (.string (PR ++ ⟨#[10]⟩ ++ PR ++ ⟨#[10]⟩)) rfl rfl (by kernel_rfl) (by kernel_rfl) (by kernel_rfl) (fun _ _ _ h => h) (Or.inl ⟨by rfl, fun wx _ => by go_simp <;> omega⟩) hS ?_
      try simp only [Act.put, List.setIfInBounds_toArray, List.set_cons_zero, List.set_cons_succ]
      refine takeH 6 (some 53) (.bool true) rfl rfl (by kernel_rfl) (by kernel_rfl) (by kernel_rfl) (fun _ _ _ h => h) (Or.inl ⟨by rfl, fun wx _ => by go_simp⟩) hS ?_
      try simp only [Act.put, List.setIfInBounds_toArray, List.set_cons_zero, List.set_cons_succ]
      refine takeH 7 (some 54) (.bool true) rfl rfl (by kernel_rfl) (by kernel_rfl) (by kernel_rfl) (fun _ _ _ h => h) (Or.inl ⟨by rfl, fun wx _ => by go_simp⟩) hS ?_
      try simp only [Act.put, List.setIfInBounds_toArray, List.set_cons_zero, List.set_cons_succ]
      refine takeH 8 (some 55) (.slice (some ⟨g, 0, none⟩) (l.length + 3) cap) rfl rfl (by kernel_rfl) (by kernel_rfl) (by kernel_rfl) (fun _ _ _ h => h) (Or.inl ⟨by rfl, fun wx _ => by go_simp⟩) hS ?_
      try simp only [Act.put, List.setIfInBounds_toArray, List.set_cons_zero, List.set_cons_succ]
      refine takeH 9 (some 56) (.int .i64 (l.length : Int)) rfl rfl (by kernel_rfl) (by kernel_rfl) (by kernel_rfl) (fun _ _ _ h => h) (Or.inl ⟨by rfl, fun wx _ => by go_simp⟩) hS ?_
      try simp only [Act.put, List.setIfInBounds_toArray, List.set_cons_zero, List.set_cons_succ]
      refine takeH 10 (some 57) (.pointer (some ⟨g, l.length, none⟩)) rfl rfl (by kernel_rfl) (by kernel_rfl) (by kernel_rfl) (fun _ _ _ h => h) (Or.inl ⟨by rfl, fun wx _ => by go_simp⟩) hS ?_
      try simp only [Act.put, List.setIfInBounds_toArray, List.set_cons_zero, List.set_cons_succ]
      refine takeH 11 (some 58) (.int .i64 71) rfl rfl (by kernel_rfl) (by kernel_rfl) (by kernel_rfl) (fun _ _ _ h => h) (Or.inl ⟨by rfl, fun wx ⟨s1, _⟩ => by go_simp⟩) hS ?_
      try simp only [Act.put, List.setIfInBounds_toArray, List.set_cons_zero, List.set_cons_succ]
      refine takeH 12 (some 59) (.bool true) rfl rfl (by kernel_rfl) (by kernel_rfl) (by kernel_rfl) (fun _ _ _ h => h) (Or.inl ⟨by rfl, fun wx _ => by go_simp⟩) hS ?_
      try simp only [Act.put, List.setIfInBounds_toArray, List.set_cons_zero, List.set_cons_succ]
      refine takeH 13 (some 60) (.bool true) rfl rfl (by kernel_rfl) (by kernel_rfl) (by kernel_rfl) (fun _ _ _ h => h) (Or.inl ⟨by rfl, fun wx _ => by go_simp⟩) hS ?_
      try simp only [Act.put, List.setIfInBounds_toArray, List.set_cons_zero, List.set_cons_succ]
      refine takeH 14 (some 61) (.bool true) rfl rfl (by kernel_rfl) (by kernel_rfl) (by kernel_rfl) (fun _ _ _ h => h) (Or.inl ⟨by rfl, fun wx _ => by go_simp⟩) hS ?_
      try simp only [Act.put, List.setIfInBounds_toArray, List.set_cons_zero, List.set_cons_succ]
      refine takeH 15 (some 62) (.slice (some ⟨g, 0, none⟩) (l.length + 3) cap) rfl rfl (by kernel_rfl) (by kernel_rfl) (by kernel_rfl) (fun _ _ _ h => h) (Or.inl ⟨by rfl, fun wx _ => by go_simp⟩) hS ?_
      try simp only [Act.put, List.setIfInBounds_toArray, List.set_cons_zero, List.set_cons_succ]
      refine takeH 16 (some 63) (.int .i64 (l.length : Int)) rfl rfl (by kernel_rfl) (by kernel_rfl) (by kernel_rfl) (fun _ _ _ h => h) (Or.inl ⟨by rfl, fun wx _ => by go_simp⟩) hS ?_
      try simp only [Act.put, List.setIfInBounds_toArray, List.set_cons_zero, List.set_cons_succ]
      refine takeH 17 (some 64) (.int .i64 ((l.length : Int) + 1)) rfl rfl (by kernel_rfl) (by kernel_rfl) (by kernel_rfl) (fun _ _ _ h => h) (Or.inl ⟨by rfl, fun wx _ => by go_simp⟩) hS ?_
      try simp only [Act.put, List.setIfInBounds_toArray, List.set_cons_zero, List.set_cons_succ]
      refine takeH 18 (some 65) (.pointer (some ⟨g, l.length + 1, none⟩)) rfl rfl (by kernel_rfl) (by kernel_rfl) (by kernel_rfl) (fun _ _ _ h => h) (Or.inl ⟨by rfl, fun wx _ => by go_simp⟩) hS ?_
      try simp only [Act.put, List.setIfInBounds_toArray, List.set_cons_zero, List.set_cons_succ]
      refine takeH 19 (some 66) (.int .i64 72) rfl rfl (by kernel_rfl) (by kernel_rfl) (by kernel_rfl) (fun _ _ _ h => h) (Or.inl ⟨by rfl, fun wx ⟨_, s1, _⟩ => by go_simp⟩) hS ?_
      try simp only [Act.put, List.setIfInBounds_toArray, List.set_cons_zero, List.set_cons_succ]
      refine takeH 20 (some 67) (.bool true) rfl rfl (by kernel_rfl) (by kernel_rfl) (by kernel_rfl) (fun _ _ _ h => h) (Or.inl ⟨by rfl, fun wx _ => by go_simp⟩) hS ?_
      try simp only [Act.put, List.setIfInBounds_toArray, List.set_cons_zero, List.set_cons_succ]
      refine takeH 21 (some 68) (.bool true) rfl rfl (by kernel_rfl) (by kernel_rfl) (by kernel_rfl) (fun _ _ _ h => h) (Or.inl ⟨by rfl, fun wx _ => by go_simp⟩) hS ?_
      try simp only [Act.put, List.setIfInBounds_toArray, List.set_cons_zero, List.set_cons_succ]
      refine takeH 22 (some 69) (.bool true) rfl rfl (by kernel_rfl) (by kernel_rfl) (by kernel_rfl) (fun _ _ _ h => h) (Or.inl ⟨by rfl, fun wx _ => by go_simp⟩) hS ?_
      try simp only [Act.put, List.setIfInBounds_toArray, List.set_cons_zero, List.set_cons_succ]
      refine takeH 23 (some 70) (.slice (some ⟨g, 0, none⟩) (l.length + 3) cap) rfl rfl (by kernel_rfl) (by kernel_rfl) (by kernel_rfl) (fun _ _ _ h => h) (Or.inl ⟨by rfl, fun wx _ => by go_simp⟩) hS ?_
      try simp only [Act.put, List.setIfInBounds_toArray, List.set_cons_zero, List.set_cons_succ]
      refine takeH 24 (some 71) (.int .i64 (l.length : Int)) rfl rfl (by kernel_rfl) (by kernel_rfl) (by kernel_rfl) (fun _ _ _ h => h) (Or.inl ⟨by rfl, fun wx _ => by go_simp⟩) hS ?_
      try simp only [Act.put, List.setIfInBounds_toArray, List.set_cons_zero, List.set_cons_succ]
      refine takeH 25 (some 72) (.int .i64 ((l.length : Int) + 2)) rfl rfl (by kernel_rfl) (by kernel_rfl) (by kernel_rfl) (fun _ _ _ h => h) (Or.inl ⟨by rfl, fun wx _ => by go_simp⟩) hS ?_
      try simp only [Act.put, List.setIfInBounds_toArray, List.set_cons_zero, List.set_cons_succ]
      refine takeH 26 (some 73) (.pointer (some ⟨g, l.length + 2, none⟩)) rfl rfl (by kernel_rfl) (by kernel_rfl) (by kernel_rfl) (fun _ _ _ h => h) (Or.inl ⟨by rfl, fun wx _ => by go_simp <;> rw [if_pos (by omega), show ((l.length : Int) + 2).toNat = l.length + 2 by omega]⟩) hS ?_
      try simp only [Act.put, List.setIfInBounds_toArray, List.set_cons_zero, List.set_cons_succ]
      refine takeH 27 (some 74) (.int .i64 73) rfl rfl (by kernel_rfl) (by kernel_rfl) (by kernel_rfl) (fun _ _ _ h => h) (Or.inl ⟨by rfl, fun wx ⟨_, _, s1, _⟩ => by go_simp⟩) hS ?_
      try simp only [Act.put, List.setIfInBounds_toArray, List.set_cons_zero, List.set_cons_succ]
      refine takeH 28 (some 75) (.bool true) rfl rfl (by kernel_rfl) (by kernel_rfl) (by kernel_rfl) (fun _ _ _ h => h) (Or.inl ⟨by rfl, fun wx _ => by go_simp⟩) hS ?_
      try simp only [Act.put, List.setIfInBounds_toArray, List.set_cons_zero, List.set_cons_succ]
      refine takeH 29 (some 76) (.bool true) rfl rfl (by kernel_rfl) (by kernel_rfl) (by kernel_rfl) (fun _ _ _ h => h) (Or.inl ⟨by rfl, fun wx _ => by go_simp⟩) hS ?_
      try simp only [Act.put, List.setIfInBounds_toArray, List.set_cons_zero, List.set_cons_succ]
      refine takeH 30 (some 77) (.bool true) rfl rfl (by kernel_rfl) (by kernel_rfl) (by kernel_rfl) (fun _ _ _ h => h) (Or.inl ⟨by rfl, fun wx _ => by go_simp⟩) hS ?_
      try simp only [Act.put, List.setIfInBounds_toArray, List.set_cons_zero, List.set_cons_succ]
      refine takeH 31 (some 78) (.slice (some ⟨(W3.heap.size + 1), 0, none⟩) 4 4) rfl rfl (by kernel_rfl) (by kernel_rfl) (by kernel_rfl) (fun _ _ _ h => h) (Or.inl ⟨by rfl, fun wx _ => by go_simp⟩) hS ?_
      try simp only [Act.put, List.setIfInBounds_toArray, List.set_cons_zero, List.set_cons_succ]
      refine takeH 32 (some 79) (.pointer (some ⟨(W3.heap.size + 1), 0, none⟩)) rfl rfl (by kernel_rfl) (by kernel_rfl) (by kernel_rfl) (fun _ _ _ h => h) (Or.inl ⟨by rfl, fun wx _ => by go_simp⟩) hS ?_
      try simp only [Act.put, List.setIfInBounds_toArray, List.set_cons_zero, List.set_cons_succ]
      refine takeH 33 (some 80) (.agg (scell (csS l) (.slice (some ⟨g, 0, none⟩) l.length cap))) rfl rfl (by kernel_rfl) (by kernel_rfl) (by kernel_rfl) (fun _ _ _ h => h) (yieldsIf_load_mid (by rfl) 24 (.tmp 79) rfl (W3.heap.size + 1) 0 (by rfl) (scell (csS l) (.slice (some ⟨g, 0, none⟩) l.length cap)).toList _ (fun _ h => h.2.2.2.2.1) Tryz.underlying24 rfl size24) hS ?_
      try simp only [Act.put, List.setIfInBounds_toArray, List.set_cons_zero, List.set_cons_succ]
      refine takeH 34 (some 81) (.agg (scell (csS l) (.slice (some ⟨g, 0, none⟩) l.length cap))) rfl rfl (by kernel_rfl) (by kernel_rfl) (by kernel_rfl) (fun _ _ _ h => h) (yieldsIf_load_mid (by rfl) 24 (.tmp 4) rfl W3.heap.size 0 (by rfl) (scell (csS l) (.slice (some ⟨g, 0, none⟩) l.length cap)).toList _ (fun _ h => h.2.2.2.1) Tryz.underlying24 rfl size24) hS ?_
      try simp only [Act.put, List.setIfInBounds_toArray, List.set_cons_zero, List.set_cons_succ]
      refine wpAnyH_ready (rs := [35]) (by kernel_rfl) (by simp) (AllReadyH.cons rfl (fun K hK => ?_) AllReadyH.nil)
      go_simp
      go_at_call 10
      refine (lsame_any _ (csS l) (csS l) _ _ ((Row.of_own HZ.out).keep HKK0.out) ((Row.of_own HZ.out).keep HKK0.out) (by show l.length ≤ _; omega)).mono ?_
      rintro e w1 ⟨rfl, hk8⟩
      rw [smF_refl]
      have HKK1 := Hid.mk' (HKK0.out.trans hk8)
      refine hK.out _ _ (⟨hk8.cell hS.1 id, hk8.cell hS.2.1 id, hk8.cell hS.2.2.1 id, fun j u hj => hk8.cell (hS.2.2.2.1 j u hj) id, fun j u hj => hk8.cell (hS.2.2.2.2.1 j u hj) id, fun j u hj => hk8.cell (hS.2.2.2.2.2.1 j u hj) id, hk8.cell hS.2.2.2.2.2.2.1 id, hk8.cell hS.2.2.2.2.2.2.2 id⟩) (fun hS => ?_)
      clear hK
      try simp only [Act.put, List.setIfInBounds_toArray, List.set_cons_zero, List.set_cons_succ]
      clear hk8
      refine takeH 36 (some 83) (.bool true) rfl rfl (by kernel_rfl) (by kernel_rfl) (by kernel_rfl) (fun _ _ _ h => h) (Or.inl ⟨by rfl, fun wx _ => by go_simp⟩) hS ?_
      try simp only [Act.put, List.setIfInBounds_toArray, List.set_cons_zero, List.set_cons_succ]
      refine takeH 37 (some 84) (.bool true) rfl rfl (by kernel_rfl) (by kernel_rfl) (by kernel_rfl) (fun _ _ _ h => h) (Or.inl ⟨by rfl, fun wx _ => by go_simp⟩) hS ?_
      try simp only [Act.put, List.setIfInBounds_toArray, List.set_cons_zero, List.set_cons_succ]
      refine takeH 38 (some 85) (.slice (some ⟨(W3.heap.size + 1), 0, none⟩) 4 4) rfl rfl (by kernel_rfl) (by kernel_rfl) (by kernel_rfl) (fun _ _ _ h => h) (Or.inl ⟨by rfl, fun wx _ => by go_simp⟩) hS ?_
      try simp only [Act.put, List.setIfInBounds_toArray, List.set_cons_zero, List.set_cons_succ]
      refine takeH 39 (some 86) (.pointer (some ⟨(W3.heap.size + 1), 7, none⟩)) rfl rfl (by kernel_rfl) (by kernel_rfl) (by kernel_rfl) (fun _ _ _ h => h) (Or.inl ⟨by rfl, fun wx _ => by go_simp⟩) hS ?_
      try simp only [Act.put, List.setIfInBounds_toArray, List.set_cons_zero, List.set_cons_succ]
      refine takeH 40 (some 87) (.agg (scell (csS l) (.slice (some ⟨g, 0, none⟩) l.length cap))) rfl rfl (by kernel_rfl) (by kernel_rfl) (by kernel_rfl) (fun _ _ _ h => h) (yieldsIf_load_mid (by rfl) 24 (.tmp 86) rfl (W3.heap.size + 1) 7 (by rfl) (scell (csS l) (.slice (some ⟨g, 0, none⟩) l.length cap)).toList _ (fun _ h => h.2.2.2.2.2.1) Tryz.underlying24 rfl size24) hS ?_
      try simp only [Act.put, List.setIfInBounds_toArray, List.set_cons_zero, List.set_cons_succ]
      refine takeH 41 (some 88) (.agg (scell (csS l) (.slice (some ⟨g, 0, none⟩) l.length cap))) rfl rfl (by kernel_rfl) (by kernel_rfl) (by kernel_rfl) (fun _ _ _ h => h) (yieldsIf_load_mid (by rfl) 24 (.tmp 4) rfl W3.heap.size 0 (by rfl) (scell (csS l) (.slice (some ⟨g, 0, none⟩) l.length cap)).toList _ (fun _ h => h.2.2.2.1) Tryz.underlying24 rfl size24) hS ?_
      try simp only [Act.put, List.setIfInBounds_toArray, List.set_cons_zero, List.set_cons_succ]
      refine wpAnyH_ready (rs := [42]) (by kernel_rfl) (by simp) (AllReadyH.cons rfl (fun K hK => ?_) AllReadyH.nil)
      go_simp
      go_at_call 10
      refine (lsame_any _ (csS l) (csS l) _ _ ((Row.of_own HZ.out).keep HKK1.out) ((Row.of_own HZ.out).keep HKK1.out) (by show l.length ≤ _; omega)).mono ?_
      rintro e w2 ⟨rfl, hk8⟩
      rw [smF_refl]
      have HKK2 := Hid.mk' (HKK1.out.trans hk8)
      refine hK.out _ _ (⟨hk8.cell hS.1 id, hk8.cell hS.2.1 id, hk8.cell hS.2.2.1 id, fun j u hj => hk8.cell (hS.2.2.2.1 j u hj) id, fun j u hj => hk8.cell (hS.2.2.2.2.1 j u hj) id, fun j u hj => hk8.cell (hS.2.2.2.2.2.1 j u hj) id, hk8.cell hS.2.2.2.2.2.2.1 id, hk8.cell hS.2.2.2.2.2.2.2 id⟩) (fun hS => ?_)
      clear hK
      try simp only [Act.put, List.setIfInBounds_toArray, List.set_cons_zero, List.set_cons_succ]
      clear hk8
      refine takeH 43 (some 90) (.bool true) rfl rfl (by kernel_rfl) (by kernel_rfl) (by kernel_rfl) (fun _ _ _ h => h) (Or.inl ⟨by rfl, fun wx _ => by go_simp⟩) hS ?_
      try simp only [Act.put, List.setIfInBounds_toArray, List.set_cons_zero, List.set_cons_succ]
      refine takeH 44 (some 91) (.bool true) rfl rfl (by kernel_rfl) (by kernel_rfl) (by kernel_rfl) (fun _ _ _ h => h) (Or.inl ⟨by rfl, fun wx _ => by go_simp⟩) hS ?_
      try simp only [Act.put, List.setIfInBounds_toArray, List.set_cons_zero, List.set_cons_succ]
      refine takeH 45 (some 92) (.slice (some ⟨(W3.heap.size + 1), 0, none⟩) 4 4) rfl rfl (by kernel_rfl) (by kernel_rfl) (by kernel_rfl) (fun _ _ _ h => h) (Or.inl ⟨by rfl, fun wx _ => by go_simp⟩) hS ?_
      try simp only [Act.put, List.setIfInBounds_toArray, List.set_cons_zero, List.set_cons_succ]
      refine takeH 46 (some 93) (.pointer (some ⟨(W3.heap.size + 1), 14, none⟩)) rfl rfl (by kernel_rfl) (by kernel_rfl) (by kernel_rfl) (fun _ _ _ h => h) (Or.inl ⟨by rfl, fun wx _ => by go_simp⟩) hS ?_
      try simp only [Act.put, List.setIfInBounds_toArray, List.set_cons_zero, List.set_cons_succ]
      refine takeH 47 (some 94) (.pointer (some ⟨(W3.heap.size + 1), 14, none⟩)) rfl rfl (by kernel_rfl) (by kernel_rfl) (by kernel_rfl) (fun _ _ _ h => h) (Or.inl ⟨by rfl, fun wx _ => by go_simp⟩) hS ?_
      try simp only [Act.put, List.setIfInBounds_toArray, List.set_cons_zero, List.set_cons_succ]
      refine takeH 48 (some 95) (.int .i64 74) rfl rfl (by kernel_rfl) (by kernel_rfl) (by kernel_rfl) (fun _ _ _ h => h) (Or.inl ⟨by rfl, fun wx ⟨_, _, _, _, _, _, s1, _⟩ => by go_simp⟩) hS ?_
      try simp only [Act.put, List.setIfInBounds_toArray, List.set_cons_zero, List.set_cons_succ]
      refine takeH 49 (some 96) (.bool true) rfl rfl (by kernel_rfl) (by kernel_rfl) (by kernel_rfl) (fun _ _ _ h => h) (Or.inl ⟨by rfl, fun wx _ => by go_simp⟩) hS ?_
      try simp only [Act.put, List.setIfInBounds_toArray, List.set_cons_zero, List.set_cons_succ]
      refine takeH 50 (some 97) (.bool true) rfl rfl (by kernel_rfl) (by kernel_rfl) (by kernel_rfl) (fun _ _ _ h => h) (Or.inl ⟨by rfl, fun wx _ => by go_simp⟩) hS ?_
      try simp only [Act.put, List.setIfInBounds_toArray, List.set_cons_zero, List.set_cons_succ]
      refine takeH 51 (some 98) (.bool true) rfl rfl (by kernel_rfl) (by kernel_rfl) (by kernel_rfl) (fun _ _ _ h => h) (Or.inl ⟨by rfl, fun wx _ => by go_simp⟩) hS ?_
      try simp only [Act.put, List.setIfInBounds_toArray, List.set_cons_zero, List.set_cons_succ]
      refine takeH 52 (some 99) (.slice (some ⟨(W3.heap.size + 1), 0, none⟩) 4 4) rfl rfl (by kernel_rfl) (by kernel_rfl) (by kernel_rfl) (fun _ _ _ h => h) (Or.inl ⟨by rfl, fun wx _ => by go_simp⟩) hS ?_
      try simp only [Act.put, List.setIfInBounds_toArray, List.set_cons_zero, List.set_cons_succ]
      refine takeH 53 (some 100) (.pointer (some ⟨(W3.heap.size + 1), 21, none⟩)) rfl rfl (by kernel_rfl) (by kernel_rfl) (by kernel_rfl) (fun _ _ _ h => h) (Or.inl ⟨by rfl, fun wx _ => by go_simp⟩) hS ?_
      try simp only [Act.put, List.setIfInBounds_toArray, List.set_cons_zero, List.set_cons_succ]
      refine takeH 54 (some 101) (.pointer (some ⟨(W3.heap.size + 1), 21, none⟩)) rfl rfl (by kernel_rfl) (by kernel_rfl) (by kernel_rfl) (fun _ _ _ h => h) (Or.inl ⟨by rfl, fun wx _ => by go_simp⟩) hS ?_
      try simp only [Act.put, List.setIfInBounds_toArray, List.set_cons_zero, List.set_cons_succ]
      refine takeH 55 (some 102) (.int .i64 75) rfl rfl (by kernel_rfl) (by kernel_rfl) (by kernel_rfl) (fun _ _ _ h => h) (Or.inl ⟨by rfl, fun wx ⟨_, _, _, _, _, _, _, s1⟩ => by go_simp⟩) hS ?_
      try simp only [Act.put, List.setIfInBounds_toArray, List.set_cons_zero, List.set_cons_succ]
      refine takeH 56 (some 103) (.bool true) rfl rfl (by kernel_rfl) (by kernel_rfl) (by kernel_rfl) (fun _ _ _ h => h) (Or.inl ⟨by rfl, fun wx _ => by go_simp⟩) hS ?_
      try simp only [Act.put, List.setIfInBounds_toArray, List.set_cons_zero, List.set_cons_succ]
      refine takeH 57 (some 104) (.bool true) rfl rfl (by kernel_rfl) (by kernel_rfl) (by kernel_rfl) (fun _ _ _ h => h) (Or.inl ⟨by rfl, fun wx _ => by go_simp⟩) hS ?_
      try simp only [Act.put, List.setIfInBounds_toArray, List.set_cons_zero, List.set_cons_succ]
      refine takeH 58 (some 2) (.bool true) rfl rfl (by kernel_rfl) (by kernel_rfl) (by kernel_rfl) (fun _ _ _ h => h) (Or.inl ⟨by rfl, fun wx _ => by go_simp⟩) hS ?_
      try simp only [Act.put]
      refine wpAnyH_done (by kernel_rfl) ?_ _
      clear hS
      go_wp2
      go_ret
      exact ⟨rfl, H3.out.2.trans HKK2.out⟩
end Go.Proofs.YtdlhdompemkjfaaGreatDoor
