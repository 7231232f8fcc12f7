import Derived.Test.YtpgabmfpffaajaaDoorK13
namespace Go.Proofs.YtpgabmfpffaajaaDoor
open Go.RowKit Go.Maps
set_option maxRecDepth 100000

/-! The program's words. -/
theorem SR.one {w W : World} (k : Keeps (fun _ => False) w W) (x : ByteArray) : SR w (W.alloc (.cells #[.string x] 9)) (.slice (some ⟨W.heap.size, 0, none⟩) 1 1) [x] :=
  ⟨World.ownsRow_lit W #[.string x] 1 k.size (by decide) rfl, k.alloc _⟩
theorem fill_s1 (x0 : ByteArray) : Instr.fill (fun i => some (i * 1, 1)) ((Array.range (1 * 1)).map ((Value.string ⟨#[]⟩).cells[· % (Value.string ⟨#[]⟩).cells.size]!)) [(0, .string x0)] = some (strs [x0]).toArray := by kernel_rfl
theorem wp_bs1 {o : Oper} {a : Act} {W : World} {K : Act → World → Prop} {Q : Exit → Act → World → Prop} (p0 : Operand) (ho : o.op = .buildSlice 41 1 #[(0, p0)]) (x0 : ByteArray) (h0 : a.eval p0 = .string x0)
    (h : K (a.put o.dst (.slice (some ⟨W.heap.size, 0, none⟩) 1 1)) (W.alloc (.cells (strs [x0]).toArray 9))) : o.wp Tryd.prog a W K Q := by
  obtain ⟨i0, hi, hz0, hz1, hz2⟩ := info_parts info9
  refine wp_buildSlice 41 9 1 _ ho (strs [x0]).toArray i0 (.string ⟨#[]⟩) Tryd.underlying41 hi hz0 (by rw [hz1]; decide) (by rw [hz1]; decide) ?_ h
  rw [hz1, show ((#[(0, p0)] : Array (Nat × Operand)).map fun (i, x) => (i, a.eval x)).toList = [(0, a.eval p0)] by simp, h0]
  exact fill_s1 x0
theorem fill_s2 (x0 x1 : ByteArray) : Instr.fill (fun i => some (i * 1, 1)) ((Array.range (2 * 1)).map ((Value.string ⟨#[]⟩).cells[· % (Value.string ⟨#[]⟩).cells.size]!)) [(0, .string x0), (1, .string x1)] = some (strs [x0, x1]).toArray := by kernel_rfl
theorem wp_bs2 {o : Oper} {a : Act} {W : World} {K : Act → World → Prop} {Q : Exit → Act → World → Prop} (p0 p1 : Operand) (ho : o.op = .buildSlice 41 2 #[(0, p0), (1, p1)]) (x0 x1 : ByteArray) (h0 : a.eval p0 = .string x0) (h1 : a.eval p1 = .string x1)
    (h : K (a.put o.dst (.slice (some ⟨W.heap.size, 0, none⟩) 2 2)) (W.alloc (.cells (strs [x0, x1]).toArray 9))) : o.wp Tryd.prog a W K Q := by
  obtain ⟨i0, hi, hz0, hz1, hz2⟩ := info_parts info9
  refine wp_buildSlice 41 9 2 _ ho (strs [x0, x1]).toArray i0 (.string ⟨#[]⟩) Tryd.underlying41 hi hz0 (by rw [hz1]; decide) (by rw [hz1]; decide) ?_ h
  rw [hz1, show ((#[(0, p0), (1, p1)] : Array (Nat × Operand)).map fun (i, x) => (i, a.eval x)).toList = [(0, a.eval p0), (1, a.eval p1)] by simp, h0, h1]
  exact fill_s2 x0 x1
theorem fill_s4 (x0 x1 x2 x3 : ByteArray) : Instr.fill (fun i => some (i * 1, 1)) ((Array.range (4 * 1)).map ((Value.string ⟨#[]⟩).cells[· % (Value.string ⟨#[]⟩).cells.size]!)) [(0, .string x0), (1, .string x1), (2, .string x2), (3, .string x3)] = some (strs [x0, x1, x2, x3]).toArray := by kernel_rfl
theorem wp_bs4 {o : Oper} {a : Act} {W : World} {K : Act → World → Prop} {Q : Exit → Act → World → Prop} (p0 p1 p2 p3 : Operand) (ho : o.op = .buildSlice 41 4 #[(0, p0), (1, p1), (2, p2), (3, p3)]) (x0 x1 x2 x3 : ByteArray) (h0 : a.eval p0 = .string x0) (h1 : a.eval p1 = .string x1) (h2 : a.eval p2 = .string x2) (h3 : a.eval p3 = .string x3)
    (h : K (a.put o.dst (.slice (some ⟨W.heap.size, 0, none⟩) 4 4)) (W.alloc (.cells (strs [x0, x1, x2, x3]).toArray 9))) : o.wp Tryd.prog a W K Q := by
  obtain ⟨i0, hi, hz0, hz1, hz2⟩ := info_parts info9
  refine wp_buildSlice 41 9 4 _ ho (strs [x0, x1, x2, x3]).toArray i0 (.string ⟨#[]⟩) Tryd.underlying41 hi hz0 (by rw [hz1]; decide) (by rw [hz1]; decide) ?_ h
  rw [hz1, show ((#[(0, p0), (1, p1), (2, p2), (3, p3)] : Array (Nat × Operand)).map fun (i, x) => (i, a.eval x)).toList = [(0, a.eval p0), (1, a.eval p1), (2, a.eval p2), (3, a.eval p3)] by simp, h0, h1, h2, h3]
  exact fill_s4 x0 x1 x2 x3
theorem fill_s12 (x0 x1 x2 x3 x4 x5 x6 x7 x8 x9 x10 x11 : ByteArray) : Instr.fill (fun i => some (i * 1, 1)) ((Array.range (12 * 1)).map ((Value.string ⟨#[]⟩).cells[· % (Value.string ⟨#[]⟩).cells.size]!)) [(0, .string x0), (1, .string x1), (2, .string x2), (3, .string x3), (4, .string x4), (5, .string x5), (6, .string x6), (7, .string x7), (8, .string x8), (9, .string x9), (10, .string x10), (11, .string x11)] = some (strs [x0, x1, x2, x3, x4, x5, x6, x7, x8, x9, x10, x11]).toArray := by kernel_rfl
theorem wp_bs12 {o : Oper} {a : Act} {W : World} {K : Act → World → Prop} {Q : Exit → Act → World → Prop} (p0 p1 p2 p3 p4 p5 p6 p7 p8 p9 p10 p11 : Operand) (ho : o.op = .buildSlice 41 12 #[(0, p0), (1, p1), (2, p2), (3, p3), (4, p4), (5, p5), (6, p6), (7, p7), (8, p8), (9, p9), (10, p10), (11, p11)]) (x0 x1 x2 x3 x4 x5 x6 x7 x8 x9 x10 x11 : ByteArray) (h0 : a.eval p0 = .string x0) (h1 : a.eval p1 = .string x1) (h2 : a.eval p2 = .string x2) (h3 : a.eval p3 = .string x3) (h4 : a.eval p4 = .string x4) (h5 : a.eval p5 = .string x5) (h6 : a.eval p6 = .string x6) (h7 : a.eval p7 = .string x7) (h8 : a.eval p8 = .string x8) (h9 : a.eval p9 = .string x9) (h10 : a.eval p10 = .string x10) (h11 : a.eval p11 = .string x11)
    (h : K (a.put o.dst (.slice (some ⟨W.heap.size, 0, none⟩) 12 12)) (W.alloc (.cells (strs [x0, x1, x2, x3, x4, x5, x6, x7, x8, x9, x10, x11]).toArray 9))) : o.wp Tryd.prog a W K Q := by
  obtain ⟨i0, hi, hz0, hz1, hz2⟩ := info_parts info9
  refine wp_buildSlice 41 9 12 _ ho (strs [x0, x1, x2, x3, x4, x5, x6, x7, x8, x9, x10, x11]).toArray i0 (.string ⟨#[]⟩) Tryd.underlying41 hi hz0 (by rw [hz1]; decide) (by rw [hz1]; decide) ?_ h
  rw [hz1, show ((#[(0, p0), (1, p1), (2, p2), (3, p3), (4, p4), (5, p5), (6, p6), (7, p7), (8, p8), (9, p9), (10, p10), (11, p11)] : Array (Nat × Operand)).map fun (i, x) => (i, a.eval x)).toList = [(0, a.eval p0), (1, a.eval p1), (2, a.eval p2), (3, a.eval p3), (4, a.eval p4), (5, a.eval p5), (6, a.eval p6), (7, a.eval p7), (8, a.eval p8), (9, a.eval p9), (10, a.eval p10), (11, a.eval p11)] by simp, h0, h1, h2, h3, h4, h5, h6, h7, h8, h9, h10, h11]
  exact fill_s12 x0 x1 x2 x3 x4 x5 x6 x7 x8 x9 x10 x11
theorem wp_appn {o : Oper} {a : Act} {K : Act → World → Prop} {Q : Exit → Act → World → Prop} (s x : Operand)
    (ho : o.op = .call { callee := .builtin .append, args := #[s, x], argTypes := #[41, 41] }) (w W : World) (v : Value) (l : List ByteArray) (hs : a.eval s = v) (h : SR w W v l) (m : List ByteArray) (n : Nat) (hn : n = m.length)
    (hx : a.eval x = .slice (some ⟨W.heap.size, 0, none⟩) n n) (hl : l.length + m.length ≤ 1000000000)
    (KK : ∀ v' W', SR w W' v' (l ++ m) → Keeps (fun k => v.ownBlock = some k) (W.alloc (.cells (strs m).toArray 9)) W' → K (a.put o.dst v') W') : Oper.wp Tryd.prog o a (W.alloc (.cells (strs m).toArray 9)) K Q := by
  subst hn
  obtain ⟨i0, hi, hz0, hz1, hz2⟩ := info_parts info9
  obtain ⟨v', W', hr, hown, hgr, _, _⟩ := run_append_own_at (P := Tryd.prog) (W.alloc (.cells (strs m).toArray 9)) w.heap.size 41 o.type 9 i0 (.string ⟨#[]⟩) 1 16 Tryd.underlying41 hi hz0 hz1 hz2 rfl (by decide) v l.length (strs l) (h.1.alloc _) ⟨W.heap.size, 0, none⟩ m.length m.length (strs m) (by rw [strs_len, Nat.mul_one]) (fun j u hj => by
    rw [addr_add, Nat.zero_add]
    exact new_cell W _ 9 j u (by rw [List.getElem?_toArray]; exact hj)) (strs_one m) (by unfold maxLen; omega) (by omega) (by rw [World.size_alloc]; have := h.2.size; omega)
  unfold Oper.wp execOp
  simp only [ho, resolve, invoke, builtin, Sem.run_bind, Sem.run_pure, Result.andThen_ok, List.map_toArray, List.map_cons, List.map_nil, hs, hx, hr]
  refine KK v' W' ⟨?_, ?_⟩ (Keeps.of hgr (fun k hk => Or.inl hk))
  · have e : strs (l ++ m) = strs l ++ strs m := by simp [strs]
    rw [e, List.length_append]; exact hown
  · exact (h.2.alloc _).step hgr (fun k hk => Or.inr ((h.1.lt k hk).1))
theorem take_map {α β : Type} (f : α → β) {l : List α} {k : Nat} {a : α} (h : l[k]? = some a) : (l.take (k + 1)).map f = (l.take k).map f ++ [f a] := by
  rw [List.take_add_one, h, List.map_append]
  rfl
set_option maxHeartbeats 4000000 in
theorem pageWords_any (w : World) (hv : Tab w) (v : Value) (l : List Int) (hr : Row w v l.length (ints l)) (hl : l.length ≤ 2000000) (ho : ∀ n ∈ l, In64 n) :
    Calls Tryd.prog 20 #[v] w fun e w' => ∃ v', e = .returned v' ∧ Hid (SR w w' v' (l.map iB)) := by
  obtain ⟨p, c, rfl, hc, _⟩ := id hr
  have HR := Hid.mk' hr
  have HT := Hid.mk' hv
  have HO := Hid.mk' ho
  clear hr hv ho
  go_enter Tryd.func20, Tryd.ntmps20
  go_wp2
  go_loopw [3, 8] (fun s i wr => ∃ k : Nat, k ≤ l.length ∧ i = .int .i64 k ∧ Hid (SR w wr s ((l.take k).map iB))) (fun _ i _ => l.length - (intOf i).toNat)
  case atStart => exact ⟨0, Nat.zero_le _, rfl, SR.nil w⟩
  case round =>
    obtain ⟨k, hk, rfl, HB⟩ := hrel
    by_cases h1 : k < l.length
    · have h1' : (k : Int) < (l.length : Int) := by omega
      obtain ⟨n, hn⟩ : ∃ n, l[k]? = some n := ⟨l[k], by simp [h1]⟩
      obtain ⟨p', c', hpc, _, hcell⟩ := HR.out.keep HB.out.2
      injection hpc with e1 e2 e3
      subst e1 e3
      obtain ⟨b, o, hp, _, hc2⟩ := hcell (by omega)
      subst hp
      have hld := hc2 k _ (ints_get hn)
      have h10 := number_any wr (HT.out.keep HB.out.2) n (HO.out n (List.mem_of_getElem? hn))
      have HTK := Hid.mk' (take_map iB hn)
      have HL : Hid (((l.take k).map iB).length ≤ 2000000) := by show _ ≤ _; simp; omega
      clear hc2 hcell e2 hn
      go_wp2_with (first
        | (go_at_call 10; refine h10.mono ?_; clear h10; rintro e w1 ⟨rfl, hk1⟩; have HB1 := Hid.mk' (HB.out.keep hk1); clear hk1)
        | (at_builtin; go_must (refine wpList_apps rfl _ _ rfl w w1 u3 _ (by rfl) HB1.out (iB n) (by rfl) (by have := HL.out; have : ((l.take k).map iB).length ≤ 2000000 := HL.out; omega) ?_); intro v2 W2 hO; have HO2 := Hid.mk' hO; clear hO))
      go_roundw
      case rel => exact ⟨k + 1, by omega, by go_num, by rw [HTK.out]; exact HO2.out⟩
      case measure => simp [intOf]; omega
    · have h1' : ¬ (k : Int) < (l.length : Int) := by omega
      have HE : Hid (l.take k = l) := List.take_of_length_le (by omega)
      go_wp2
      try rw [Exit.noGoto_ret]
      refine bodyPost_ret (v := u3) (by simp [results, Tryd.results20, go_sem]) rfl ?_
      exact ⟨_, rfl, by have := HB.out; rw [HE.out] at this; exact this⟩
def rwB (r : Int × Int × Int) : List ByteArray := [iB r.1 ++ (⟨#[58]⟩ : ByteArray) ++ iB r.2.1 ++ (⟨#[43]⟩ : ByteArray) ++ iB r.2.2]
set_option maxHeartbeats 8000000 in
theorem runWords_any (w : World) (hv : Tab w) (v : Value) (l : List (Int × Int × Int)) (hr : Row w v l.length (l.flatMap r3cell)) (hl : l.length ≤ 2000000) (ho : ∀ r ∈ l, In64 r.1 ∧ In64 r.2.1 ∧ In64 r.2.2) :
    Calls Tryd.prog 21 #[v] w fun e w' => ∃ v', e = .returned v' ∧ Hid (SR w w' v' (l.flatMap rwB)) := by
  obtain ⟨p, c, rfl, hc, _⟩ := id hr
  have HR := Hid.mk' hr
  have HT := Hid.mk' hv
  have HO := Hid.mk' ho
  clear hr hv ho
  go_enter Tryd.func21, Tryd.ntmps21
  go_wp2
  go_loopw [3, 8] (fun s i wr => ∃ k : Nat, k ≤ l.length ∧ i = .int .i64 k ∧ Hid (SR w wr s ((l.take k).flatMap rwB))) (fun _ i _ => l.length - (intOf i).toNat)
  case atStart => exact ⟨0, Nat.zero_le _, rfl, SR.nil w⟩
  case round =>
    obtain ⟨k, hk, rfl, HSRw⟩ := hrel
    by_cases h1 : k < l.length
    · have h1' : (k : Int) < (l.length : Int) := by omega
      obtain ⟨⟨r1, r2, r3⟩, hd⟩ : ∃ n, l[k]? = some n := ⟨l[k], by simp [h1]⟩
      obtain ⟨b, o, c', e, _, hcell⟩ := (HR.out.keep HSRw.out.2).gets r3cell 3 (fun _ => rfl) hd
      injection e with e1 _ e3
      subst e1 e3
      obtain ⟨hr1, hr2, hr3⟩ := HO.out _ (List.mem_of_getElem? hd)
      dsimp only at hr1 hr2 hr3
      have y1 := iB_size hr1
      have y2 := iB_size hr2
      have y3 := iB_size hr3
      have HRG : Hid (wr.rangeAt b (o + k * 3) (#[.int .i64 r1, .int .i64 r2, .int .i64 r3] : Array Value).toList) := fun j u hj => hcell j u hj
      have HTK : Hid ((l.take (k + 1)).flatMap rwB = ((l.take k).flatMap rwB) ++ [(((((iB r1) ++ (⟨#[58]⟩ : ByteArray)) ++ (iB r2)) ++ (⟨#[43]⟩ : ByteArray)) ++ (iB r3))]) := by
        show _ = _
        rw [List.take_add_one, hd, List.flatMap_append]
        rfl
      have HLN : Hid (((l.take k).flatMap rwB).length ≤ 5000000) := by
        show _ ≤ _
        have h2 : ((l.take k).flatMap rwB).length = (l.take k).length * 1 := by
          induction (l.take k) with
          | nil => rfl
          | cons a t ih => rw [List.flatMap_cons, List.length_append, ih, List.length_cons, Nat.add_mul]; show 1 + _ = _; omega
        have h3 : (l.take k).length ≤ 2000000 := by simp; omega
        omega
      obtain ⟨WQ, hWQ, HKQ0, q0, q1, q2⟩ : ∃ WQ, wr.alloc (.cells #[.int .i64 r1, .int .i64 r2, .int .i64 r3] 45) = WQ ∧ Hid (Keeps (fun _ => False) wr WQ) ∧ WQ.cell? ⟨wr.heap.size, 0, none⟩ = some (.int .i64 r1) ∧ WQ.cell? ⟨wr.heap.size, 1, none⟩ = some (.int .i64 r2) ∧ WQ.cell? ⟨wr.heap.size, 2, none⟩ = some (.int .i64 r3) := ⟨_, rfl, (Keeps.refl _ wr).alloc _, new_cell wr _ _ 0 _ rfl, new_cell wr _ _ 1 _ rfl, new_cell wr _ _ 2 _ rfl⟩
      have HSR := HSRw
      have HKQ := Hid.mk' (HSRw.out.2.trans HKQ0.out)
      have HWQ := Hid.mk' hWQ
      have hnb : ¬ u3.ownBlock = some wr.heap.size := fun e => by have := (HSRw.out.1.lt _ e).2; omega
      clear hcell hd hWQ
      have S0 := Hid.mk' True.intro
      go_upto_region 5 with (first
        | (clear S0; refine wpList_load_mid rfl 45 _ rfl b (o + k * 3) (by rfl) (#[.int .i64 r1, .int .i64 r2, .int .i64 r3] : Array Value).toList _ HRG.out Tryd.underlying45 rfl size_rn ?_; have S1 := Hid.mk' True.intro)
        | (clear S1; refine wpList_alloc_rn rfl rfl ?_; have S2 := Hid.mk' True.intro)
        | (clear S2; refine wpList_store_rn rfl _ _ rfl #[.int .i64 r1, .int .i64 r2, .int .i64 r3] rfl (by simp [Value.oneCell']) (by rfl) (by rfl) ?_; rw [HWQ.out]; have S3 := Hid.mk' True.intro))
      clear S3
      have HKK0 := Hid.mk' (Keeps.drewN (fun _ => False) WQ 1)
      refine wp_region_held_drew (S := fun wx => wx.cell? ⟨wr.heap.size, 0, none⟩ = some (.int .i64 r1) ∧ wx.cell? ⟨wr.heap.size, 1, none⟩ = some (.int .i64 r2) ∧ wx.cell? ⟨wr.heap.size, 2, none⟩ = some (.int .i64 r3)) (by kernel_rfl) ⟨q0, q1, q2⟩ (fun hS => ?_)
      refine takeH 0 (some 12) u3 rfl rfl (by kernel_rfl) (by kernel_rfl) (by kernel_rfl) (fun _ _ _ h => h) (Or.inl ⟨by rfl, fun wx _ => by go_simp⟩) hS ?_
      try simp only [Act.put, List.setIfInBounds_toArray, List.set_cons_zero, List.set_cons_succ]
      refine takeH 1 (some 13) (.pointer (some ⟨wr.heap.size, 0, none⟩)) rfl rfl (by kernel_rfl) (by kernel_rfl) (by kernel_rfl) (fun _ _ _ h => h) (Or.inl ⟨by rfl, fun wx _ => by go_simp⟩) hS ?_
      try simp only [Act.put, List.setIfInBounds_toArray, List.set_cons_zero, List.set_cons_succ]
      refine takeH 2 (some 14) (.int .i64 r1) rfl rfl (by kernel_rfl) (by kernel_rfl) (by kernel_rfl) (fun _ _ _ h => h) (Or.inl ⟨by rfl, fun wx ⟨s0, _, _⟩ => by go_simp⟩) hS ?_
      try simp only [Act.put, List.setIfInBounds_toArray, List.set_cons_zero, List.set_cons_succ]
      refine takeH 5 (some 17) (.pointer (some ⟨wr.heap.size, 1, none⟩)) rfl rfl (by kernel_rfl) (by kernel_rfl) (by kernel_rfl) (fun _ _ _ h => h) (Or.inl ⟨by rfl, fun wx _ => by go_simp⟩) hS ?_
      try simp only [Act.put, List.setIfInBounds_toArray, List.set_cons_zero, List.set_cons_succ]
      refine takeH 6 (some 18) (.int .i64 r2) rfl rfl (by kernel_rfl) (by kernel_rfl) (by kernel_rfl) (fun _ _ _ h => h) (Or.inl ⟨by rfl, fun wx ⟨_, s0, _⟩ => by go_simp⟩) hS ?_
      try simp only [Act.put, List.setIfInBounds_toArray, List.set_cons_zero, List.set_cons_succ]
      refine takeH 10 (some 22) (.pointer (some ⟨wr.heap.size, 2, none⟩)) rfl rfl (by kernel_rfl) (by kernel_rfl) (by kernel_rfl) (fun _ _ _ h => h) (Or.inl ⟨by rfl, fun wx _ => by go_simp⟩) hS ?_
      try simp only [Act.put, List.setIfInBounds_toArray, List.set_cons_zero, List.set_cons_succ]
      refine takeH 11 (some 23) (.int .i64 r3) rfl rfl (by kernel_rfl) (by kernel_rfl) (by kernel_rfl) (fun _ _ _ h => h) (Or.inl ⟨by rfl, fun wx ⟨_, _, s0⟩ => by go_simp⟩) hS ?_
      try simp only [Act.put, List.setIfInBounds_toArray, List.set_cons_zero, List.set_cons_succ]
      refine wpAnyH_ready (rs := [3]) (by kernel_rfl) (by simp) (AllReadyH.cons rfl (fun K hK => ?_) AllReadyH.nil)
      go_simp
      go_at_call 10
      refine (number_any _ (HT.out.keep (HKQ.out.trans HKK0.out)) r1 hr1).mono ?_
      rintro e wk0 ⟨rfl, hk8⟩
      have HKK1 := Hid.mk' (HKK0.out.trans hk8)
      refine hK.out _ _ (⟨hk8.cell hS.1 id, hk8.cell hS.2.1 id, hk8.cell hS.2.2 id⟩) (fun hS => ?_)
      clear hK hk8
      try simp only [Act.put, List.setIfInBounds_toArray, List.set_cons_zero, List.set_cons_succ]
      refine takeH 4 (some 16) (.string ((iB r1) ++ (⟨#[58]⟩ : ByteArray))) rfl rfl (by kernel_rfl) (by kernel_rfl) (by kernel_rfl) (fun _ _ _ h => h) (Or.inl ⟨by rfl, fun wx _ => by go_simp <;> omega⟩) hS ?_
      try simp only [Act.put, List.setIfInBounds_toArray, List.set_cons_zero, List.set_cons_succ]
      refine wpAnyH_ready (rs := [7]) (by kernel_rfl) (by simp) (AllReadyH.cons rfl (fun K hK => ?_) AllReadyH.nil)
      go_simp
      go_at_call 10
      refine (number_any _ (HT.out.keep (HKQ.out.trans HKK1.out)) r2 hr2).mono ?_
      rintro e wk1 ⟨rfl, hk8⟩
      have HKK2 := Hid.mk' (HKK1.out.trans hk8)
      refine hK.out _ _ (⟨hk8.cell hS.1 id, hk8.cell hS.2.1 id, hk8.cell hS.2.2 id⟩) (fun hS => ?_)
      clear hK hk8
      try simp only [Act.put, List.setIfInBounds_toArray, List.set_cons_zero, List.set_cons_succ]
      refine takeH 8 (some 20) (.string (((iB r1) ++ (⟨#[58]⟩ : ByteArray)) ++ (iB r2))) rfl rfl (by kernel_rfl) (by kernel_rfl) (by kernel_rfl) (fun _ _ _ h => h) (Or.inl ⟨by rfl, fun wx _ => by go_simp <;> omega⟩) hS ?_
      try simp only [Act.put, List.setIfInBounds_toArray, List.set_cons_zero, List.set_cons_succ]
      refine takeH 9 (some 21) (.string ((((iB r1) ++ (⟨#[58]⟩ : ByteArray)) ++ (iB r2)) ++ (⟨#[43]⟩ : ByteArray))) rfl rfl (by kernel_rfl) (by kernel_rfl) (by kernel_rfl) (fun _ _ _ h => h) (Or.inl ⟨by rfl, fun wx _ => by go_simp <;> omega⟩) hS ?_
      try simp only [Act.put, List.setIfInBounds_toArray, List.set_cons_zero, List.set_cons_succ]
      refine wpAnyH_ready (rs := [12]) (by kernel_rfl) (by simp) (AllReadyH.cons rfl (fun K hK => ?_) AllReadyH.nil)
      go_simp
      go_at_call 10
      refine (number_any _ (HT.out.keep (HKQ.out.trans HKK2.out)) r3 hr3).mono ?_
      rintro e wk2 ⟨rfl, hk8⟩
      have HKK3 := Hid.mk' (HKK2.out.trans hk8)
      refine hK.out _ _ (⟨hk8.cell hS.1 id, hk8.cell hS.2.1 id, hk8.cell hS.2.2 id⟩) (fun hS => ?_)
      clear hK hk8
      try simp only [Act.put, List.setIfInBounds_toArray, List.set_cons_zero, List.set_cons_succ]
      refine takeH 13 (some 25) (.string (((((iB r1) ++ (⟨#[58]⟩ : ByteArray)) ++ (iB r2)) ++ (⟨#[43]⟩ : ByteArray)) ++ (iB r3))) rfl rfl (by kernel_rfl) (by kernel_rfl) (by kernel_rfl) (fun _ _ _ h => h) (Or.inl ⟨by rfl, fun wx _ => by go_simp <;> omega⟩) hS ?_
      try simp only [Act.put, List.setIfInBounds_toArray, List.set_cons_zero, List.set_cons_succ]
      refine wpAnyH_ready (rs := [14]) (by kernel_rfl) (by simp) (AllReadyH.cons rfl (fun K hK => ?_) AllReadyH.nil)
      rw [if_pos (by rfl)]
      refine wp_bs1 _ rfl ((((((iB r1) ++ (⟨#[58]⟩ : ByteArray)) ++ (iB r2)) ++ (⟨#[43]⟩ : ByteArray)) ++ (iB r3))) (by rfl) ?_
      have ka := (Keeps.refl (fun _ => False) wk2).alloc (.cells (strs [(((((iB r1) ++ (⟨#[58]⟩ : ByteArray)) ++ (iB r2)) ++ (⟨#[43]⟩ : ByteArray)) ++ (iB r3))]).toArray 9)
      refine hK.out _ _ (⟨ka.cell hS.1 id, ka.cell hS.2.1 id, ka.cell hS.2.2 id⟩) (fun hS => ?_)
      clear hK
      try simp only [Act.put, List.setIfInBounds_toArray]
      refine wpAnyH_ready (rs := [15]) (by kernel_rfl) (by simp) (AllReadyH.cons rfl (fun K hK => ?_) AllReadyH.nil)
      rw [if_pos (by rfl)]
      refine wp_appn _ _ rfl w wk2 u3 _ (by rfl) (HSR.out.keep (HKQ0.out.trans HKK3.out)) [(((((iB r1) ++ (⟨#[58]⟩ : ByteArray)) ++ (iB r2)) ++ (⟨#[43]⟩ : ByteArray)) ++ (iB r3))] 1 rfl (by rfl) (by have := HLN.out; simp only [List.length_cons, List.length_nil]; omega) ?_
      intro v9 W9 hO9 hk9
      have HO9 := Hid.mk' hO9
      refine hK.out _ _ (⟨hk9.cell hS.1 hnb, hk9.cell hS.2.1 hnb, hk9.cell hS.2.2 hnb⟩) (fun hS => ?_)
      clear hK hO9 hk9 ka
      try simp only [Act.put]
      refine takeH 16 (some 3) v9 rfl rfl (by kernel_rfl) (by kernel_rfl) (by kernel_rfl) (fun _ _ _ h => h) (Or.inl ⟨by rfl, fun wx _ => by go_simp⟩) hS ?_
      try simp only [Act.put]
      refine wpAnyH_done (by kernel_rfl) ?_ _
      clear hS

      go_wp2
      go_roundw
      case rel => exact ⟨k + 1, by omega, by go_num, by rw [HTK.out]; exact HO9.out⟩
      case measure => simp [intOf]; omega
    · have h1' : ¬ (k : Int) < (l.length : Int) := by omega
      have HE : Hid (l.take k = l) := List.take_of_length_le (by omega)
      go_wp2
      try rw [Exit.noGoto_ret]
      refine bodyPost_ret (v := u3) (by simp [results, Tryd.results21, go_sem]) rfl ?_
      exact ⟨_, rfl, by have := HSRw.out; rw [HE.out] at this; exact this⟩
def dwB (d : ByteArray × Int) : List ByteArray := [mkB (quo d.1.data.toList), iB d.2]
set_option maxHeartbeats 8000000 in
theorem dentWords_any (w : World) (hv : Tab w) (v : Value) (l : List (ByteArray × Int)) (hr : Row w v l.length (l.flatMap dcell)) (hl : l.length ≤ 2000000) (ho : ∀ d ∈ l, d.1.size ≤ 2000000 ∧ In64 d.2) :
    Calls Tryd.prog 22 #[v] w fun e w' => ∃ v', e = .returned v' ∧ Hid (SR w w' v' (l.flatMap dwB)) := by
  obtain ⟨p, c, rfl, hc, _⟩ := id hr
  have HR := Hid.mk' hr
  have HT := Hid.mk' hv
  have HO := Hid.mk' ho
  clear hr hv ho
  go_enter Tryd.func22, Tryd.ntmps22
  go_wp2
  go_loopw [3, 8] (fun s i wr => ∃ k : Nat, k ≤ l.length ∧ i = .int .i64 k ∧ Hid (SR w wr s ((l.take k).flatMap dwB))) (fun _ i _ => l.length - (intOf i).toNat)
  case atStart => exact ⟨0, Nat.zero_le _, rfl, SR.nil w⟩
  case round =>
    obtain ⟨k, hk, rfl, HSRw⟩ := hrel
    by_cases h1 : k < l.length
    · have h1' : (k : Int) < (l.length : Int) := by omega
      obtain ⟨⟨dn, di⟩, hd⟩ : ∃ n, l[k]? = some n := ⟨l[k], by simp [h1]⟩
      obtain ⟨b, o, c', e, _, hcell⟩ := (HR.out.keep HSRw.out.2).gets dcell 2 (fun _ => rfl) hd
      injection e with e1 _ e3
      subst e1 e3
      obtain ⟨hqs, hdi⟩ := HO.out _ (List.mem_of_getElem? hd)
      dsimp only at hqs hdi
      have HRG : Hid (wr.rangeAt b (o + k * 2) (#[.string dn, .int .i64 di] : Array Value).toList) := fun j u hj => hcell j u hj
      have HTK : Hid ((l.take (k + 1)).flatMap dwB = ((l.take k).flatMap dwB) ++ [(mkB (quo dn.data.toList)), (iB di)]) := by
        show _ = _
        rw [List.take_add_one, hd, List.flatMap_append]
        rfl
      have HLN : Hid (((l.take k).flatMap dwB).length ≤ 5000000) := by
        show _ ≤ _
        have h2 : ((l.take k).flatMap dwB).length = (l.take k).length * 2 := by
          induction (l.take k) with
          | nil => rfl
          | cons a t ih => rw [List.flatMap_cons, List.length_append, ih, List.length_cons, Nat.add_mul]; show 2 + _ = _; omega
        have h3 : (l.take k).length ≤ 2000000 := by simp; omega
        omega
      obtain ⟨WQ, hWQ, HKQ0, q0, q1⟩ : ∃ WQ, wr.alloc (.cells #[.string dn, .int .i64 di] 54) = WQ ∧ Hid (Keeps (fun _ => False) wr WQ) ∧ WQ.cell? ⟨wr.heap.size, 0, none⟩ = some (.string dn) ∧ WQ.cell? ⟨wr.heap.size, 1, none⟩ = some (.int .i64 di) := ⟨_, rfl, (Keeps.refl _ wr).alloc _, new_cell wr _ _ 0 _ rfl, new_cell wr _ _ 1 _ rfl⟩
      have HSR := HSRw
      have HKQ := Hid.mk' (HSRw.out.2.trans HKQ0.out)
      have HWQ := Hid.mk' hWQ
      have hnb : ¬ u3.ownBlock = some wr.heap.size := fun e => by have := (HSRw.out.1.lt _ e).2; omega
      clear hcell hd hWQ
      have S0 := Hid.mk' True.intro
      go_upto_region 5 with (first
        | (clear S0; refine wpList_load_mid rfl 54 _ rfl b (o + k * 2) (by rfl) (#[.string dn, .int .i64 di] : Array Value).toList _ HRG.out Tryd.underlying54 rfl size_dn ?_; have S1 := Hid.mk' True.intro)
        | (clear S1; refine wpList_alloc_dn rfl rfl ?_; have S2 := Hid.mk' True.intro)
        | (clear S2; refine wpList_store_dn rfl _ _ rfl #[.string dn, .int .i64 di] rfl (by simp [Value.oneCell']) (by rfl) (by rfl) ?_; rw [HWQ.out]; have S3 := Hid.mk' True.intro))
      clear S3
      have HKK0 := Hid.mk' (Keeps.drewN (fun _ => False) WQ 1)
      refine wp_region_held_drew (S := fun wx => wx.cell? ⟨wr.heap.size, 0, none⟩ = some (.string dn) ∧ wx.cell? ⟨wr.heap.size, 1, none⟩ = some (.int .i64 di)) (by kernel_rfl) ⟨q0, q1⟩ (fun hS => ?_)
      refine takeH 0 (some 12) u3 rfl rfl (by kernel_rfl) (by kernel_rfl) (by kernel_rfl) (fun _ _ _ h => h) (Or.inl ⟨by rfl, fun wx _ => by go_simp⟩) hS ?_
      try simp only [Act.put, List.setIfInBounds_toArray, List.set_cons_zero, List.set_cons_succ]
      refine takeH 1 (some 13) (.pointer (some ⟨wr.heap.size, 0, none⟩)) rfl rfl (by kernel_rfl) (by kernel_rfl) (by kernel_rfl) (fun _ _ _ h => h) (Or.inl ⟨by rfl, fun wx _ => by go_simp⟩) hS ?_
      try simp only [Act.put, List.setIfInBounds_toArray, List.set_cons_zero, List.set_cons_succ]
      refine takeH 2 (some 14) (.string dn) rfl rfl (by kernel_rfl) (by kernel_rfl) (by kernel_rfl) (fun _ _ _ h => h) (Or.inl ⟨by rfl, fun wx ⟨s0, _⟩ => by go_simp⟩) hS ?_
      try simp only [Act.put, List.setIfInBounds_toArray, List.set_cons_zero, List.set_cons_succ]
      refine takeH 4 (some 16) (.pointer (some ⟨wr.heap.size, 1, none⟩)) rfl rfl (by kernel_rfl) (by kernel_rfl) (by kernel_rfl) (fun _ _ _ h => h) (Or.inl ⟨by rfl, fun wx _ => by go_simp⟩) hS ?_
      try simp only [Act.put, List.setIfInBounds_toArray, List.set_cons_zero, List.set_cons_succ]
      refine takeH 5 (some 17) (.int .i64 di) rfl rfl (by kernel_rfl) (by kernel_rfl) (by kernel_rfl) (fun _ _ _ h => h) (Or.inl ⟨by rfl, fun wx ⟨_, s0⟩ => by go_simp⟩) hS ?_
      try simp only [Act.put, List.setIfInBounds_toArray, List.set_cons_zero, List.set_cons_succ]
      refine wpAnyH_ready (rs := [3]) (by kernel_rfl) (by simp) (AllReadyH.cons rfl (fun K hK => ?_) AllReadyH.nil)
      go_simp
      go_at_call 26
      refine (quote_any _ dn hqs).mono ?_
      rintro e wk0 ⟨rfl, hk8⟩
      have HKK1 := Hid.mk' (HKK0.out.trans hk8)
      refine hK.out _ _ (⟨hk8.cell hS.1 id, hk8.cell hS.2 id⟩) (fun hS => ?_)
      clear hK hk8
      try simp only [Act.put, List.setIfInBounds_toArray, List.set_cons_zero, List.set_cons_succ]
      refine wpAnyH_ready (rs := [6]) (by kernel_rfl) (by simp) (AllReadyH.cons rfl (fun K hK => ?_) AllReadyH.nil)
      go_simp
      go_at_call 10
      refine (number_any _ (HT.out.keep (HKQ.out.trans HKK1.out)) di hdi).mono ?_
      rintro e wk1 ⟨rfl, hk8⟩
      have HKK2 := Hid.mk' (HKK1.out.trans hk8)
      refine hK.out _ _ (⟨hk8.cell hS.1 id, hk8.cell hS.2 id⟩) (fun hS => ?_)
      clear hK hk8
      try simp only [Act.put, List.setIfInBounds_toArray, List.set_cons_zero, List.set_cons_succ]
      refine wpAnyH_ready (rs := [7]) (by kernel_rfl) (by simp) (AllReadyH.cons rfl (fun K hK => ?_) AllReadyH.nil)
      rw [if_pos (by rfl)]
      refine wp_bs2 _ _ rfl ((mkB (quo dn.data.toList))) ((iB di)) (by rfl) (by rfl) ?_
      have ka := (Keeps.refl (fun _ => False) wk1).alloc (.cells (strs [(mkB (quo dn.data.toList)), (iB di)]).toArray 9)
      refine hK.out _ _ (⟨ka.cell hS.1 id, ka.cell hS.2 id⟩) (fun hS => ?_)
      clear hK
      try simp only [Act.put, List.setIfInBounds_toArray]
      refine wpAnyH_ready (rs := [8]) (by kernel_rfl) (by simp) (AllReadyH.cons rfl (fun K hK => ?_) AllReadyH.nil)
      rw [if_pos (by rfl)]
      refine wp_appn _ _ rfl w wk1 u3 _ (by rfl) (HSR.out.keep (HKQ0.out.trans HKK2.out)) [(mkB (quo dn.data.toList)), (iB di)] 2 rfl (by rfl) (by have := HLN.out; simp only [List.length_cons, List.length_nil]; omega) ?_
      intro v9 W9 hO9 hk9
      have HO9 := Hid.mk' hO9
      refine hK.out _ _ (⟨hk9.cell hS.1 hnb, hk9.cell hS.2 hnb⟩) (fun hS => ?_)
      clear hK hO9 hk9 ka
      try simp only [Act.put]
      refine takeH 9 (some 3) v9 rfl rfl (by kernel_rfl) (by kernel_rfl) (by kernel_rfl) (fun _ _ _ h => h) (Or.inl ⟨by rfl, fun wx _ => by go_simp⟩) hS ?_
      try simp only [Act.put]
      refine wpAnyH_done (by kernel_rfl) ?_ _
      clear hS

      go_wp2
      go_roundw
      case rel => exact ⟨k + 1, by omega, by go_num, by rw [HTK.out]; exact HO9.out⟩
      case measure => simp [intOf]; omega
    · have h1' : ¬ (k : Int) < (l.length : Int) := by omega
      have HE : Hid (l.take k = l) := List.take_of_length_le (by omega)
      go_wp2
      try rw [Exit.noGoto_ret]
      refine bodyPost_ret (v := u3) (by simp [results, Tryd.results22, go_sem]) rfl ?_
      exact ⟨_, rfl, by have := HSRw.out; rw [HE.out] at this; exact this⟩
def swB (s : Int × Int) : List ByteArray := [iB s.1 ++ (⟨#[43]⟩ : ByteArray) ++ iB s.2]
set_option maxHeartbeats 8000000 in
theorem freeWords_any (w : World) (hv : Tab w) (v : Value) (l : List (Int × Int)) (hr : Row w v l.length (l.flatMap s2cell)) (hl : l.length ≤ 2000000) (ho : ∀ s ∈ l, In64 s.1 ∧ In64 s.2) :
    Calls Tryd.prog 13 #[v] w fun e w' => ∃ v', e = .returned v' ∧ Hid (SR w w' v' ([(⟨#[102, 114, 101, 101]⟩ : ByteArray)] ++ l.flatMap swB)) := by
  obtain ⟨p, c, rfl, hc, _⟩ := id hr
  have HR := Hid.mk' hr
  have HT := Hid.mk' hv
  have HO := Hid.mk' ho
  clear hr hv ho
  go_enter Tryd.func13, Tryd.ntmps13
  have HN : Hid (SR w (w.alloc (.cells #[.string ⟨#[102, 114, 101, 101]⟩] 9)) (.slice (some ⟨w.heap.size, 0, none⟩) 1 1) [⟨#[102, 114, 101, 101]⟩]) := SR.one (Keeps.refl _ w) _
  go_wp2
  go_loopw [3, 9] (fun s i wr => ∃ k : Nat, k ≤ l.length ∧ i = .int .i64 k ∧ Hid (SR w wr s ([(⟨#[102, 114, 101, 101]⟩ : ByteArray)] ++ (l.take k).flatMap swB))) (fun _ i _ => l.length - (intOf i).toNat)
  case atStart => exact ⟨0, Nat.zero_le _, rfl, HN.out⟩
  case round =>
    obtain ⟨k, hk, rfl, HSRw⟩ := hrel
    by_cases h1 : k < l.length
    · have h1' : (k : Int) < (l.length : Int) := by omega
      obtain ⟨⟨f1, f2⟩, hd⟩ : ∃ n, l[k]? = some n := ⟨l[k], by simp [h1]⟩
      obtain ⟨b, o, c', e, _, hcell⟩ := (HR.out.keep HSRw.out.2).gets s2cell 2 (fun _ => rfl) hd
      injection e with e1 _ e3
      subst e1 e3
      obtain ⟨hf1, hf2⟩ := HO.out _ (List.mem_of_getElem? hd)
      dsimp only at hf1 hf2
      have y1 := iB_size hf1
      have y2 := iB_size hf2
      have HRG : Hid (wr.rangeAt b (o + k * 2) (#[.int .i64 f1, .int .i64 f2] : Array Value).toList) := fun j u hj => hcell j u hj
      have HTK : Hid ([(⟨#[102, 114, 101, 101]⟩ : ByteArray)] ++ (l.take (k + 1)).flatMap swB = ([(⟨#[102, 114, 101, 101]⟩ : ByteArray)] ++ (l.take k).flatMap swB) ++ [(((iB f1) ++ (⟨#[43]⟩ : ByteArray)) ++ (iB f2))]) := by
        show _ = _
        rw [List.take_add_one, hd, List.flatMap_append, ← List.append_assoc]
        rfl
      have HLN : Hid (([(⟨#[102, 114, 101, 101]⟩ : ByteArray)] ++ (l.take k).flatMap swB).length ≤ 5000000) := by
        show _ ≤ _
        have h2 : ((l.take k).flatMap swB).length = (l.take k).length * 1 := by
          induction (l.take k) with
          | nil => rfl
          | cons a t ih => rw [List.flatMap_cons, List.length_append, ih, List.length_cons, Nat.add_mul]; show 1 + _ = _; omega
        have h3 : (l.take k).length ≤ 2000000 := by simp; omega
        rw [List.length_append]; simp only [List.length_cons, List.length_nil]; omega
      obtain ⟨WQ, hWQ, HKQ0, q0, q1⟩ : ∃ WQ, wr.alloc (.cells #[.int .i64 f1, .int .i64 f2] 39) = WQ ∧ Hid (Keeps (fun _ => False) wr WQ) ∧ WQ.cell? ⟨wr.heap.size, 0, none⟩ = some (.int .i64 f1) ∧ WQ.cell? ⟨wr.heap.size, 1, none⟩ = some (.int .i64 f2) := ⟨_, rfl, (Keeps.refl _ wr).alloc _, new_cell wr _ _ 0 _ rfl, new_cell wr _ _ 1 _ rfl⟩
      have HSR := HSRw
      have HKQ := Hid.mk' (HSRw.out.2.trans HKQ0.out)
      have HWQ := Hid.mk' hWQ
      have hnb : ¬ u3.ownBlock = some wr.heap.size := fun e => by have := (HSRw.out.1.lt _ e).2; omega
      clear hcell hd hWQ
      have S0 := Hid.mk' True.intro
      go_upto_region 5 with (first
        | (clear S0; refine wpList_load_mid rfl 39 _ rfl b (o + k * 2) (by rfl) (#[.int .i64 f1, .int .i64 f2] : Array Value).toList _ HRG.out Tryd.underlying39 rfl size_sp ?_; have S1 := Hid.mk' True.intro)
        | (clear S1; refine wpList_alloc_sp rfl rfl ?_; have S2 := Hid.mk' True.intro)
        | (clear S2; refine wpList_store_sp rfl _ _ rfl #[.int .i64 f1, .int .i64 f2] rfl (by simp [Value.oneCell']) (by rfl) (by rfl) ?_; rw [HWQ.out]; have S3 := Hid.mk' True.intro))
      clear S3
      have HKK0 := Hid.mk' (Keeps.drewN (fun _ => False) WQ 1)
      refine wp_region_held_drew (S := fun wx => wx.cell? ⟨wr.heap.size, 0, none⟩ = some (.int .i64 f1) ∧ wx.cell? ⟨wr.heap.size, 1, none⟩ = some (.int .i64 f2)) (by kernel_rfl) ⟨q0, q1⟩ (fun hS => ?_)
      refine takeH 0 (some 13) u3 rfl rfl (by kernel_rfl) (by kernel_rfl) (by kernel_rfl) (fun _ _ _ h => h) (Or.inl ⟨by rfl, fun wx _ => by go_simp⟩) hS ?_
      try simp only [Act.put, List.setIfInBounds_toArray, List.set_cons_zero, List.set_cons_succ]
      refine takeH 1 (some 14) (.pointer (some ⟨wr.heap.size, 0, none⟩)) rfl rfl (by kernel_rfl) (by kernel_rfl) (by kernel_rfl) (fun _ _ _ h => h) (Or.inl ⟨by rfl, fun wx _ => by go_simp⟩) hS ?_
      try simp only [Act.put, List.setIfInBounds_toArray, List.set_cons_zero, List.set_cons_succ]
      refine takeH 2 (some 15) (.int .i64 f1) rfl rfl (by kernel_rfl) (by kernel_rfl) (by kernel_rfl) (fun _ _ _ h => h) (Or.inl ⟨by rfl, fun wx ⟨s0, _⟩ => by go_simp⟩) hS ?_
      try simp only [Act.put, List.setIfInBounds_toArray, List.set_cons_zero, List.set_cons_succ]
      refine takeH 5 (some 18) (.pointer (some ⟨wr.heap.size, 1, none⟩)) rfl rfl (by kernel_rfl) (by kernel_rfl) (by kernel_rfl) (fun _ _ _ h => h) (Or.inl ⟨by rfl, fun wx _ => by go_simp⟩) hS ?_
      try simp only [Act.put, List.setIfInBounds_toArray, List.set_cons_zero, List.set_cons_succ]
      refine takeH 6 (some 19) (.int .i64 f2) rfl rfl (by kernel_rfl) (by kernel_rfl) (by kernel_rfl) (fun _ _ _ h => h) (Or.inl ⟨by rfl, fun wx ⟨_, s0⟩ => by go_simp⟩) hS ?_
      try simp only [Act.put, List.setIfInBounds_toArray, List.set_cons_zero, List.set_cons_succ]
      refine wpAnyH_ready (rs := [3]) (by kernel_rfl) (by simp) (AllReadyH.cons rfl (fun K hK => ?_) AllReadyH.nil)
      go_simp
      go_at_call 10
      refine (number_any _ (HT.out.keep (HKQ.out.trans HKK0.out)) f1 hf1).mono ?_
      rintro e wk0 ⟨rfl, hk8⟩
      have HKK1 := Hid.mk' (HKK0.out.trans hk8)
      refine hK.out _ _ (⟨hk8.cell hS.1 id, hk8.cell hS.2 id⟩) (fun hS => ?_)
      clear hK hk8
      try simp only [Act.put, List.setIfInBounds_toArray, List.set_cons_zero, List.set_cons_succ]
      refine takeH 4 (some 17) (.string ((iB f1) ++ (⟨#[43]⟩ : ByteArray))) rfl rfl (by kernel_rfl) (by kernel_rfl) (by kernel_rfl) (fun _ _ _ h => h) (Or.inl ⟨by rfl, fun wx _ => by go_simp <;> omega⟩) hS ?_
      try simp only [Act.put, List.setIfInBounds_toArray, List.set_cons_zero, List.set_cons_succ]
      refine wpAnyH_ready (rs := [7]) (by kernel_rfl) (by simp) (AllReadyH.cons rfl (fun K hK => ?_) AllReadyH.nil)
      go_simp
      go_at_call 10
      refine (number_any _ (HT.out.keep (HKQ.out.trans HKK1.out)) f2 hf2).mono ?_
      rintro e wk1 ⟨rfl, hk8⟩
      have HKK2 := Hid.mk' (HKK1.out.trans hk8)
      refine hK.out _ _ (⟨hk8.cell hS.1 id, hk8.cell hS.2 id⟩) (fun hS => ?_)
      clear hK hk8
      try simp only [Act.put, List.setIfInBounds_toArray, List.set_cons_zero, List.set_cons_succ]
      refine takeH 8 (some 21) (.string (((iB f1) ++ (⟨#[43]⟩ : ByteArray)) ++ (iB f2))) rfl rfl (by kernel_rfl) (by kernel_rfl) (by kernel_rfl) (fun _ _ _ h => h) (Or.inl ⟨by rfl, fun wx _ => by go_simp <;> omega⟩) hS ?_
      try simp only [Act.put, List.setIfInBounds_toArray, List.set_cons_zero, List.set_cons_succ]
      refine wpAnyH_ready (rs := [9]) (by kernel_rfl) (by simp) (AllReadyH.cons rfl (fun K hK => ?_) AllReadyH.nil)
      rw [if_pos (by rfl)]
      refine wp_bs1 _ rfl ((((iB f1) ++ (⟨#[43]⟩ : ByteArray)) ++ (iB f2))) (by rfl) ?_
      have ka := (Keeps.refl (fun _ => False) wk1).alloc (.cells (strs [(((iB f1) ++ (⟨#[43]⟩ : ByteArray)) ++ (iB f2))]).toArray 9)
      refine hK.out _ _ (⟨ka.cell hS.1 id, ka.cell hS.2 id⟩) (fun hS => ?_)
      clear hK
      try simp only [Act.put, List.setIfInBounds_toArray]
      refine wpAnyH_ready (rs := [10]) (by kernel_rfl) (by simp) (AllReadyH.cons rfl (fun K hK => ?_) AllReadyH.nil)
      rw [if_pos (by rfl)]
      refine wp_appn _ _ rfl w wk1 u3 _ (by rfl) (HSR.out.keep (HKQ0.out.trans HKK2.out)) [(((iB f1) ++ (⟨#[43]⟩ : ByteArray)) ++ (iB f2))] 1 rfl (by rfl) (by have := HLN.out; simp only [List.length_cons, List.length_nil]; omega) ?_
      intro v9 W9 hO9 hk9
      have HO9 := Hid.mk' hO9
      refine hK.out _ _ (⟨hk9.cell hS.1 hnb, hk9.cell hS.2 hnb⟩) (fun hS => ?_)
      clear hK hO9 hk9 ka
      try simp only [Act.put]
      refine takeH 11 (some 3) v9 rfl rfl (by kernel_rfl) (by kernel_rfl) (by kernel_rfl) (fun _ _ _ h => h) (Or.inl ⟨by rfl, fun wx _ => by go_simp⟩) hS ?_
      try simp only [Act.put]
      refine wpAnyH_done (by kernel_rfl) ?_ _
      clear hS

      go_wp2
      go_roundw
      case rel => exact ⟨k + 1, by omega, by go_num, by rw [HTK.out]; exact HO9.out⟩
      case measure => simp [intOf]; omega
    · have h1' : ¬ (k : Int) < (l.length : Int) := by omega
      have HE : Hid (l.take k = l) := List.take_of_length_le (by omega)
      go_wp2
      try rw [Exit.noGoto_ret]
      refine bodyPost_ret (v := u3) (by simp [results, Tryd.results13, go_sem]) rfl ?_
      exact ⟨_, rfl, by have := HSRw.out; rw [HE.out] at this; exact this⟩
end Go.Proofs.YtpgabmfpffaajaaDoor
