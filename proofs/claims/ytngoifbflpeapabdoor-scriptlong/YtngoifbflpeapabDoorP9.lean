import Derived.Test.YtngoifbflpeapabDoorQ1
namespace Go.Proofs.YtngoifbflpeapabDoor
open Go.RowKit Go.Maps
set_option maxRecDepth 100000

/-! What a line that is read tells, written again: the same words, and no longer. -/
theorem num_numW {x : Wd} {n : Int} (hq : x.quoted = false) (h : num x.text.data.toList = some n) : x = numW n ∧ -9223372036854775808 ≤ n ∧ n ≤ 9223372036854775807 := by
  unfold num at h
  split at h
  · rename_i v hv
    split at h
    · rename_i hi
      cases h
      obtain ⟨tx, q⟩ := x
      simp only at hq hi
      subst hq
      refine ⟨?_, parse_bounds hv⟩
      show (⟨tx, false⟩ : Wd) = ⟨mkB (Lib.itoa n), false⟩
      rw [hi, mkB_data]
    · cases h
  · cases h
theorem stF_L {l : List Ar} : ∀ (xs : List Wd) (i : Nat) (r t : St), (∀ j, i ≤ j → argAt l j = some .L) → tkF l i xs = true → stF l i r xs = some t → ∃ ns, OkI ns ∧ xs = ns.map numW ∧ t = { r with l := r.l ++ ns }
  | [], i, r, t, _, _, h => by
    cases h
    exact ⟨[], fun x hx => absurd hx (by simp), rfl, by simp⟩
  | x :: xs, i, r, t, hl, hk, h => by
    unfold tkF at hk
    rw [hl i (Nat.le_refl _)] at hk
    simp only [Bool.and_eq_true, beq_iff_eq] at hk
    unfold stF at h
    rw [hl i (Nat.le_refl _)] at h
    simp only at h
    cases hn : num x.text.data.toList with
    | none => simp [rdF, hn] at h
    | some n =>
      simp [rdF, hn] at h
      obtain ⟨hx, hb⟩ := num_numW (x := x) (n := n) (by have := hk.1; simpa [Ar.quo] using this.symm) hn
      obtain ⟨ns, ho, e1, e2⟩ := stF_L xs (i + 1) _ t (fun j hj => hl j (by omega)) hk.2 h
      refine ⟨n :: ns, ?_, by rw [hx, e1]; rfl, by rw [e2]; simp⟩
      intro y hy
      rcases List.mem_cons.1 hy with rfl | hy
      · exact hb
      · exact ho y hy
/-- A step as its words tell it: what it holds, that these are its words, and no field besides. -/
structure Told (l : List Ar) (n : Int) (xs : List Wd) (t : St) : Prop where
  w : (l.flatMap fun a => tlW a t) = xs
  b : l.foldl (fld t) (st0 n) = t
  n : -9223372036854775808 ≤ t.n ∧ t.n ≤ 9223372036854775807
  m : -9223372036854775808 ≤ t.m ∧ t.m ≤ 9223372036854775807
  k : -9223372036854775808 ≤ t.k ∧ t.k ≤ 9223372036854775807
  o : OkI t.l
theorem z64 : -9223372036854775808 ≤ (0 : Int) ∧ (0 : Int) ≤ 9223372036854775807 := by decide
theorem oki_nil : OkI [] := fun x hx => absurd hx (by simp)
theorem told_NMK {n : Int} {xs : List Wd} {t : St} (hk : takesF [.N, .M, .K] xs = true) (h : stF [.N, .M, .K] 0 (st0 n) xs = some t) : Told [.N, .M, .K] n xs t := by
  unfold takesF at hk
  rw [Bool.and_eq_true, decide_eq_true_eq] at hk
  obtain ⟨h1, h2⟩ := hk
  match xs, h1, h2, h with
  | [], h1, _, _ => exact absurd h1 (by simp [nds, Ar.lst])
  | [_], h1, _, _ => exact absurd h1 (by simp [nds, Ar.lst])
  | [_, _], h1, _, _ => exact absurd h1 (by simp [nds, Ar.lst])
  | [x0, x1, x2], _, h2, h =>
    simp only [tkF, argAt, List.getElem?_cons_zero, List.getElem?_cons_succ, Ar.quo, Bool.and_eq_true, beq_iff_eq, Bool.and_true] at h2
    simp only [stF, argAt, List.getElem?_cons_zero, List.getElem?_cons_succ] at h
    obtain ⟨q0, q1, q2⟩ := h2
    cases n0 : num x0.text.data.toList with
    | none => simp [rdF, n0] at h
    | some i0 =>
      cases n1 : num x1.text.data.toList with
      | none => simp [rdF, n0, n1] at h
      | some i1 =>
        cases n2 : num x2.text.data.toList with
        | none => simp [rdF, n0, n1, n2] at h
        | some i2 =>
          simp [rdF, n0, n1, n2] at h
          subst h
          obtain ⟨e0, b0⟩ := num_numW q0.symm n0
          obtain ⟨e1, b1⟩ := num_numW q1.symm n1
          obtain ⟨e2, b2⟩ := num_numW q2.symm n2
          subst e0 e1 e2
          refine ⟨?_, rfl, b0, b1, b2, oki_nil⟩
          show [numW i0, numW i1, numW i2] = [numW i0, numW i1, numW i2]
          rfl
  | x0 :: x1 :: x2 :: y :: r, _, h2, _ =>
    exfalso
    simp [tkF, argAt, Ar.lst] at h2
theorem told_NL {n : Int} {xs : List Wd} {t : St} (hk : takesF [.N, .L] xs = true) (h : stF [.N, .L] 0 (st0 n) xs = some t) : Told [.N, .L] n xs t := by
  unfold takesF at hk
  rw [Bool.and_eq_true, decide_eq_true_eq] at hk
  obtain ⟨h1, h2⟩ := hk
  match xs, h1, h2, h with
  | [], h1, _, _ => exact absurd h1 (by simp [nds, Ar.lst])
  | x0 :: xs, _, h2, h =>
    unfold tkF at h2
    unfold stF at h
    rw [show argAt [.N, .L] 0 = some .N from rfl] at h2 h
    simp only [Ar.quo, Bool.and_eq_true, beq_iff_eq] at h2
    cases n0 : num x0.text.data.toList with
    | none => simp [rdF, n0] at h
    | some i0 =>
      simp [rdF, n0] at h
      obtain ⟨e0, b0⟩ := num_numW h2.1.symm n0
      obtain ⟨ns, ho, rfl, rfl⟩ := stF_L xs 1 _ t (fun j hj => at_last (pre := [.N]) rfl j hj) h2.2 h
      subst e0
      refine ⟨?_, rfl, b0, z64, z64, ho⟩
      show numW i0 :: (([] ++ ns).map numW ++ []) = numW i0 :: ns.map numW
      simp
theorem told_none {n : Int} {xs : List Wd} {t : St} (hk : takesF [] xs = true) (h : stF [] 0 (st0 n) xs = some t) : Told [] n xs t := by
  unfold takesF at hk
  rw [Bool.and_eq_true, decide_eq_true_eq] at hk
  obtain ⟨h1, h2⟩ := hk
  match xs, h1, h2, h with
  | [], _, h2, h =>
    cases h
    exact ⟨rfl, rfl, z64, z64, z64, oki_nil⟩
  | y :: r, _, h2, _ =>
    exfalso
    simp [tkF, argAt] at h2
theorem told_A {n : Int} {xs : List Wd} {t : St} (hk : takesF [.A] xs = true) (h : stF [.A] 0 (st0 n) xs = some t) : Told [.A] n xs t := by
  unfold takesF at hk
  rw [Bool.and_eq_true, decide_eq_true_eq] at hk
  obtain ⟨h1, h2⟩ := hk
  match xs, h1, h2, h with
  | [], h1, _, _ => exact absurd h1 (by simp [nds, Ar.lst])
  | [x0], _, h2, h =>
    simp only [tkF, argAt, List.getElem?_cons_zero, Ar.quo, beq_iff_eq, Bool.and_true] at h2
    simp only [stF, argAt, List.getElem?_cons_zero] at h
    have q0 := h2
    simp [rdF] at h
    subst h
    have e0 : (⟨x0.text, true⟩ : Wd) = x0 := by obtain ⟨tx, q⟩ := x0; simp only at q0; rw [q0]
    refine ⟨?_, rfl, z64, z64, z64, oki_nil⟩
    show [⟨x0.text, true⟩] = [x0]
    rw [e0]
  | x0 :: y :: r, _, h2, _ =>
    exfalso
    simp [tkF, argAt, Ar.lst] at h2
theorem told_AB {n : Int} {xs : List Wd} {t : St} (hk : takesF [.A, .B] xs = true) (h : stF [.A, .B] 0 (st0 n) xs = some t) : Told [.A, .B] n xs t := by
  unfold takesF at hk
  rw [Bool.and_eq_true, decide_eq_true_eq] at hk
  obtain ⟨h1, h2⟩ := hk
  match xs, h1, h2, h with
  | [], h1, _, _ => exact absurd h1 (by simp [nds, Ar.lst])
  | [_], h1, _, _ => exact absurd h1 (by simp [nds, Ar.lst])
  | [x0, x1], _, h2, h =>
    simp only [tkF, argAt, List.getElem?_cons_zero, List.getElem?_cons_succ, Ar.quo, Bool.and_eq_true, beq_iff_eq, Bool.and_true] at h2
    simp only [stF, argAt, List.getElem?_cons_zero, List.getElem?_cons_succ] at h
    obtain ⟨q0, q1⟩ := h2
    simp [rdF] at h
    subst h
    have e0 : (⟨x0.text, true⟩ : Wd) = x0 := by obtain ⟨tx, q⟩ := x0; simp only at q0; rw [q0]
    have e1 : (⟨x1.text, true⟩ : Wd) = x1 := by obtain ⟨tx, q⟩ := x1; simp only at q1; rw [q1]
    refine ⟨?_, rfl, z64, z64, z64, oki_nil⟩
    show [⟨x0.text, true⟩, ⟨x1.text, true⟩] = [x0, x1]
    rw [e0, e1]
  | x0 :: x1 :: y :: r, _, h2, _ =>
    exfalso
    simp [tkF, argAt, Ar.lst] at h2
theorem told_ANM {n : Int} {xs : List Wd} {t : St} (hk : takesF [.A, .N, .M] xs = true) (h : stF [.A, .N, .M] 0 (st0 n) xs = some t) : Told [.A, .N, .M] n xs t := by
  unfold takesF at hk
  rw [Bool.and_eq_true, decide_eq_true_eq] at hk
  obtain ⟨h1, h2⟩ := hk
  match xs, h1, h2, h with
  | [], h1, _, _ => exact absurd h1 (by simp [nds, Ar.lst])
  | [_], h1, _, _ => exact absurd h1 (by simp [nds, Ar.lst])
  | [_, _], h1, _, _ => exact absurd h1 (by simp [nds, Ar.lst])
  | [x0, x1, x2], _, h2, h =>
    simp only [tkF, argAt, List.getElem?_cons_zero, List.getElem?_cons_succ, Ar.quo, Bool.and_eq_true, beq_iff_eq, Bool.and_true] at h2
    simp only [stF, argAt, List.getElem?_cons_zero, List.getElem?_cons_succ] at h
    obtain ⟨q0, q1, q2⟩ := h2
    cases n1 : num x1.text.data.toList with
    | none => simp [rdF, n1] at h
    | some i1 =>
      cases n2 : num x2.text.data.toList with
      | none => simp [rdF, n1, n2] at h
      | some i2 =>
        simp [rdF, n1, n2] at h
        subst h
        obtain ⟨e1, b1⟩ := num_numW q1.symm n1
        obtain ⟨e2, b2⟩ := num_numW q2.symm n2
        have e0 : (⟨x0.text, true⟩ : Wd) = x0 := by obtain ⟨tx, q⟩ := x0; simp only at q0; rw [q0]
        subst e1 e2
        refine ⟨?_, rfl, b1, b2, z64, oki_nil⟩
        show [⟨x0.text, true⟩, numW i1, numW i2] = [x0, numW i1, numW i2]
        rw [e0]
  | x0 :: x1 :: x2 :: y :: r, _, h2, _ =>
    exfalso
    simp [tkF, argAt, Ar.lst] at h2
theorem told_ANB {n : Int} {xs : List Wd} {t : St} (hk : takesF [.A, .N, .B] xs = true) (h : stF [.A, .N, .B] 0 (st0 n) xs = some t) : Told [.A, .N, .B] n xs t := by
  unfold takesF at hk
  rw [Bool.and_eq_true, decide_eq_true_eq] at hk
  obtain ⟨h1, h2⟩ := hk
  match xs, h1, h2, h with
  | [], h1, _, _ => exact absurd h1 (by simp [nds, Ar.lst])
  | [_], h1, _, _ => exact absurd h1 (by simp [nds, Ar.lst])
  | [_, _], h1, _, _ => exact absurd h1 (by simp [nds, Ar.lst])
  | [x0, x1, x2], _, h2, h =>
    simp only [tkF, argAt, List.getElem?_cons_zero, List.getElem?_cons_succ, Ar.quo, Bool.and_eq_true, beq_iff_eq, Bool.and_true] at h2
    simp only [stF, argAt, List.getElem?_cons_zero, List.getElem?_cons_succ] at h
    obtain ⟨q0, q1, q2⟩ := h2
    cases n1 : num x1.text.data.toList with
    | none => simp [rdF, n1] at h
    | some i1 =>
      simp [rdF, n1] at h
      subst h
      obtain ⟨e1, b1⟩ := num_numW q1.symm n1
      have e0 : (⟨x0.text, true⟩ : Wd) = x0 := by obtain ⟨tx, q⟩ := x0; simp only at q0; rw [q0]
      have e2 : (⟨x2.text, true⟩ : Wd) = x2 := by obtain ⟨tx, q⟩ := x2; simp only at q2; rw [q2]
      subst e1
      refine ⟨?_, rfl, b1, z64, z64, oki_nil⟩
      show [⟨x0.text, true⟩, numW i1, ⟨x2.text, true⟩] = [x0, numW i1, x2]
      rw [e0, e2]
  | x0 :: x1 :: x2 :: y :: r, _, h2, _ =>
    exfalso
    simp [tkF, argAt, Ar.lst] at h2
theorem told_AN {n : Int} {xs : List Wd} {t : St} (hk : takesF [.A, .N] xs = true) (h : stF [.A, .N] 0 (st0 n) xs = some t) : Told [.A, .N] n xs t := by
  unfold takesF at hk
  rw [Bool.and_eq_true, decide_eq_true_eq] at hk
  obtain ⟨h1, h2⟩ := hk
  match xs, h1, h2, h with
  | [], h1, _, _ => exact absurd h1 (by simp [nds, Ar.lst])
  | [_], h1, _, _ => exact absurd h1 (by simp [nds, Ar.lst])
  | [x0, x1], _, h2, h =>
    simp only [tkF, argAt, List.getElem?_cons_zero, List.getElem?_cons_succ, Ar.quo, Bool.and_eq_true, beq_iff_eq, Bool.and_true] at h2
    simp only [stF, argAt, List.getElem?_cons_zero, List.getElem?_cons_succ] at h
    obtain ⟨q0, q1⟩ := h2
    cases n1 : num x1.text.data.toList with
    | none => simp [rdF, n1] at h
    | some i1 =>
      simp [rdF, n1] at h
      subst h
      obtain ⟨e1, b1⟩ := num_numW q1.symm n1
      have e0 : (⟨x0.text, true⟩ : Wd) = x0 := by obtain ⟨tx, q⟩ := x0; simp only at q0; rw [q0]
      subst e1
      refine ⟨?_, rfl, b1, z64, z64, oki_nil⟩
      show [⟨x0.text, true⟩, numW i1] = [x0, numW i1]
      rw [e0]
  | x0 :: x1 :: y :: r, _, h2, _ =>
    exfalso
    simp [tkF, argAt, Ar.lst] at h2
theorem told_N {n : Int} {xs : List Wd} {t : St} (hk : takesF [.N] xs = true) (h : stF [.N] 0 (st0 n) xs = some t) : Told [.N] n xs t := by
  unfold takesF at hk
  rw [Bool.and_eq_true, decide_eq_true_eq] at hk
  obtain ⟨h1, h2⟩ := hk
  match xs, h1, h2, h with
  | [], h1, _, _ => exact absurd h1 (by simp [nds, Ar.lst])
  | [x0], _, h2, h =>
    simp only [tkF, argAt, List.getElem?_cons_zero, Ar.quo, beq_iff_eq, Bool.and_true] at h2
    simp only [stF, argAt, List.getElem?_cons_zero] at h
    have q0 := h2
    cases n0 : num x0.text.data.toList with
    | none => simp [rdF, n0] at h
    | some i0 =>
      simp [rdF, n0] at h
      subst h
      obtain ⟨e0, b0⟩ := num_numW q0.symm n0
      subst e0
      refine ⟨?_, rfl, b0, z64, z64, oki_nil⟩
      show [numW i0] = [numW i0]
      rfl
  | x0 :: y :: r, _, h2, _ =>
    exfalso
    simp [tkF, argAt, Ar.lst] at h2
theorem told_L {n : Int} {xs : List Wd} {t : St} (hk : takesF [.L] xs = true) (h : stF [.L] 0 (st0 n) xs = some t) : Told [.L] n xs t := by
  unfold takesF at hk
  rw [Bool.and_eq_true, decide_eq_true_eq] at hk
  obtain ⟨h1, h2⟩ := hk
  obtain ⟨ns, ho, rfl, rfl⟩ := stF_L xs 0 (st0 n) t (fun j _ => at_last (pre := []) rfl j (Nat.zero_le _)) h2 h
  refine ⟨?_, rfl, z64, z64, z64, ho⟩
  show ([] ++ ns).map numW ++ [] = ns.map numW
  simp
theorem told_NM {n : Int} {xs : List Wd} {t : St} (hk : takesF [.N, .M] xs = true) (h : stF [.N, .M] 0 (st0 n) xs = some t) : Told [.N, .M] n xs t := by
  unfold takesF at hk
  rw [Bool.and_eq_true, decide_eq_true_eq] at hk
  obtain ⟨h1, h2⟩ := hk
  match xs, h1, h2, h with
  | [], h1, _, _ => exact absurd h1 (by simp [nds, Ar.lst])
  | [_], h1, _, _ => exact absurd h1 (by simp [nds, Ar.lst])
  | [x0, x1], _, h2, h =>
    simp only [tkF, argAt, List.getElem?_cons_zero, List.getElem?_cons_succ, Ar.quo, Bool.and_eq_true, beq_iff_eq, Bool.and_true] at h2
    simp only [stF, argAt, List.getElem?_cons_zero, List.getElem?_cons_succ] at h
    obtain ⟨q0, q1⟩ := h2
    cases n0 : num x0.text.data.toList with
    | none => simp [rdF, n0] at h
    | some i0 =>
      cases n1 : num x1.text.data.toList with
      | none => simp [rdF, n0, n1] at h
      | some i1 =>
        simp [rdF, n0, n1] at h
        subst h
        obtain ⟨e0, b0⟩ := num_numW q0.symm n0
        obtain ⟨e1, b1⟩ := num_numW q1.symm n1
        subst e0 e1
        refine ⟨?_, rfl, b0, b1, z64, oki_nil⟩
        show [numW i0, numW i1] = [numW i0, numW i1]
        rfl
  | x0 :: x1 :: y :: r, _, h2, _ =>
    exfalso
    simp [tkF, argAt, Ar.lst] at h2
theorem told_any : ∀ k ∈ kds, ∀ {xs : List Wd} {t : St}, takesF k.args xs = true → stF k.args 0 (st0 k.num) xs = some t → Told k.args k.num xs t := by
  intro k hk xs t h1 h2
  simp only [kds, List.mem_cons, List.not_mem_nil, or_false] at hk
  rcases hk with rfl | rfl | rfl | rfl | rfl | rfl | rfl | rfl | rfl | rfl | rfl | rfl | rfl | rfl | rfl | rfl | rfl | rfl | rfl | rfl | rfl
  · exact told_NMK h1 h2
  · exact told_NL h1 h2
  · exact told_none h1 h2
  · exact told_A h1 h2
  · exact told_A h1 h2
  · exact told_A h1 h2
  · exact told_A h1 h2
  · exact told_AB h1 h2
  · exact told_AB h1 h2
  · exact told_ANM h1 h2
  · exact told_ANB h1 h2
  · exact told_AN h1 h2
  · exact told_A h1 h2
  · exact told_A h1 h2
  · exact told_none h1 h2
  · exact told_none h1 h2
  · exact told_N h1 h2
  · exact told_L h1 h2
  · exact told_NM h1 h2
  · exact told_none h1 h2
  · exact told_NL h1 h2
end Go.Proofs.YtngoifbflpeapabDoor

