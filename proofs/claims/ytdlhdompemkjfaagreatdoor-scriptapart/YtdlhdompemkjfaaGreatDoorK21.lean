import Derived.Test.YtdlhdompemkjfaaGreatDoorK20
namespace Go.Proofs.YtdlhdompemkjfaaGreatDoor
open Go.RowKit Go.Maps
set_option maxRecDepth 100000

/-! Steps that have their kind's fields alone. -/
theorem bkS_idem : ∀ k ∈ kds, ∀ t, bkS k (bkS k t) = bkS k t := by
  intro k hk t
  simp only [kds, List.mem_cons, List.not_mem_nil, or_false] at hk
  rcases hk with rfl | rfl | rfl | rfl | rfl | rfl | rfl | rfl | rfl | rfl | rfl | rfl | rfl | rfl | rfl | rfl | rfl | rfl | rfl | rfl | rfl <;> rfl
theorem bkS_kind : ∀ k ∈ kds, ∀ t, (bkS k t).kind = k.num := by
  intro k hk t
  simp only [kds, List.mem_cons, List.not_mem_nil, or_false] at hk
  rcases hk with rfl | rfl | rfl | rfl | rfl | rfl | rfl | rfl | rfl | rfl | rfl | rfl | rfl | rfl | rfl | rfl | rfl | rfl | rfl | rfl | rfl <;> rfl
/-- The number of the kind that a step is given. -/
def kdn (n : Int) : Int := if n < 1 ∨ 21 < n then (Int.natAbs (n.tmod 21) : Int) + 1 else n
theorem kdn_in (n : Int) : 1 ≤ kdn n ∧ kdn n ≤ 21 := by
  unfold kdn
  split
  · have h2 := Int.natAbs_tmod n 21
    have h3 := Nat.mod_lt n.natAbs (show 0 < 21 by decide)
    rw [h2]
    show 1 ≤ ((n.natAbs % 21 : Nat) : Int) + 1 ∧ ((n.natAbs % 21 : Nat) : Int) + 1 ≤ 21
    omega
  · omega
theorem num_kd (n : Int) (h : 1 ≤ n ∧ n ≤ 21) : ∃ k, numOf n = some k ∧ k ∈ kds ∧ k.num = n := by
  have : ∀ i : Fin 21, (numOf ((i.val : Int) + 1)).isSome = true := by decide +kernel
  have h1 := this ⟨(n - 1).toNat, by omega⟩
  have e : (((n - 1).toNat : Nat) : Int) + 1 = n := by omega
  simp only [e] at h1
  obtain ⟨k, hk⟩ := Option.isSome_iff_exists.1 h1
  exact ⟨k, hk, mem_kds hk⟩
def kdF (n : Int) : Kd := (numOf (kdn n)).getD ⟨0, ⟨#[]⟩, []⟩
theorem kdF_in (n : Int) : numOf (kdn n) = some (kdF n) ∧ kdF n ∈ kds ∧ (kdF n).num = kdn n := by
  obtain ⟨k, h1, h2, h3⟩ := num_kd (kdn n) (kdn_in n)
  have : kdF n = k := by unfold kdF; rw [h1]; rfl
  rw [this]
  exact ⟨h1, h2, h3⟩
/-- A step of one of the kinds, with that kind's fields alone. -/
def shF (t : St) : St := bkS (kdF t.kind) t
def ctB (x : ByteArray) : ByteArray := if 2000 < x.size then x.extract 0 2000 else x
def ctS (t : St) : St := { t with a := ctB t.a, b := ctB t.b, l := t.l.take 500 }
/-- A step whose line isn't too long. -/
def cutF (t : St) : St := ctS (shF t)
theorem ctB_size (x : ByteArray) : (ctB x).size ≤ 2000 := by
  unfold ctB
  split
  · rw [ByteArray.size_extract]; omega
  · omega
theorem ct_back : ∀ k ∈ kds, ∀ t, bkS k (ctS (bkS k t)) = ctS (bkS k t) := by
  intro k hk t
  simp only [kds, List.mem_cons, List.not_mem_nil, or_false] at hk
  rcases hk with rfl | rfl | rfl | rfl | rfl | rfl | rfl | rfl | rfl | rfl | rfl | rfl | rfl | rfl | rfl | rfl | rfl | rfl | rfl | rfl | rfl <;> rfl
/-- How many bytes an argument takes of a line, at the most. -/
def wt : Ar → Nat
  | .A => 8003
  | .B => 8003
  | .L => 11000
  | _ => 22
theorem wt_sum : ∀ k ∈ kds, (k.args.map wt).sum + k.word.data.toList.length ≤ 16100 := by decide
def lns (l : List ByteArray) : Nat := (l.map fun x => x.data.toList.length + 1).sum
theorem lns_app (l r : List ByteArray) : lns (l ++ r) = lns l + lns r := by simp [lns]
theorem lns_nums : ∀ l : List Int, OkI l → lns (nums10 l) ≤ l.length * 22
  | [], _ => by simp [lns, nums10]
  | n :: l, h => by
    have h1 := lns_nums l (fun x hx => h x (List.mem_cons_of_mem _ hx))
    have h2 := Lib.itoa_length_le n (h n (by simp)).1 (h n (by simp)).2
    have e : lns (nums10 (n :: l)) = (Lib.itoa n).length + 1 + lns (nums10 l) := by simp only [lns, nums10, List.map_cons, List.sum_cons, data_mkB]
    rw [e, List.length_cons, Nat.add_mul]
    omega
/-- A step as short as cut makes it. -/
structure Sht (t : St) : Prop where
  a : t.a.size ≤ 2000
  b : t.b.size ≤ 2000
  l : t.l.length ≤ 500
theorem ctS_sht (t : St) : Sht (ctS t) := ⟨ctB_size _, ctB_size _, by show (t.l.take 500).length ≤ 500; rw [List.length_take]; omega⟩
theorem lns_tl {t : St} (ho : OkS t) (hs : Sht t) (a : Ar) : lns (tlF a t) ≤ wt a := by
  have h1 : ∀ s : ByteArray, s.size ≤ 2000 → lns [mkB (quo s.data.toList)] ≤ 8003 := by
    intro s hs
    have := quo_le s.data.toList
    rw [size_len] at hs
    simp only [lns, List.map_cons, List.map_nil, List.sum_cons, List.sum_nil, data_mkB]
    omega
  cases a with
  | A => exact h1 _ hs.a
  | B => exact h1 _ hs.b
  | N => exact lns_nums _ (okI_one ho.n)
  | M => exact lns_nums _ (okI_one ho.m)
  | K => exact lns_nums _ (okI_one ho.k)
  | L => have := lns_nums _ ho.o; have := hs.l; show lns (nums10 t.l) ≤ 11000; omega
theorem lns_tells {t : St} (ho : OkS t) (hs : Sht t) : ∀ l : List Ar, lns (tells l t) ≤ (l.map wt).sum
  | [] => by simp [tells, lns]
  | a :: l => by
    have h1 := lns_tells ho hs l
    have h2 := lns_tl ho hs a
    have e : tells (a :: l) t = tlF a t ++ tells l t := by simp [tells]
    rw [e, lns_app, List.map_cons, List.sum_cons]
    omega
theorem join_lns : ∀ l : List ByteArray, (Lib.join (l.map (·.data.toList)) [32]).length ≤ lns l
  | [] => by simp [Lib.join, lns]
  | [x] => by simp [Lib.join, lns]
  | x :: y :: r => by
    have h2 := join_lns (y :: r)
    have e : Lib.join ((x :: y :: r).map (·.data.toList)) [32] = x.data.toList ++ [32] ++ Lib.join ((y :: r).map (·.data.toList)) [32] := by simp [Lib.join]
    have e2 : lns (x :: y :: r) = x.data.toList.length + 1 + lns (y :: r) := by simp [lns]
    rw [e, e2, List.length_append, List.length_append, List.length_singleton]
    omega
theorem line_short {t : St} (ho : OkS t) (hs : Sht t) {k : Kd} (hk : k ∈ kds) : (line k t).length ≤ 16101 := by
  have h1 := join_lns (k.word :: tells k.args t)
  have h2 := lns_tells ho hs k.args
  have h3 := wt_sum k hk
  have e : lns (k.word :: tells k.args t) = k.word.data.toList.length + 1 + lns (tells k.args t) := by simp [lns]
  unfold line
  omega
theorem toList_inj {a b : ByteArray} (h : a.toList = b.toList) : a = b := by
  rw [ByteArray.toList_eq, ByteArray.toList_eq] at h
  rw [← mkB_data a, h, mkB_data]
theorem smF_refl (t : St) : smF t t = true := by simp [smF]
theorem smF_iff {t u : St} : smF t u = true ↔ t = u := by
  constructor
  · intro h
    obtain ⟨a1, a2, a3, a4, a5, a6, a7⟩ := t
    obtain ⟨b1, b2, b3, b4, b5, b6, b7⟩ := u
    simp only [smF, Bool.and_eq_true, beq_iff_eq] at h
    obtain ⟨rfl, h2, h3, rfl, rfl, rfl, rfl⟩ := h
    have e2 : a2 = b2 := toList_inj h2
    have e3 : a3 = b3 := toList_inj h3
    rw [e2, e3]
  · rintro rfl; exact smF_refl _
theorem line_ne {k : Kd} (hk : k ∈ kds) (t : St) : line k t ≠ [] := by
  intro h
  have h1 := wds_line hk t 0
  rw [h] at h1
  rw [show ([] : Bs) ++ List.replicate 0 32 = List.replicate 0 32 from rfl, wds_blanks] at h1
  simp [lineW] at h1
/-- Line, with blanks ahead of and behind a written line. -/
theorem line_blanks {t : St} (ho : OkS t) {k : Kd} (hk : k ∈ kds) (m n : Nat) (hl : (line k t).length + m + n ≤ 20000) :
    lnE (List.replicate m 32 ++ (line k t ++ List.replicate n 32)) = 0 ∧ lnS (List.replicate m 32 ++ (line k t ++ List.replicate n 32)) = bkS k t := by
  have h := line_back ho hk n (by rw [List.length_append, List.length_replicate]; omega)
  have e : ∀ x : Bs, x.length + m ≤ 20000 → lnE (List.replicate m 32 ++ x) = lnE x ∧ lnS (List.replicate m 32 ++ x) = lnS x := by
    intro x hx
    unfold lnE lnS
    rw [wds_lead, if_neg (by rw [List.length_append, List.length_replicate]; omega), if_neg (by omega), if_neg (by rw [List.length_append, List.length_replicate]; omega), if_neg (by omega)]
    exact ⟨rfl, rfl⟩
  have e1 := e (line k t ++ List.replicate n 32) (by rw [List.length_append, List.length_replicate]; omega)
  rw [e1.1, e1.2]
  exact h
/-- A step that its line tells whole has that line. -/
theorem pr_line {t : St} (ho : OkS t) {k : Kd} (hk : k ∈ kds) (hb : bkS k t = t) (hl : (line k t).length ≤ 20000) : prF t = line k t := by
  have h := line_back ho hk 0 (by simpa using hl)
  have e0 : line k t ++ List.replicate 0 32 = line k t := by simp
  rw [e0] at h
  have hn : t.kind = k.num := by rw [← hb]; exact bkS_kind k hk t
  have e : wrF t = line k t := by unfold wrF; rw [hn, (kd_finds k hk).2]
  unfold prF okF
  rw [e, h.1, h.2, hb, smF_refl]
  rfl
theorem cut_back (t : St) : bkS (kdF t.kind) (cutF t) = cutF t := ct_back _ (kdF_in _).2.1 _
theorem fld_ok {t r : St} (ht : OkS t) (hr : OkS r) (hz : r.l = []) (a : Ar) : OkS (fld t r a) := by
  cases a with
  | A => exact ⟨ht.a, hr.b, hr.n, hr.m, hr.k, hr.l, hr.o⟩
  | B => exact ⟨hr.a, ht.b, hr.n, hr.m, hr.k, hr.l, hr.o⟩
  | N => exact ⟨hr.a, hr.b, ht.n, hr.m, hr.k, hr.l, hr.o⟩
  | M => exact ⟨hr.a, hr.b, hr.n, ht.m, hr.k, hr.l, hr.o⟩
  | K => exact ⟨hr.a, hr.b, hr.n, hr.m, ht.k, hr.l, hr.o⟩
  | L => exact ⟨hr.a, hr.b, hr.n, hr.m, hr.k, (by show (r.l ++ t.l).length ≤ _; rw [hz]; exact ht.l), (by show OkI (r.l ++ t.l); rw [hz]; exact ht.o)⟩
theorem st0_ok (n : Int) : OkS (st0 n) := ⟨by show (0 : Nat) ≤ _; omega, by show (0 : Nat) ≤ _; omega, by show -9223372036854775808 ≤ (0 : Int) ∧ (0 : Int) ≤ _; omega, by show -9223372036854775808 ≤ (0 : Int) ∧ (0 : Int) ≤ _; omega, by show -9223372036854775808 ≤ (0 : Int) ∧ (0 : Int) ≤ _; omega, by show (0 : Nat) ≤ _; omega, fun x hx => absurd hx (by simp [st0])⟩
/-- What Go's ints, texts and lists are, however long. -/
structure InS (t : St) : Prop where
  n : -9223372036854775808 ≤ t.n ∧ t.n ≤ 9223372036854775807
  m : -9223372036854775808 ≤ t.m ∧ t.m ≤ 9223372036854775807
  k : -9223372036854775808 ≤ t.k ∧ t.k ≤ 9223372036854775807
  o : OkI t.l
theorem cut_ok {t : St} (h : InS t) : OkS (cutF t) ∧ Sht (cutF t) := by
  have hs : Sht (cutF t) := ctS_sht _
  refine ⟨⟨Nat.le_trans hs.a (by decide), Nat.le_trans hs.b (by decide), ?_, ?_, ?_, Nat.le_trans hs.l (by decide), ?_⟩, hs⟩
  all_goals
    have hk := (kdF_in t.kind).2.1
    unfold cutF shF
    generalize kdF t.kind = k at hk
    clear hs
  · show -9223372036854775808 ≤ (bkS k t).n ∧ _
    have z : -9223372036854775808 ≤ (0 : Int) ∧ (0 : Int) ≤ 9223372036854775807 := by decide
    have hn := h.n
    simp only [kds, List.mem_cons, List.not_mem_nil, or_false] at hk
    rcases hk with rfl | rfl | rfl | rfl | rfl | rfl | rfl | rfl | rfl | rfl | rfl | rfl | rfl | rfl | rfl | rfl | rfl | rfl | rfl | rfl | rfl <;> first | exact hn | exact z
  · show -9223372036854775808 ≤ (bkS k t).m ∧ _
    have z : -9223372036854775808 ≤ (0 : Int) ∧ (0 : Int) ≤ 9223372036854775807 := by decide
    have hn := h.m
    simp only [kds, List.mem_cons, List.not_mem_nil, or_false] at hk
    rcases hk with rfl | rfl | rfl | rfl | rfl | rfl | rfl | rfl | rfl | rfl | rfl | rfl | rfl | rfl | rfl | rfl | rfl | rfl | rfl | rfl | rfl <;> first | exact hn | exact z
  · show -9223372036854775808 ≤ (bkS k t).k ∧ _
    have z : -9223372036854775808 ≤ (0 : Int) ∧ (0 : Int) ≤ 9223372036854775807 := by decide
    have hn := h.k
    simp only [kds, List.mem_cons, List.not_mem_nil, or_false] at hk
    rcases hk with rfl | rfl | rfl | rfl | rfl | rfl | rfl | rfl | rfl | rfl | rfl | rfl | rfl | rfl | rfl | rfl | rfl | rfl | rfl | rfl | rfl <;> first | exact hn | exact z
  · have e : OkI (bkS k t).l := by
      have z : OkI [] := fun x hx => absurd hx (by simp)
      have hn := h.o
      simp only [kds, List.mem_cons, List.not_mem_nil, or_false] at hk
      rcases hk with rfl | rfl | rfl | rfl | rfl | rfl | rfl | rfl | rfl | rfl | rfl | rfl | rfl | rfl | rfl | rfl | rfl | rfl | rfl | rfl | rfl <;> first | exact hn | exact z
    exact fun x hx => e x (List.mem_of_mem_take hx)
/-- What the program makes of a step that is cut: its line, and what is read of it, with blanks about it too. -/
theorem cut_round {t : St} (h : InS t) (m n : Nat) (hmn : m + n ≤ 100) : prF (cutF t) = line (kdF t.kind) (cutF t) ∧ prF (cutF t) ≠ [] ∧ (prF (cutF t)).length ≤ 16101 ∧
    lnE (List.replicate m 32 ++ (prF (cutF t) ++ List.replicate n 32)) = 0 ∧ lnS (List.replicate m 32 ++ (prF (cutF t) ++ List.replicate n 32)) = cutF t := by
  obtain ⟨ho, hs⟩ := cut_ok h
  have hk := (kdF_in t.kind).2.1
  have hl := line_short ho hs hk
  have hb := cut_back t
  have hp := pr_line ho hk hb (by omega)
  have h2 := line_blanks ho hk m n (by omega)
  rw [hb] at h2
  rw [hp]
  exact ⟨rfl, line_ne hk _, hl, h2⟩
end Go.Proofs.YtdlhdompemkjfaaGreatDoor
