import Derived.Test.YtngoifbflpeapaaDoorQ1
namespace Go.Proofs.YtngoifbflpeapaaDoor
open Go.RowKit Go.Maps
set_option maxRecDepth 100000

/-! A step with a field that its kind may not have. -/
def wt2 : Ar → Nat
  | .A => 8007
  | .B => 8007
  | .L => 11022
  | _ => 22
theorem wt2_sum : ∀ k ∈ kds, (k.args.map wt2).sum + k.word.data.toList.length ≤ 16200 := by decide
structure Sht2 (t : St) : Prop where
  a : t.a.size ≤ 2001
  b : t.b.size ≤ 2001
  l : t.l.length ≤ 501
theorem lns_tl2 {t : St} (ho : OkS t) (hs : Sht2 t) (a : Ar) : lns (tlF a t) ≤ wt2 a := by
  have h1 : ∀ s : ByteArray, s.size ≤ 2001 → lns [mkB (quo s.data.toList)] ≤ 8007 := by
    intro s hs
    have := quo_le s.data.toList
    rw [size_len] at hs
    simp only [lns, List.map_cons, List.map_nil, List.sum_cons, List.sum_nil, data_mkB]
    omega
  cases a with
  | A => exact h1 _ hs.a
  | B => exact h1 _ hs.b
  | N => exact lns_nums _ (okI_one ho.n)
  | M => exact lns_nums _ (okI_one ho.m)
  | K => exact lns_nums _ (okI_one ho.k)
  | L => have := lns_nums _ ho.o; have := hs.l; show lns (nums10 t.l) ≤ 11022; omega
theorem lns_tells2 {t : St} (ho : OkS t) (hs : Sht2 t) : ∀ l : List Ar, lns (tells l t) ≤ (l.map wt2).sum
  | [] => by simp [tells, lns]
  | a :: l => by
    have h1 := lns_tells2 ho hs l
    have h2 := lns_tl2 ho hs a
    have e : tells (a :: l) t = tlF a t ++ tells l t := by simp [tells]
    rw [e, lns_app, List.map_cons, List.sum_cons]
    omega
theorem line_short2 {t : St} (ho : OkS t) (hs : Sht2 t) {k : Kd} (hk : k ∈ kds) : (line k t).length ≤ 20000 := by
  have h1 := join_lns (k.word :: tells k.args t)
  have h2 := lns_tells2 ho hs k.args
  have h3 := wt2_sum k hk
  have e : lns (k.word :: tells k.args t) = k.word.data.toList.length + 1 + lns (tells k.args t) := by simp [lns]
  unfold line
  omega
theorem kdF_num {k : Kd} (hk : k ∈ kds) : kdF k.num = k := by
  have hr : 1 ≤ k.num ∧ k.num ≤ 21 := by
    have : ∀ k ∈ kds, 1 ≤ k.num ∧ k.num ≤ 21 := by decide
    exact this k hk
  have e : kdn k.num = k.num := by unfold kdn; rw [if_neg (by omega)]
  unfold kdF
  rw [e, (kd_finds k hk).2]
  rfl
/-- It has a line just if it has its kind's fields alone. -/
theorem has_line {t : St} (ho : OkS t) (hs : Sht2 t) {k : Kd} (hk : k ∈ kds) (hn : t.kind = k.num) : (mkB (prF t)).toList.isEmpty = !smF (shF t) t := by
  have hl := line_short2 ho hs hk
  have hb := line_back ho hk 0 (by simpa using hl)
  have e0 : line k t ++ List.replicate 0 32 = line k t := by simp
  rw [e0] at hb
  have e : wrF t = line k t := by unfold wrF; rw [hn, (kd_finds k hk).2]
  have es : shF t = bkS k t := by unfold shF; rw [hn, kdF_num hk]
  have eo : okF t = smF (bkS k t) t := by unfold okF; rw [e, hb.1, hb.2]; simp
  rw [ByteArray.toList_eq, data_mkB, es]
  unfold prF
  rw [eo]
  cases smF (bkS k t) t with
  | true => rw [if_pos rfl, e]; simp only [Bool.not_true]; rw [List.isEmpty_eq_false_iff]; exact line_ne hk t
  | false => rfl
theorem no_line {t : St} (h : t.kind < 1 ∨ 21 < t.kind) : prF t = [] := by
  have hn : numOf t.kind = none := by
    cases hk : numOf t.kind with
    | none => rfl
    | some k =>
      have hm := mem_kds hk
      have : ∀ k ∈ kds, 1 ≤ k.num ∧ k.num ≤ 21 := by decide
      have := this k hm.1
      have := hm.2
      omega
  unfold prF
  have e : wrF t = [] := by unfold wrF; rw [hn]
  rw [e]
  split <;> rfl
/-- The step with another field. -/
def fU (r : Int) (t : St) : St := if r = 0 then { t with a := t.a ++ ⟨#[120]⟩ } else if r = 1 then { t with b := t.b ++ ⟨#[120]⟩ } else if r = 2 then { t with n := 7 } else if r = 3 then { t with m := 7 } else if r = 4 then { t with k := 7 } else { t with l := t.l ++ [7] }
theorem fU_kind (r : Int) (t : St) : (fU r t).kind = t.kind := by
  unfold fU
  split
  · rfl
  split
  · rfl
  split
  · rfl
  split
  · rfl
  split
  · rfl
  · rfl
theorem add_size (a : ByteArray) (h : a.size ≤ 2000) : (a ++ ⟨#[120]⟩).size ≤ 2001 := by
  rw [ByteArray.size_append]
  have : (⟨#[120]⟩ : ByteArray).size = 1 := rfl
  omega
theorem fU_ok {t : St} (ho : OkS t) (hs : Sht t) (r : Int) : OkS (fU r t) ∧ Sht2 (fU r t) := by
  have ha := hs.a
  have hb := hs.b
  have hl := hs.l
  have s0 : -9223372036854775808 ≤ (7 : Int) ∧ (7 : Int) ≤ 9223372036854775807 := by decide
  unfold fU
  split
  · have := add_size t.a ha
    exact ⟨⟨by show (t.a ++ ⟨#[120]⟩).size ≤ _; omega, ho.b, ho.n, ho.m, ho.k, ho.l, ho.o⟩, ⟨this, by show t.b.size ≤ _; omega, by show t.l.length ≤ _; omega⟩⟩
  split
  · have := add_size t.b hb
    exact ⟨⟨ho.a, by show (t.b ++ ⟨#[120]⟩).size ≤ _; omega, ho.n, ho.m, ho.k, ho.l, ho.o⟩, ⟨by show t.a.size ≤ _; omega, this, by show t.l.length ≤ _; omega⟩⟩
  have z : Sht2 t := ⟨by omega, by omega, by omega⟩
  split
  · exact ⟨⟨ho.a, ho.b, s0, ho.m, ho.k, ho.l, ho.o⟩, ⟨z.a, z.b, z.l⟩⟩
  split
  · exact ⟨⟨ho.a, ho.b, ho.n, s0, ho.k, ho.l, ho.o⟩, ⟨z.a, z.b, z.l⟩⟩
  split
  · exact ⟨⟨ho.a, ho.b, ho.n, ho.m, s0, ho.l, ho.o⟩, ⟨z.a, z.b, z.l⟩⟩
  · have e : (t.l ++ [7]).length = t.l.length + 1 := by simp
    refine ⟨⟨ho.a, ho.b, ho.n, ho.m, ho.k, by show (t.l ++ [7]).length ≤ _; omega, ?_⟩, ⟨z.a, z.b, by show (t.l ++ [7]).length ≤ _; omega⟩⟩
    intro x hx
    rcases List.mem_append.1 hx with h | h
    · exact ho.o x h
    · rw [List.mem_singleton.1 h]; exact s0
end Go.Proofs.YtngoifbflpeapaaDoor

