import Derived.Test.YtnafocbgapianabD1
import Derived.Test.YtnafocbgapianabF1
import Derived.Test.YtnafocbgapianabZ1
namespace Go.Proofs.Ytnafocbgapianab
open Go.RowKit

/-! Lists that are handed in, of any length: copied, compared. -/

def spI (l : List (Int × Int)) : List Value := l.flatMap fun s => [.int .i64 s.1, .int .i64 s.2]
theorem spI_len (l : List (Int × Int)) : (spI l).length = l.length * 2 := by
  induction l with
  | nil => rfl
  | cons s l ih => simp only [spI, List.flatMap_cons, List.length_append, List.length_cons, List.length_nil] at *; omega
theorem spI_get (l : List (Int × Int)) (i : Nat) (h : i < l.length) : (spI l)[i * 2]? = some (.int .i64 (l.getD i (0, 0)).1) ∧ (spI l)[i * 2 + 1]? = some (.int .i64 (l.getD i (0, 0)).2) := by
  induction l generalizing i with
  | nil => simp at h
  | cons s l ih =>
    cases i with
    | zero => simp [spI]
    | succ i =>
      have := ih i (by simpa using h)
      have e : spI (s :: l) = .int .i64 s.1 :: .int .i64 s.2 :: spI l := rfl
      rw [e, show (i + 1) * 2 = i * 2 + 1 + 1 by omega]
      simp only [List.getElem?_cons_succ, List.getD_cons_succ]
      exact this
theorem spI_ones (l : List (Int × Int)) : ∀ u ∈ spI l, u.oneCell' = true := by
  intro u hu
  unfold spI at hu
  rw [List.mem_flatMap] at hu
  obtain ⟨s, _, hs⟩ := hu
  simp at hs
  rcases hs with rfl | rfl <;> rfl
def inI (l : List Int) : List Value := l.map fun x => .int .i64 x
theorem inI_len (l : List Int) : (inI l).length = l.length := by simp [inI]
theorem inI_get (l : List Int) (i : Nat) (h : i < l.length) : (inI l)[i]? = some (.int .i64 (l.getD i 0)) := by
  simp [inI, List.getD_eq_getElem?_getD, h]
theorem inI_ones (l : List Int) : ∀ u ∈ inI l, u.oneCell' = true := by
  intro u hu
  unfold inI at hu
  rw [List.mem_map] at hu
  obtain ⟨s, _, rfl⟩ := hu
  rfl

theorem spI_cells {w : World} {p : Option Addr} {l : List (Int × Int)} (h : SpIn w p l) : 0 < l.length → ∃ ad, p = some ad ∧ ∀ j u, (spI l)[j]? = some u → w.cell? (ad.add j) = some u := by
  intro h0
  obtain ⟨b, o, rfl, hb, hc⟩ := h h0
  refine ⟨_, rfl, ?_⟩
  intro j u hj
  have hjl := (List.getElem?_eq_some_iff.1 hj).1
  rw [spI_len] at hjl
  have hadd : (⟨b, o, none⟩ : Addr).add j = ⟨b, o + j, none⟩ := by unfold Addr.add; split <;> simp_all
  rw [hadd]
  have hi : j / 2 < l.length := by omega
  obtain ⟨c0, c1⟩ := hc (j / 2) hi
  obtain ⟨s0, s1⟩ := spI_get l (j / 2) hi
  rcases Nat.mod_two_eq_zero_or_one j with hm | hm
  · rw [show j / 2 * 2 = j by omega] at c0 s0
    rw [s0] at hj
    rw [c0]; exact hj
  · rw [show o + j / 2 * 2 + 1 = o + j by omega] at c1
    rw [show j / 2 * 2 + 1 = j by omega] at s1
    rw [s1] at hj
    rw [c1]; exact hj
theorem inI_cells {w : World} {p : Option Addr} {l : List Int} (h : IntIn w p l) : 0 < l.length → ∃ ad, p = some ad ∧ ∀ j u, (inI l)[j]? = some u → w.cell? (ad.add j) = some u := by
  intro h0
  obtain ⟨b, o, rfl, hb, hc⟩ := h h0
  refine ⟨_, rfl, ?_⟩
  intro j u hj
  have hjl := (List.getElem?_eq_some_iff.1 hj).1
  rw [inI_len] at hjl
  have hadd : (⟨b, o, none⟩ : Addr).add j = ⟨b, o + j, none⟩ := by unfold Addr.add; split <;> simp_all
  rw [hadd, hc j hjl, ← inI_get l j hjl]; exact hj

theorem row_spIn {w : World} {B : Nat} {v : Value} {l : List (Int × Int)} (h : w.ownsRow B 46 2 v l.length (spI l)) : ∃ p cap, v = .slice p l.length cap ∧ SpIn w p l ∧ (∀ b, p.map (·.block) = some b → B ≤ b) := by
  by_cases hn : 0 < l.length
  · obtain ⟨g, cap, hv, hB, hg⟩ := h.form hn
    rw [hv] at h
    refine ⟨_, cap, hv, fun _ => ⟨g, 0, rfl, hg, fun i hi => ?_⟩, fun b hb => by cases hb; exact hB⟩
    obtain ⟨s0, s1⟩ := spI_get l i hi
    rw [Nat.zero_add, h.cellAt (i * 2) (by omega), h.cellAt (i * 2 + 1) (by omega)]
    exact ⟨s0, s1⟩
  · rcases h.2 with ⟨h0, h1⟩ | ⟨g, cap, cur, hv, hB, _⟩
    · exact ⟨none, 0, by rw [h0, h1], fun h => by omega, fun b hb => by cases hb⟩
    · exact ⟨_, cap, hv, fun h => by omega, fun b hb => by cases hb; exact hB⟩
theorem row_intIn {w : World} {B : Nat} {v : Value} {l : List Int} (h : w.ownsRow B 3 1 v l.length (inI l)) : ∃ p cap, v = .slice p l.length cap ∧ IntIn w p l ∧ (∀ b, p.map (·.block) = some b → B ≤ b) := by
  by_cases hn : 0 < l.length
  · obtain ⟨g, cap, hv, hB, hg⟩ := h.form hn
    rw [hv] at h
    refine ⟨_, cap, hv, fun _ => ⟨g, 0, rfl, hg, fun i hi => ?_⟩, fun b hb => by cases hb; exact hB⟩
    rw [Nat.zero_add, h.cellAt i (by omega)]
    exact inI_get l i hi
  · rcases h.2 with ⟨h0, h1⟩ | ⟨g, cap, cur, hv, hB, _⟩
    · exact ⟨none, 0, by rw [h0, h1], fun h => by omega, fun b hb => by cases hb⟩
    · exact ⟨_, cap, hv, fun h => by omega, fun b hb => by cases hb; exact hB⟩

set_option maxHeartbeats 1000000 in
theorem copySpansI (w : World) (p : Option Addr) (cap : Nat) (l : List (Int × Int)) (h : SpIn w p l) (hl : l.length ≤ maxLen) (hw : l.length * 16 ≤ 140737488355328) :
    Calls Try.prog 13 #[.slice p l.length cap] w fun e w' => ∃ q c, e = .returned (.slice q l.length c) ∧ SpIn w' q l ∧ (∀ b, q.map (·.block) = some b → w.heap.size ≤ b) ∧ Keeps (fun k => w.heap.size ≤ k) w w' := by
  obtain ⟨i0, hi, hz0, hz1, hz2⟩ := info_parts info31
  have HC := Hid.mk' (spI_cells h)
  have HL := Hid.mk' (spI_len l)
  clear h
  go_enter Try.func13, Try.ntmps13
  go_wp2_with (first
    | (at_builtin; go_must (refine wpList_append_copy _ rfl _ _ 30 rfl 46 i0 (.agg #[.int .i64 0, .int .i64 0]) 2 16 Try.underlying30 hi hz0 hz1 hz2 rfl (by decide) rfl p l.length cap (spI l) rfl HL.out HC.out (spI_ones l) hl hw ?_); intro v2 w2 hown2 hgrow2))
  go_ret
  obtain ⟨q, c, rfl, q1, q2⟩ := row_spIn hown2
  exact ⟨q, c, rfl, q1, q2, Keeps.of hgrow2 (by simp)⟩

set_option maxHeartbeats 1000000 in
theorem copyIntsI (w : World) (p : Option Addr) (cap : Nat) (l : List Int) (h : IntIn w p l) (hl : l.length ≤ maxLen) (hw : l.length * 8 ≤ 140737488355328) :
    Calls Try.prog 60 #[.slice p l.length cap] w fun e w' => ∃ q c, e = .returned (.slice q l.length c) ∧ IntIn w' q l ∧ (∀ b, q.map (·.block) = some b → w.heap.size ≤ b) ∧ Keeps (fun k => w.heap.size ≤ k) w w' := by
  obtain ⟨i0, hi, hz0, hz1, hz2⟩ := info_parts info3
  have HC := Hid.mk' (inI_cells h)
  have HL := Hid.mk' (inI_len l)
  clear h
  go_enter Try.func60, Try.ntmps60
  go_wp2_with (first
    | (at_builtin; go_must (refine wpList_append_copy _ rfl _ _ 49 rfl 3 i0 (.int .i64 0) 1 8 Try.underlying49 hi hz0 hz1 hz2 rfl (by decide) rfl p l.length cap (inI l) rfl (by rw [HL.out, Nat.mul_one]) HC.out (inI_ones l) hl hw ?_); intro v2 w2 hown2 hgrow2))
  go_ret
  obtain ⟨q, c, rfl, q1, q2⟩ := row_intIn hown2
  exact ⟨q, c, rfl, q1, q2, Keeps.of hgrow2 (by simp)⟩

set_option maxHeartbeats 1000000 in
theorem sameSpansI (w : World) (p q : Option Addr) (ca cb : Nat) (l : List (Int × Int)) (h : SpIn w p l) (h2 : SpIn w q l) (hl : l.length ≤ maxLen) :
    Calls Try.prog 18 #[.slice p l.length ca, .slice q l.length cb] w fun e w' => e = .returned (.bool true) ∧ ∃ m, w' = w.drewN m := by
  have HP := Hid.mk' h
  have HQ := Hid.mk' h2
  unfold maxLen at hl
  clear h h2
  go_enter Try.func18, Try.ntmps18
  go_wp2
  go_loopw [5] (fun iv wr => ∃ (i : Nat) (m : Nat), i ≤ l.length ∧ iv = .int .i64 i ∧ wr = w.drewN m) (fun iv _ => l.length - (intOf iv).toNat)
  case atStart => exact ⟨0, 0, by omega, rfl, rfl⟩
  case round =>
    obtain ⟨i, m, hi, rfl, rfl⟩ := hrel
    by_cases hlt : i < l.length
    · have hlt' : (i : Int) < (l.length : Int) := by omega
      have hi0 : (0 : Int) ≤ (i : Int) := by omega
      obtain ⟨b, o, rfl, hb, hc⟩ := HP.out (by omega)
      obtain ⟨b2, o2, rfl, hb2, hc2⟩ := HQ.out (by omega)
      obtain ⟨e1, e2⟩ := hc i hlt
      obtain ⟨e3, e4⟩ := hc2 i hlt
      generalize l.getD i (0, 0) = s at *
      obtain ⟨f, n⟩ := s
      simp only at e1 e2 e3 e4
      clear hc hc2
      go_wp2
      go_quiet (fail)
      go_wp2
      go_roundw
      case rel => exact ⟨i + 1, m + nq, by omega, by go_num, by simp⟩
      case measure => simp [intOf]; omega
    · have hlt' : ¬ (i : Int) < (l.length : Int) := by omega
      go_wp2
      go_ret
      exact ⟨rfl, m, rfl⟩

set_option maxHeartbeats 1000000 in
theorem sameIntsI (w : World) (p q : Option Addr) (ca cb : Nat) (l : List Int) (h : IntIn w p l) (h2 : IntIn w q l) (hl : l.length ≤ maxLen) :
    Calls Try.prog 62 #[.slice p l.length ca, .slice q l.length cb] w fun e w' => e = .returned (.bool true) ∧ ∃ m, w' = w.drewN m := by
  have HP := Hid.mk' h
  have HQ := Hid.mk' h2
  unfold maxLen at hl
  clear h h2
  go_enter Try.func62, Try.ntmps62
  go_wp2
  go_loopw [5] (fun iv wr => ∃ (i : Nat) (m : Nat), i ≤ l.length ∧ iv = .int .i64 i ∧ wr = w.drewN m) (fun iv _ => l.length - (intOf iv).toNat)
  case atStart => exact ⟨0, 0, by omega, rfl, rfl⟩
  case round =>
    obtain ⟨i, m, hi, rfl, rfl⟩ := hrel
    by_cases hlt : i < l.length
    · have hlt' : (i : Int) < (l.length : Int) := by omega
      have hi0 : (0 : Int) ≤ (i : Int) := by omega
      obtain ⟨b, o, rfl, hb, hc⟩ := HP.out (by omega)
      obtain ⟨b2, o2, rfl, hb2, hc2⟩ := HQ.out (by omega)
      have e1 := hc i hlt
      have e3 := hc2 i hlt
      generalize l.getD i 0 = s at *
      clear hc hc2
      go_wp2
      go_quiet (fail)
      go_wp2
      go_roundw
      case rel => exact ⟨i + 1, m + nq, by omega, by go_num, by simp⟩
      case measure => simp [intOf]; omega
    · have hlt' : ¬ (i : Int) < (l.length : Int) := by omega
      go_wp2
      go_ret
      exact ⟨rfl, m, rfl⟩

end Go.Proofs.Ytnafocbgapianab
