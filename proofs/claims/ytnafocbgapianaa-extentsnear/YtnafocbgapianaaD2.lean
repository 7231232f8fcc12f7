import Derived.Test.YtnafocbgapianaaD1
import Derived.Test.YtnafocbgapianaaB9
namespace Go.Proofs.Ytnafocbgapianaa
open Go.RowKit

/-- The cells of a list of numbers. -/
def numCells (l : List Int) : List Value := l.map fun q => .int .i64 q

theorem numCells_ones (l : List Int) : ∀ u ∈ numCells l, u.oneCell' = true := by
  intro u hu
  unfold numCells at hu
  rw [List.mem_map] at hu
  obtain ⟨q, _, rfl⟩ := hu
  rfl
theorem intIn_cells {w : World} {p : Option Addr} {l : List Int} (h : IntIn w p l) : 0 < l.length → ∃ ad, p = some ad ∧ ∀ j u, (numCells l)[j]? = some u → w.cell? (ad.add j) = some u := by
  intro h0
  obtain ⟨b, o, rfl, hb, hc⟩ := h h0
  refine ⟨_, rfl, ?_⟩
  intro j u hj
  have hjl : j < l.length := by have := (List.getElem?_eq_some_iff.1 hj).1; simpa [numCells] using this
  have hadd : (⟨b, o, none⟩ : Addr).add j = ⟨b, o + j, none⟩ := by unfold Addr.add; split <;> simp_all
  rw [hadd, hc j hjl]
  unfold numCells at hj
  rw [List.getElem?_map, List.getElem?_eq_getElem hjl] at hj
  rw [List.getD_eq_getElem?_getD, List.getElem?_eq_getElem hjl]
  simpa using hj
theorem IntIn.grown {w w' : World} {p : Option Addr} {l : List Int} {X : Nat → Prop} (h : IntIn w p l) (k : Keeps X w w') (hX : ∀ b, X b → w.heap.size ≤ b) : IntIn w' p l := by
  intro h0
  obtain ⟨b, o, e, hb, hc⟩ := h h0
  have hn : ¬ X b := fun hx => by have := hX b hx; omega
  exact ⟨b, o, e, Nat.lt_of_lt_of_le hb k.size, fun i hi => k.cell (hc i hi) hn⟩
/-- A row that begins with these numbers. -/
theorem intIn_row {w : World} {B g n cap : Nat} {l : List Int} {xs : List Value} (h : w.ownsRow B 3 1 (.slice (some ⟨g, 0, none⟩) n cap) n (numCells l ++ xs)) : IntIn w (some ⟨g, 0, none⟩) l := by
  intro h0
  refine ⟨g, 0, rfl, (h.lt g rfl).2, ?_⟩
  intro i hi
  have hl := h.1
  rw [List.length_append] at hl
  have hnl : (numCells l).length = l.length := by simp [numCells]
  rw [Nat.zero_add, h.cellAt i (by omega), List.getElem?_append_left (by omega)]
  unfold numCells
  rw [List.getElem?_map, List.getD_eq_getElem?_getD, List.getElem?_eq_getElem hi]; rfl

set_option maxHeartbeats 1000000 in
theorem copyInts_any (w : World) (p : Option Addr) (cap : Nat) (l : List Int) (h : IntIn w p l) (hl : l.length ≤ 2000) :
    Calls Try.prog 29 #[.slice p l.length cap] w fun e w' => ∃ v, e = .returned v ∧ w'.ownsRow w.heap.size 3 1 v l.length (numCells l) ∧ Keeps (fun k => w.heap.size ≤ k) w w' := by
  obtain ⟨i0, hi, hz0, hz1, hz2⟩ := info_parts info3
  have HC := Hid.mk' (intIn_cells h)
  have HL : Hid ((numCells l).length = l.length * 1) := by show _ = _; simp [numCells]
  clear h
  go_enter Try.func29, Try.ntmps29
  go_wp2_with (first
    | (at_builtin; go_must (refine wpList_append_copy _ rfl _ _ 49 rfl 3 i0 (.int .i64 0) 1 8 Try.underlying49 hi hz0 hz1 hz2 rfl (by decide) rfl p l.length cap (numCells l) rfl HL.out HC.out (numCells_ones l) (by unfold maxLen; omega) (by omega) ?_); intro v2 w2 hown2 hgrow2))
  go_ret
  exact ⟨_, rfl, hown2, Keeps.of hgrow2 (by simp)⟩

set_option maxHeartbeats 1000000 in
theorem sameInts_yes (w : World) (p q : Option Addr) (ca cb : Nat) (l : List Int) (h : IntIn w p l) (h2 : IntIn w q l) (hl : l.length ≤ 2000) :
    Calls Try.prog 30 #[.slice p l.length ca, .slice q l.length cb] w fun e w' => e = .returned (.bool true) ∧ ∃ m, w' = w.drewN m := by
  have HP := Hid.mk' h
  have HQ := Hid.mk' h2
  clear h h2
  go_enter Try.func30, Try.ntmps30
  go_wp2
  go_loopw [5] (fun iv wr => ∃ (i : Nat) (m : Nat), i ≤ l.length ∧ iv = .int .i64 i ∧ wr = w.drewN m) (fun iv _ => l.length - (intOf iv).toNat)
  case atStart => exact ⟨0, 0, by omega, rfl, rfl⟩
  case round =>
    obtain ⟨i, m, hi, rfl, rfl⟩ := hrel
    by_cases hlt : i < l.length
    · have hlt' : (i : Int) < (l.length : Int) := by omega
      have hi0 : (0 : Int) ≤ (i : Int) := by omega
      obtain ⟨b, o, rfl, hb, hc⟩ := HP.out (by omega)
      obtain ⟨b2, o2, rfl, hb2, hc2⟩ := HQ.out (by omega)
      have e1 := hc i hlt
      have e3 := hc2 i hlt
      generalize l.getD i 0 = x at *
      clear hc hc2
      go_wp2
      go_quiet (fail)
      go_wp2
      go_roundw
      case rel => exact ⟨i + 1, m + nq, by omega, by go_num, by simp⟩
      case measure => simp [intOf]; omega
    · have hlt' : ¬ (i : Int) < (l.length : Int) := by omega
      go_wp2
      go_ret
      exact ⟨rfl, m, rfl⟩

/-- gv over a list with a bad page among good ones. -/
theorem gv_dup (T : List Nat) (S : Nat → Bool) (x : Nat) (h : S x = true) (hx : x ∈ T) : gv S T = none := by
  induction T generalizing S with
  | nil => simp at hx
  | cons q T ih =>
    rw [gv]
    by_cases hq : S q = true
    · rw [if_pos hq]
    · rw [if_neg hq]
      rcases List.mem_cons.1 hx with rfl | hx
      · exact absurd h hq
      · refine ih (upd S q true) ?_ hx
        unfold upd; split
        · rfl
        · exact h
theorem gv_twice (A B : List Nat) (S : Nat → Bool) (x : Nat) (hx : x ∈ A) : gv S (A ++ x :: B) = none := by
  induction A generalizing S with
  | nil => simp at hx
  | cons q A ih =>
    rw [List.cons_append, gv]
    by_cases hq : S q = true
    · rw [if_pos hq]
    · rw [if_neg hq]
      rcases List.mem_cons.1 hx with rfl | hx
      · exact gv_dup _ _ x (upd_same _ _ _) (by simp)
      · exact ih (upd S q true) hx
theorem gv_back (A B : List Nat) (S : Nat → Bool) (x : Nat) (hx : x ∈ B) : gv S (A ++ x :: B) = none := by
  induction A generalizing S with
  | nil =>
    rw [List.nil_append, gv]
    by_cases hq : S x = true
    · rw [if_pos hq]
    · rw [if_neg hq]
      exact gv_dup _ _ x (upd_same _ _ _) hx
  | cons q A ih =>
    rw [List.cons_append, gv]
    by_cases hq : S q = true
    · rw [if_pos hq]
    · rw [if_neg hq]; exact ih _

/-- Give of pages of which one can't come back. -/
theorem give_bad (w : World) (d : Nat) (s : Sh) (S : Nat → Bool) (h : PoolAt w d s S) (p : Option Addr) (cap : Nat) (l : List Int) (hin : IntIn w p l) (hl : l.length ≤ maxLen) (hb : l.all (inD s) = false ∨ gv S (l.map Int.toNat) = none) :
    Calls Try.prog 23 #[.pointer (some ⟨d, 0, none⟩), .slice p l.length cap] w fun e w' => e = .returned (.int .i64 (if l.all (inD s) = true then 51 else 52)) ∧ PoolAt w' d s S ∧ Keeps (fun k => w.heap.size ≤ k) w w' := by
  cases ha : l.all (inD s) with
  | false =>
    refine (give_range w d s S h p cap l hin hl ha).mono ?_
    rintro e w' ⟨rfl, rfl⟩
    exact ⟨by simp, h, Keeps.refl _ _⟩
  | true =>
    have hg : gv S (l.map Int.toNat) = none := by
      rcases hb with h1 | h1
      · rw [ha] at h1; cases h1
      · exact h1
    refine (give_in w d s S h p cap l hin hl ha).mono ?_
    rintro e w' (⟨_, rfl, h2, h3⟩ | ⟨S', h0, _⟩)
    · exact ⟨by simp, h2, h3⟩
    · rw [hg] at h0; cases h0

end Go.Proofs.Ytnafocbgapianaa
