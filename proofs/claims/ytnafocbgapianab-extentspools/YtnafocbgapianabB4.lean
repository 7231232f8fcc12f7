import Derived.Test.YtnafocbgapianabB3
namespace Go.Proofs.Ytnafocbgapianab
open Go.RowKit

/-- A list of spans, its numbers as ints. -/
def castL (l : List (Nat × Nat)) : List (Int × Int) := l.map fun s => ((s.1 : Int), (s.2 : Int))
theorem castL_len (l : List (Nat × Nat)) : (castL l).length = l.length := by simp [castL]
theorem castL_get (l : List (Nat × Nat)) (i : Nat) : (castL l).getD i (0, 0) = (((l.getD i (0, 0)).1 : Int), ((l.getD i (0, 0)).2 : Int)) := by
  unfold castL
  rw [List.getD_eq_getElem?_getD, List.getD_eq_getElem?_getD, List.getElem?_map]
  cases l[i]? <;> rfl

theorem SpAt.toIn {w : World} {B : Nat} {v : Value} {l : List (Nat × Nat)} (h : SpAt w B v l) : ∃ p cap, v = .slice p l.length cap ∧ SpIn w p (castL l) ∧ (∀ g, p.map (·.block) = some g → v.ownBlock = some g) := by
  by_cases h0 : 0 < l.length
  · obtain ⟨g, cap, hv, hg, hgl⟩ := World.ownsRow.form h h0
    refine ⟨_, cap, hv, ?_, ?_⟩
    · intro _
      refine ⟨g, 0, rfl, hgl, ?_⟩
      intro i hi
      rw [castL_len] at hi
      have h' : w.ownsRow B 46 2 (.slice (some ⟨g, 0, none⟩) l.length cap) l.length (spCells l) := by rw [← hv]; exact h
      have c0 := h'.cellAt (i * 2) (by omega)
      have c1 := h'.cellAt (i * 2 + 1) (by omega)
      obtain ⟨q1, q2⟩ := spCells_get l i hi
      rw [q1] at c0
      rw [q2] at c1
      rw [castL_get, List.getD_eq_getElem?_getD, List.getElem?_eq_getElem hi]
      simp only [Nat.zero_add]
      exact ⟨c0, c1⟩
    · intro g' hg'
      rw [hv]; exact hg'
  · obtain ⟨p, cap, hv⟩ := h.eq_slice
    refine ⟨p, cap, hv, fun hh => by rw [castL_len] at hh; omega, ?_⟩
    intro g hg
    rw [hv]
    cases p with
    | none => simp at hg
    | some a => exact hg

set_option maxHeartbeats 2000000 in
theorem listed_any (w : World) (k hb n c : Nat) (H : Nat → Bool) (p : Option Addr) (cap : Nat) (l : List (Nat × Nat)) (lo hi : Nat)
    (hc : w.cell? ⟨k, 4, none⟩ = some (.slice (some ⟨hb, 0, none⟩) n c)) (hh : ∀ i, i < n → w.cell? ⟨hb, i, none⟩ = some (.bool (H i))) (hl : SpIn w p (castL l)) (hlo : lo ≤ hi) (hhi : hi ≤ n) (hn : n ≤ 1024)
    (he : l = sp (fun j => !H j) lo (hi - lo)) :
    Calls Try.prog 30 #[.pointer (some ⟨k, 0, none⟩), .slice p l.length cap, .int .i64 lo, .int .i64 hi] w fun e w' => e = .returned (.bool true) ∧ w' = w := by
  have hll : l.length ≤ 1024 := by have := (sp_bd (fun j => !H j) lo (hi - lo)).2; rw [he]; omega
  have HH := Hid.mk' hh
  have HL := Hid.mk' hl
  have HE := Hid.mk' he
  clear hh hl he
  go_enter Try.func30, Try.ntmps30
  go_wp2
  go_loop [9, 10] (fun iv av => ∃ i at_ : Nat, i ≤ l.length ∧ lo ≤ at_ ∧ at_ ≤ hi ∧ iv = .int .i64 i ∧ av = .int .i64 at_ ∧ Hid (l.drop i = sp (fun j => !H j) at_ (hi - at_))) (fun _ a => hi - (intOf a).toNat)
  case atStart => exact ⟨0, lo, by omega, by omega, by omega, rfl, rfl, HE.out⟩
  case round =>
    obtain ⟨i, at_, hi1, ha1, ha2, rfl, rfl, hrel⟩ := hrel
    by_cases hlt : at_ < hi
    · have hlt' : (at_ : Int) < (hi : Int) := by omega
      have hat := HH.out at_ (by omega)
      have ha3 : (at_ : Int) < (n : Int) := by omega
      have ha4 : (0 : Int) ≤ (at_ : Int) := by omega
      cases hH : H at_ with
      | true =>
        rw [hH] at hat
        have HN : Hid (l.drop i = sp (fun j => !H j) (at_ + 1) (hi - (at_ + 1))) := by
          show _ = _
          rw [hrel.out, show hi - at_ = (hi - (at_ + 1)) + 1 by omega, sp_skip _ (by simp [hH])]
        clear hH hrel
        go_wp2
        go_round
        case rel => exact ⟨i, at_ + 1, by omega, by omega, by omega, rfl, by go_num, HN.out⟩
        case measure => simp [intOf]; omega
      | false =>
        rw [hH] at hat
        have HF := Hid.mk' hH
        have HREL := hrel
        clear hH hrel
        go_wp2
        go_loop [11] (fun nv => ∃ j : Nat, at_ + j ≤ hi ∧ nv = .int .i64 j ∧ Hid (∀ i, i < j → H (at_ + i) = false)) (fun nv => hi - at_ - (intOf nv).toNat)
        case atStart => exact ⟨0, by omega, rfl, fun i hi => by omega⟩
        case round =>
          obtain ⟨j, hj, rfl, hrj⟩ := hrel
          have hsum : IntKind.i64.wrap ((at_ : Int) + (j : Int)) = (at_ : Int) + (j : Int) := i64_id (by omega) (by omega)
          have hend : (at_ + j = hi ∨ H (at_ + j) = true) ∨ (at_ + j < hi ∧ H (at_ + j) = false) := by
            by_cases h1 : at_ + j = hi
            · exact Or.inl (Or.inl h1)
            · cases h2 : H (at_ + j)
              · exact Or.inr ⟨by omega, rfl⟩
              · exact Or.inl (Or.inr rfl)
          rcases hend with hend | ⟨hj2, hj3⟩
          · have hj1 : 1 ≤ j := by
              rcases hend with h | h
              · omega
              · rcases Nat.eq_zero_or_pos j with h0 | h0
                · rw [h0, Nat.add_zero, HF.out] at h; exact absurd h (by decide)
                · exact h0
            have hd : l.drop i = (at_, j) :: sp (fun j => !H j) (at_ + j) (hi - (at_ + j)) := by
              rw [HREL.out, show hi - at_ = j + (hi - (at_ + j)) by omega]
              refine sp_run hj1 (fun i hi => by simp [hrj.out i hi]) ?_
              rcases hend with h | h
              · left; omega
              · right; simp [h]
            have hil : i < l.length := by
              rcases Nat.lt_or_ge i l.length with h | h
              · exact h
              · rw [List.drop_eq_nil_of_le h] at hd; cases hd
            have hg := drop_getD (0, 0) hil
            rw [hd] at hg
            obtain ⟨hg1, hg2⟩ := List.cons.inj hg
            obtain ⟨b, o, rfl, hbs, hcs⟩ := HL.out (by rw [castL_len]; omega)
            obtain ⟨e1, e2⟩ := hcs i (by rw [castL_len]; exact hil)
            rw [castL_get, ← hg1] at e1 e2
            simp only at e1 e2
            have HD := Hid.mk' hg2.symm
            have hil2 : (i : Int) < (l.length : Int) := by omega
            have hil3 : ¬ (l.length : Int) ≤ (i : Int) := by omega
            clear hd hg hg1 hg2 hcs hrj
            by_cases hq : at_ + j = hi
            · have hlt2 : ¬ (at_ : Int) + (j : Int) < (hi : Int) := by omega
              have hlt3 : decide ((at_ : Int) + (j : Int) < (hi : Int)) = false := by simp; omega
              have HQ := Hid.mk' hq
              clear hend hq
              go_wp2
              go_round
              case rel => exact ⟨i + 1, at_ + j, by omega, by omega, by omega, by go_num, by go_num, HD.out⟩
              case measure => simp [intOf]; omega
            · have hj3 : H (at_ + j) = true := by
                rcases hend with h | h
                · exact absurd h hq
                · exact h
              have hc2 := HH.out (at_ + j) (by omega)
              rw [hj3] at hc2
              have hlt2 : (at_ : Int) + (j : Int) < (hi : Int) := by omega
              have hlt3 : (at_ : Int) + (j : Int) < (n : Int) := by omega
              have hlt4 : (0 : Int) ≤ (at_ : Int) + (j : Int) := by omega
              have htn : ((at_ : Int) + (j : Int)).toNat = at_ + j := by omega
              clear hend hq hj3
              go_wp2
              go_round
              case rel => exact ⟨i + 1, at_ + j, by omega, by omega, by omega, by go_num, by go_num, HD.out⟩
              case measure => simp [intOf]; omega
          · have hc2 := HH.out (at_ + j) (by omega)
            rw [hj3] at hc2
            have hlt2 : (at_ : Int) + (j : Int) < (hi : Int) := by omega
            have hlt3 : (at_ : Int) + (j : Int) < (n : Int) := by omega
            have hlt4 : (0 : Int) ≤ (at_ : Int) + (j : Int) := by omega
            have htn : ((at_ : Int) + (j : Int)).toNat = at_ + j := by omega
            have HJ : Hid (∀ i, i < j + 1 → H (at_ + i) = false) := by
              intro i hi
              by_cases h : i = j
              · rw [h]; exact hj3
              · exact hrj.out i (by omega)
            clear hrj hj3
            go_wp2
            go_round
            case rel => exact ⟨j + 1, by omega, by go_num, HJ.out⟩
            case measure => simp [intOf]; omega
    · have hlt' : ¬ (at_ : Int) < (hi : Int) := by omega
      have h1 := hrel.out
      rw [show hi - at_ = 0 by omega, sp_zero, List.drop_eq_nil_iff] at h1
      have hil : i = l.length := by omega
      have hii : ((i : Int) == (l.length : Int)) = true := by simp [hil]
      clear hil h1 hrel
      go_wp2
      go_ret
      exact ⟨ret_bool (by simp), rfl⟩

end Go.Proofs.Ytnafocbgapianab
