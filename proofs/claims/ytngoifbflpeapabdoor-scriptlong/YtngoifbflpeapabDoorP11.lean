import Derived.Test.YtngoifbflpeapabDoorP10
namespace Go.Proofs.YtngoifbflpeapabDoor
open Go.RowKit Go.Maps
set_option maxRecDepth 100000

/-! The line at the head of a statement. -/
def litB : Bs := [119, 114, 105, 116, 101, 32, 34, 47, 97, 34, 32, 45, 53, 32, 34, 92, 120, 52, 49, 98, 34]
def litT : St := ⟨11, ⟨#[47, 97]⟩, ⟨#[65, 98]⟩, -5, 0, 0, []⟩
theorem lit_wds : wds [] litB = some [⟨⟨#[119, 114, 105, 116, 101]⟩, false⟩, ⟨⟨#[47, 97]⟩, true⟩, ⟨⟨#[45, 53]⟩, false⟩, ⟨⟨#[65, 98]⟩, true⟩] := by
  have g0 : gw ⟨⟨#[119, 114, 105, 116, 101]⟩, false⟩ := Or.inr ⟨rfl, by decide, by decide⟩
  have g1 : gw ⟨⟨#[47, 97]⟩, true⟩ := Or.inl rfl
  have g2 : gw ⟨⟨#[45, 53]⟩, false⟩ := Or.inr ⟨rfl, by decide, by decide⟩
  rw [show litB = tk ⟨⟨#[119, 114, 105, 116, 101]⟩, false⟩ ++ 32 :: (tk ⟨⟨#[47, 97]⟩, true⟩ ++ 32 :: (tk ⟨⟨#[45, 53]⟩, false⟩ ++ [32, 34, 92, 120, 52, 49, 98, 34])) by decide]
  rw [wds_tok g0 _ (Or.inr ⟨_, rfl⟩), wds_blank, wds_tok g1 _ (Or.inr ⟨_, rfl⟩), wds_blank, wds_tok g2 _ (Or.inr ⟨_, rfl⟩), wds_blank]
  have hu : uq [34, 92, 120, 52, 49, 98, 34] = some ([65, 98], 7) := by
    show unq [] 1 [92, 120, 52, 49, 98, 34] = some ([65, 98], 7)
    rw [unq_esc _ _ _ (by decide), show (mnt [120, 52, 49, 98, 34]).2 = 3 by decide, show (mnt [120, 52, 49, 98, 34]).1 = 65 by decide]
    show unq ([] ++ [65]) (1 + 1 + 3) [98, 34] = _
    rw [unq_prt _ _ _ _ (by decide) (by decide) (by decide), unq_end]
    rfl
  have hf : fw [34, 92, 120, 52, 49, 98, 34] = (⟨⟨#[65, 98]⟩, true⟩, 7) := by
    show fwQ _ = _
    unfold fwQ
    rw [hu]
    rfl
  rw [wds_word (by decide) (by rw [hf]; decide), hf]
  show wds _ [] = _
  rw [wds_nil]
  rfl
theorem lit_read : lnE litB = 0 ∧ lnS litB = litT := by
  have hk : kindOf [⟨⟨#[119, 114, 105, 116, 101]⟩, false⟩, ⟨⟨#[47, 97]⟩, true⟩, ⟨⟨#[45, 53]⟩, false⟩, ⟨⟨#[65, 98]⟩, true⟩] = some ⟨11, ⟨#[119, 114, 105, 116, 101]⟩, [.A, .N, .B]⟩ := by
    show kdOf ⟨#[119, 114, 105, 116, 101]⟩ = _
    exact (kd_finds ⟨11, ⟨#[119, 114, 105, 116, 101]⟩, [.A, .N, .B]⟩ (by simp [kds])).1
  have hn : num [45, 53] = some (-5) := by
    have := num_itoa (-5) (by decide) (by decide)
    rw [show Lib.itoa (-5) = [45, 53] by simp [Lib.itoa, Lib.decDigits]] at this
    exact this
  have hs : stF [.A, .N, .B] 0 (st0 11) [⟨⟨#[47, 97]⟩, true⟩, ⟨⟨#[45, 53]⟩, false⟩, ⟨⟨#[65, 98]⟩, true⟩] = some litT := by
    simp only [stF, argAt, List.getElem?_cons_zero, List.getElem?_cons_succ, rdF, hn]
    rfl
  have ht : takesF [.A, .N, .B] [⟨⟨#[47, 97]⟩, true⟩, ⟨⟨#[45, 53]⟩, false⟩, ⟨⟨#[65, 98]⟩, true⟩] = true := by decide
  constructor
  · unfold lnE
    rw [if_neg (by decide), lit_wds]
    simp only [hk, List.drop_one, List.tail_cons, ht, if_true, hs]
  · unfold lnS
    rw [if_neg (by decide), lit_wds]
    simp only [hk, List.drop_one, List.tail_cons, ht, if_true, hs, Option.getD_some]
theorem back_no {x : Bs} (h : ¬ lnE x = 0) : lnS x = st0 0 ∧ (lnE x = 191 ↔ 20000 < x.length) := by
  unfold lnE at h
  unfold lnE lnS
  by_cases hx : 20000 < x.length
  · rw [if_pos hx, if_pos hx]; exact ⟨rfl, ⟨fun _ => hx, fun _ => rfl⟩⟩
  rw [if_neg hx] at h
  rw [if_neg hx, if_neg hx]
  cases hw : wds [] x with
  | none => exact ⟨rfl, ⟨fun h => absurd h (by decide), fun h => absurd h hx⟩⟩
  | some ws =>
    rw [hw] at h
    simp only at h ⊢
    cases hk : kindOf ws with
    | none => exact ⟨rfl, ⟨fun h => absurd (show (190 : Int) = 191 from h) (by decide), fun h => absurd h hx⟩⟩
    | some k =>
      rw [hk] at h
      simp only at h ⊢
      by_cases ht : takesF k.args (ws.drop 1) = true
      · rw [if_pos ht] at h
        rw [if_pos ht, if_pos ht]
        cases hs : stF k.args 0 (st0 k.num) (ws.drop 1) with
        | none => exact ⟨rfl, ⟨fun h => absurd (show (193 : Int) = 191 from h) (by decide), fun h => absurd h hx⟩⟩
        | some t => rw [hs] at h; exact absurd rfl h
      · rw [if_neg ht, if_neg ht]
        exact ⟨rfl, ⟨fun h => absurd h (by decide), fun h => absurd h hx⟩⟩
end Go.Proofs.YtngoifbflpeapabDoor

