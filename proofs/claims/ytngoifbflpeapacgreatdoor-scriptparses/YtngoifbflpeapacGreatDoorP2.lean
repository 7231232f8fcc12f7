import Derived.Test.YtngoifbflpeapacGreatDoorP1
namespace Go.Proofs.YtngoifbflpeapacGreatDoor
open Go.RowKit Go.Maps
set_option maxRecDepth 100000

/-! Words as they are written, and read back. -/
def tk (x : Wd) : Bs := if x.quoted = true then quo x.text.data.toList else x.text.data.toList
/-- A word that can stand on a line. -/
def gw (x : Wd) : Prop := x.quoted = true ∨ (x.quoted = false ∧ x.text.data.toList ≠ [] ∧ ∀ c ∈ x.text.data.toList, c ≠ 32 ∧ c ≠ 34)
def joinB : List Wd → Bs
  | [] => []
  | [x] => tk x
  | x :: y :: r => tk x ++ 32 :: joinB (y :: r)
theorem upto_app {c : UInt8} : ∀ (l tl : Bs), (∀ x ∈ l, x ≠ c) → (tl = [] ∨ ∃ r, tl = c :: r) → upto c (l ++ tl) = l.length
  | [], tl, _, ht => by
    rcases ht with rfl | ⟨r, rfl⟩
    · rfl
    · unfold upto
      rw [List.nil_append, List.takeWhile_cons, if_neg (by simp)]
  | b :: l, tl, h, ht => by
    rw [List.cons_append, upto_cons (h b (by simp)), upto_app l tl (fun x hx => h x (by simp [hx])) ht]; rfl
theorem quo_head (l : Bs) : ∃ r, quo l = 34 :: r := ⟨_, rfl⟩
theorem fw_tok {x : Wd} (h : gw x) {tl : Bs} (ht : tl = [] ∨ ∃ r, tl = 32 :: r) : fw (tk x ++ tl) = (x, (tk x).length) ∧ ∃ b r, tk x = b :: r ∧ b ≠ 32 := by
  obtain ⟨text, q⟩ := x
  rcases h with h | ⟨h, hne, hb⟩
  · have hq : q = true := h
    subst hq
    have e : tk ⟨text, true⟩ = quo text.data.toList := if_pos rfl
    rw [e]
    obtain ⟨r, er⟩ := quo_head text.data.toList
    refine ⟨?_, 34, r, er, by decide⟩
    have h34 : (quo text.data.toList ++ tl).getD 0 0 = 34 := by rw [er]; rfl
    rw [fw_quoted h34]
    unfold fwQ
    rw [uq_quo]
    simp only
    rw [if_neg, mkB_data]
    rintro ⟨h1, h2⟩
    rcases ht with rfl | ⟨r2, rfl⟩
    · rw [List.append_nil] at h1; omega
    · apply h2
      rw [List.getD_eq_getElem?_getD, List.getElem?_append_right (Nat.le_refl _)]
      simp
  · have hq : q = false := h
    subst hq
    have e : tk ⟨text, false⟩ = text.data.toList := if_neg (by simp)
    rw [e]
    have hne' : text.data.toList ≠ [] := hne
    have hb' : ∀ c ∈ text.data.toList, c ≠ 32 ∧ c ≠ 34 := hb
    cases hl : text.data.toList with
    | nil => exact absurd hl hne'
    | cons b r =>
      rw [hl] at hb'
      have hb0 := hb' b (by simp)
      refine ⟨?_, b, r, rfl, hb0.1⟩
      have h34 : ¬ ((b :: r) ++ tl).getD 0 0 = 34 := hb0.2
      rw [fw_plain h34]
      have hu := upto_app (c := 32) (b :: r) tl (fun c hc => (hb' c hc).1) ht
      unfold fwP
      rw [hu, List.take_left, if_pos (by rw [List.all_eq_true]; intro c hc; simpa using (hb' c hc).2), ← hl, mkB_data]
theorem wds_blanks (acc : List Wd) : ∀ n, wds acc (List.replicate n 32) = some acc
  | 0 => wds_nil acc
  | n + 1 => by rw [List.replicate_succ, wds_blank, wds_blanks acc n]
theorem blanks_tail (n : Nat) : (List.replicate n (32 : UInt8) = [] ∨ ∃ r, List.replicate n (32 : UInt8) = 32 :: r) := by
  cases n with
  | zero => exact Or.inl rfl
  | succ n => exact Or.inr ⟨_, List.replicate_succ⟩
theorem wds_tok {x : Wd} (h : gw x) (acc : List Wd) {tl : Bs} (ht : tl = [] ∨ ∃ r, tl = 32 :: r) : wds acc (tk x ++ tl) = wds (acc ++ [x]) tl := by
  obtain ⟨hf, b, r, hb, hb32⟩ := fw_tok h ht
  have e : tk x ++ tl = b :: (r ++ tl) := by rw [hb]; rfl
  have hlen : (tk x).length ≠ 0 := by rw [hb]; simp
  rw [e] at hf ⊢
  rw [wds_word hb32 (by rw [hf]; exact hlen), hf]
  show wds (acc ++ [x]) ((b :: (r ++ tl)).drop (tk x).length) = _
  rw [← e, List.drop_left]
/-- Words that are written with a blank between each two are read back, whatever blanks stand behind them. -/
theorem wds_join : ∀ (ws : List Wd) (acc : List Wd) (n : Nat), (∀ x ∈ ws, gw x) → wds acc (joinB ws ++ List.replicate n 32) = some (acc ++ ws)
  | [], acc, n, _ => by
    show wds acc ([] ++ List.replicate n 32) = _
    rw [List.nil_append, wds_blanks, List.append_nil]
  | [x], acc, n, h => by
    show wds acc (tk x ++ List.replicate n 32) = _
    rw [wds_tok (h x (by simp)) acc (blanks_tail n), wds_blanks]
  | x :: y :: r, acc, n, h => by
    show wds acc ((tk x ++ 32 :: joinB (y :: r)) ++ List.replicate n 32) = _
    rw [List.append_assoc, List.cons_append, wds_tok (h x (by simp)) acc (Or.inr ⟨_, rfl⟩), wds_blank, wds_join (y :: r) (acc ++ [x]) n (fun z hz => h z (by simp [hz]))]
    simp
theorem wds_lead (acc : List Wd) (t : Bs) : ∀ n, wds acc (List.replicate n 32 ++ t) = wds acc t
  | 0 => by simp
  | n + 1 => by rw [List.replicate_succ, List.cons_append, wds_blank, wds_lead acc t n]
end Go.Proofs.YtngoifbflpeapacGreatDoor

