import Derived.Test.YtnafocbgapianabW1
namespace Go.Proofs.Ytnafocbgapianab
open Go.RowKit

theorem info4' : (Try.prog.info? 4).map (fun i => (i.zero, i.size, i.bytes)) = some (some (.bool false), 1, 1) := info4

/-- A list of marks that lies in memory. -/
def BoolIn (w : World) (p : Option Addr) (n : Nat) (f : Nat → Bool) : Prop :=
  0 < n → ∃ b o, p = some ⟨b, o, none⟩ ∧ b < w.heap.size ∧ ∀ i, i < n → w.cell? ⟨b, o + i, none⟩ = some (.bool (f i))
theorem BoolIn.grown {w w' : World} {p : Option Addr} {n : Nat} {f : Nat → Bool} {X : Nat → Prop} (h : BoolIn w p n f) (k : Keeps X w w') (hX : ∀ b, X b → w.heap.size ≤ b) : BoolIn w' p n f := by
  intro h0
  obtain ⟨b, o, e, hb, hc⟩ := h h0
  exact ⟨b, o, e, Nat.lt_of_lt_of_le hb k.size, fun i hi => k.cell (hc i hi) (fun hx => by have := hX b hx; omega)⟩
theorem boolIn_row {w : World} {B n : Nat} {v : Value} {f : Nat → Bool} (h : w.ownsRow B 4 1 v n (boolCells f n)) : ∃ p cap, v = .slice p n cap ∧ BoolIn w p n f := by
  by_cases hn : 0 < n
  · obtain ⟨g, cap, hv, _, hg⟩ := h.form hn
    rw [hv] at h
    refine ⟨_, cap, hv, fun _ => ⟨g, 0, rfl, hg, fun i hi => ?_⟩⟩
    rw [Nat.zero_add, h.cellAt i (by omega)]
    exact boolCells_get f n i hi
  · rcases h.2 with ⟨h0, h1⟩ | ⟨g, cap, cur, hv, _⟩
    · exact ⟨none, 0, by rw [h0, h1], fun h => by omega⟩
    · exact ⟨_, cap, hv, fun h => by omega⟩

set_option maxHeartbeats 4000000 in
theorem rspans_any (w : World) (p : Option Addr) (cap n : Nat) (f : Nat → Bool) (h : BoolIn w p n f) (hn : n ≤ 1024) :
    Calls Try.prog 70 #[.slice p n cap] w fun r w' => ∃ v, r = .returned v ∧ SpAt w' w.heap.size v (sp f 0 n) ∧ Keeps (fun k => w.heap.size ≤ k) w w' := by
  obtain ⟨i0, hi0, hz0, hz1, hz2⟩ := info_parts info31
  have HP := Hid.mk' h
  clear h
  go_enter Try.func70, Try.ntmps70
  go_wp2
  go_loopw [3, 4, 5] (fun lv cv iv wr => ∃ i c : Nat, i ≤ n ∧ c ≤ i ∧ cv = .int .i64 c ∧ iv = .int .i64 i ∧ wr.ownsRow w.heap.size 46 2 lv (sp f 0 (i - c)).length (spCells (sp f 0 (i - c))) ∧
      Hid ((∀ j, i - c ≤ j → j < i → f j = true) ∧ ((c = 0 ∧ (i = n ∨ f i = false ∨ i = 0 ∨ f (i - 1) = false)) ∨ (0 < c ∧ (i - c = 0 ∨ f (i - c - 1) = false) ∧ i < n ∧ f i = true)) ∧ Keeps (fun k => w.heap.size ≤ k) w wr)) (fun _ _ iv _ => n - (intOf iv).toNat)
  case atStart => exact ⟨0, 0, by omega, by omega, rfl, rfl, SpAt.nil _ _, fun j h1 h2 => by omega, Or.inl ⟨rfl, Or.inr (Or.inr (Or.inl rfl))⟩, Keeps.refl _ _⟩
  case round =>
    obtain ⟨i, c, hi, hci, rfl, rfl, hown, hrel⟩ := hrel
    by_cases hlt : i < n
    · have hlt' : (i : Int) < (n : Int) := by omega
      have hi1 : (0 : Int) ≤ (i : Int) := by omega
      obtain ⟨b, o, rfl, hb, hc⟩ := HP.out (by omega)
      have e1 := hrel.out.2.2.cell (hc i hlt) (by simp; omega)
      have hws := hrel.out.2.2.size
      cases hf : f i with
      | false =>
        rw [hf] at e1
        have hc0 : c = 0 := by
          rcases hrel.out.2.1 with h | h
          · exact h.1
          · rw [hf] at h; exact absurd h.2.2.2 (by decide)
        subst hc0
        have HSP : Hid (sp f 0 (i + 1 - 0) = sp f 0 (i - 0)) := by
          show _ = _
          have := sp_succ f 0 i
          rw [Nat.zero_add, hf] at this
          simpa using this
        have HOW := Hid.mk' hown
        have HK := Hid.mk' hrel.out.2.2
        have HF := Hid.mk' hf
        by_cases hl : i + 1 = n
        · have hl1 : ((i : Int) + 1 == (n : Int)) = true := by simp; omega
          have hl2 : (i : Int) + 1 = (n : Int) := by omega
          clear hc hrel hf hown hl
          go_wp2
          go_roundw
          case rel =>
            refine ⟨i + 1, 0, by omega, by omega, rfl, by go_num, ?_, fun j h1 h2 => by omega, Or.inl ⟨rfl, Or.inr (Or.inr (Or.inr ?_))⟩, HK.out⟩
            · rw [HSP.out]; exact HOW.out
            · simpa using HF.out
          case measure => simp [intOf]; omega
        · have hl1 : ((i : Int) + 1 == (n : Int)) = false := by rw [beq_eq_false_iff_ne]; omega
          have hl2 : ¬ (i : Int) + 1 = (n : Int) := by omega
          have hl3 : (i : Int) + 1 < (n : Int) := by omega
          have hl4 : (0 : Int) ≤ (i : Int) + 1 := by omega
          have hl5 : ((i : Int) + 1).toNat = i + 1 := by omega
          have e2 := hrel.out.2.2.cell (hc (i + 1) (by omega)) (by simp; omega)
          generalize f (i + 1) = fx at *
          clear hc hrel hf hown hl
          go_wp2
          go_roundw
          case rel =>
            refine ⟨i + 1, 0, by omega, by omega, rfl, by go_num, ?_, fun j h1 h2 => by omega, Or.inl ⟨rfl, Or.inr (Or.inr (Or.inr ?_))⟩, HK.out⟩
            · rw [HSP.out]; exact HOW.out
            · simpa using HF.out
          case measure => simp [intOf]; omega
      | true =>
        rw [hf] at e1
        have hst : i - c = 0 ∨ f (i - c - 1) = false := by
          rcases hrel.out.2.1 with ⟨h1, h2⟩ | h
          · subst h1
            rcases h2 with h2 | h2 | h2 | h2
            · omega
            · rw [hf] at h2; cases h2
            · exact Or.inl (by omega)
            · exact Or.inr (by simpa using h2)
          · exact h.2.1
        have hrun : ∀ j, i - c ≤ j → j < i + 1 → f j = true := fun j h1 h2 => by
          by_cases hj : j = i
          · rw [hj]; exact hf
          · exact hrel.out.1 j h1 (by omega)
        have hpush := sp_push (f := f) (st := i - c) (c := c + 1) (by omega) (fun j h1 h2 => hrun j h1 (by omega)) hst
        rw [show i - c + (c + 1) = i + 1 by omega] at hpush
        have HPU := Hid.mk' hpush
        have hll := (sp_bd f 0 (i - c)).2
        have HRUN := Hid.mk' hrun
        have HST := Hid.mk' hst
        have HOW := Hid.mk' hown
        have HK := Hid.mk' hrel.out.2.2
        have hsb : IntKind.i64.wrap ((i : Int) + 1 - ((c : Int) + 1)) = ((i - c : Nat) : Int) := by rw [i64_id (by omega) (by omega)]; omega
        have hsb2 : (i : Int) + 1 - ((c : Int) + 1) = ((i - c : Nat) : Int) := by omega
        have HE : Hid (spCells (sp f 0 (i - c)) ++ [.int .i64 ((i - c : Nat) : Int), .int .i64 ((c : Int) + 1)] = spCells (sp f 0 (i + 1)) ∧ (sp f 0 (i + 1)).length = (sp f 0 (i - c)).length + 1) := by
          rw [hpush]
          constructor
          · rw [spCells_app, spCells_one]; push_cast; rfl
          · simp
        generalize hL : sp f 0 (i - c) = L at *
        by_cases hl : i + 1 = n
        · have hl1 : ((i : Int) + 1 == (n : Int)) = true := by simp; omega
          have hl2 : (i : Int) + 1 = (n : Int) := by omega
          have HN := Hid.mk' hl
          have hsb3 : IntKind.i64.wrap ((n : Int) - ((c : Int) + 1)) = ((i - c : Nat) : Int) := by rw [i64_id (by omega) (by omega)]; omega
          have hsb4 : (n : Int) - ((c : Int) + 1) = ((i - c : Nat) : Int) := by omega
          clear hc hrel hf hown hl hrun hst hpush hL
          go_wp2_with (first
            | (at_builtin; refine wpList_append_lies _ rfl _ _ 30 rfl w.heap.size 46 i0 (.agg #[.int .i64 0, .int .i64 0]) 2 16 Try.underlying30 hi0 hz0 hz1 hz2 rfl (by decide) _ L.length (spCells L) rfl (World.ownsRow.alloc HOW.out _) ⟨wr.heap.size, 0, none⟩ 1 1 [.int .i64 ((i - c : Nat) : Int), .int .i64 ((c : Int) + 1)] rfl rfl (World.news_of_block (MapKept.heap_alloc wr _).1) (by simp [Value.oneCell']) (by decide) (by unfold maxLen; omega) (by omega) (by simp; omega) (wr.heap.size + 1) (by simp) ?_; intro g2 c2 w6 hown2 hgrow2 hloc2 hlt2))
          go_roundw
          case rel =>
            refine ⟨i + 1, 0, by omega, by omega, rfl, by go_num, ?_, fun j h1 h2 => by omega, Or.inl ⟨rfl, Or.inl HN.out⟩, ?_⟩
            · rw [HE.out.1] at hown2
              rw [Nat.sub_zero, HE.out.2]
              exact hown2
            · exact (HK.out.step (World.grownBy_alloc wr _ none) (by simp)).step hgrow2 (fun k hk => Or.inl (HOW.out.lt k hk).1)
          case measure => simp [intOf]; omega
        · have hl1 : ((i : Int) + 1 == (n : Int)) = false := by rw [beq_eq_false_iff_ne]; omega
          have hl2 : ¬ (i : Int) + 1 = (n : Int) := by omega
          have hl3 : (i : Int) + 1 < (n : Int) := by omega
          have hl4 : (0 : Int) ≤ (i : Int) + 1 := by omega
          have hl5 : ((i : Int) + 1).toNat = i + 1 := by omega
          have e2 := hrel.out.2.2.cell (hc (i + 1) (by omega)) (by simp; omega)
          cases hf2 : f (i + 1) with
          | false =>
            rw [hf2] at e2
            have HF2 := Hid.mk' hf2
            clear hc hrel hf hf2 hown hl hrun hst hpush hL
            go_wp2_with (first
              | (at_builtin; refine wpList_append_lies _ rfl _ _ 30 rfl w.heap.size 46 i0 (.agg #[.int .i64 0, .int .i64 0]) 2 16 Try.underlying30 hi0 hz0 hz1 hz2 rfl (by decide) _ L.length (spCells L) rfl (World.ownsRow.alloc HOW.out _) ⟨wr.heap.size, 0, none⟩ 1 1 [.int .i64 ((i - c : Nat) : Int), .int .i64 ((c : Int) + 1)] rfl rfl (World.news_of_block (MapKept.heap_alloc wr _).1) (by simp [Value.oneCell']) (by decide) (by unfold maxLen; omega) (by omega) (by simp; omega) (wr.heap.size + 1) (by simp) ?_; intro g2 c2 w6 hown2 hgrow2 hloc2 hlt2))
            go_roundw
            case rel =>
              refine ⟨i + 1, 0, by omega, by omega, rfl, by go_num, ?_, fun j h1 h2 => by omega, Or.inl ⟨rfl, Or.inr (Or.inl HF2.out)⟩, ?_⟩
              · rw [HE.out.1] at hown2
                rw [Nat.sub_zero, HE.out.2]
                exact hown2
              · exact (HK.out.step (World.grownBy_alloc wr _ none) (by simp)).step hgrow2 (fun k hk => Or.inl (HOW.out.lt k hk).1)
            case measure => simp [intOf]; omega
          | true =>
            rw [hf2] at e2
            have HF2 := Hid.mk' hf2
            have HL := Hid.mk' hL
            clear hc hrel hf hf2 hown hl hrun hst hpush hL
            go_wp2
            go_roundw
            case rel =>
              refine ⟨i + 1, c + 1, by omega, by omega, by go_num, by go_num, ?_, ?_, Or.inr ⟨by omega, ?_, by omega, HF2.out⟩, HK.out⟩
              · rw [show i + 1 - (c + 1) = i - c by omega, HL.out]; exact HOW.out
              · intro j h1 h2; exact HRUN.out j (by omega) h2
              · rw [show i + 1 - (c + 1) = i - c by omega]; exact HST.out
            case measure => simp [intOf]; omega
    · have hlt' : ¬ (i : Int) < (n : Int) := by omega
      have hc0 : c = 0 := by
        rcases hrel.out.2.1 with h | h
        · exact h.1
        · omega
      have HN := Hid.mk' (show i - c = n by omega)
      have HOW := Hid.mk' hown
      have HK := Hid.mk' hrel.out.2.2
      clear hrel hown hc0
      go_wp2
      go_ret
      refine ⟨_, rfl, ?_, HK.out⟩
      have := HOW.out
      rw [HN.out] at this
      exact this

end Go.Proofs.Ytnafocbgapianab
