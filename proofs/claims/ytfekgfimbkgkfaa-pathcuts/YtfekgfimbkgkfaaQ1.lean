import Derived.Test.YtfekgfimbkgkfaaE0
namespace Go.Proofs.Ytfekgfimbkgkfaa
open Go.RowKit Go.Maps

/-- A part of more than 28 bytes among those to come. -/
def lg (acc l : Bs) : Bool := (pts acc l).any fun q => decide (28 < q.length)
theorem lg_long : ∀ (l acc : Bs), 28 < acc.length → lg acc l = true
  | [], acc, h => by
    have : acc.isEmpty = false := by cases acc with | nil => simp at h | cons _ _ => rfl
    simp [lg, pts, this, h]
  | b :: l, acc, h => by
    have : acc.isEmpty = false := by cases acc with | nil => simp at h | cons _ _ => rfl
    by_cases hb : b = 47
    · subst hb
      unfold lg
      rw [pts_slash, this]
      simp [h]
    · unfold lg
      rw [pts_other hb]
      exact lg_long l (acc ++ [b]) (by simp; omega)
theorem lg_parts (t : Bs) : lg [] t = long (parts t) := by
  unfold lg long parts
  rw [List.any_map]
  congr 1
/-- What takes' loop holds: the run under way, and whether a long one has come. -/
def TkI (t : Bs) (k : Nat) (run : Nat) (lng : Bool) : Prop := (t.take k).all (· != 0) = true ∧ ∃ acc : Bs, acc.length = run ∧ (lng || lg acc (t.drop k)) = lg [] t ∧ (28 < acc.length → lng = true)
theorem TkI.slash {t : Bs} {k run : Nat} {lng : Bool} (h : TkI t k run lng) (hk : k < t.length) (hb : t.getD k 0 = 47) : TkI t (k + 1) 0 lng := by
  obtain ⟨h0, acc, h1, h2, h3⟩ := h
  refine ⟨by rw [take_getD 0 hk, List.all_append, h0, hb]; decide, [], rfl, ?_, by simp⟩
  rw [drop_cons hk, hb] at h2
  rw [← h2]
  unfold lg
  rw [pts_slash]
  by_cases he : acc.isEmpty = true
  · rw [if_pos he]
  · rw [if_neg he, List.any_cons]
    by_cases hl : 28 < acc.length
    · rw [h3 hl]; simp
    · simp [hl]
theorem TkI.other {t : Bs} {k run : Nat} {lng : Bool} (h : TkI t k run lng) (hk : k < t.length) (hb : t.getD k 0 ≠ 47) (hz : t.getD k 0 ≠ 0) : TkI t (k + 1) (run + 1) (lng || decide (28 < run + 1)) := by
  obtain ⟨h0, acc, h1, h2, h3⟩ := h
  refine ⟨by rw [take_getD 0 hk, List.all_append, h0]; simp only [List.all_cons, List.all_nil, Bool.and_true, Bool.true_and, bne_iff_ne]; exact hz, acc ++ [t.getD k 0], by rw [List.length_append, h1]; rfl, ?_, fun hl => ?_⟩
  · rw [drop_cons hk] at h2
    have e : lg acc (t.getD k 0 :: t.drop (k + 1)) = lg (acc ++ [t.getD k 0]) (t.drop (k + 1)) := by unfold lg; rw [pts_other hb]
    rw [e] at h2
    rw [← h2]
    by_cases hl : 28 < run + 1
    · rw [lg_long _ _ (by rw [List.length_append, h1]; exact hl)]; simp
    · simp [hl]
  · rw [List.length_append, h1] at hl
    have : 28 < run + 1 := hl
    simp [this]
theorem TkI.fin {t : Bs} {run : Nat} {lng : Bool} (h : TkI t t.length run lng) : t.all (· != 0) = true ∧ lng = long (parts t) := by
  obtain ⟨h0, acc, h1, h2, h3⟩ := h
  rw [List.take_length] at h0
  rw [List.drop_length] at h2
  refine ⟨h0, ?_⟩
  rw [← lg_parts, ← h2]
  by_cases hl : 28 < acc.length
  · rw [h3 hl]; simp
  · have : lg acc [] = false := by
      unfold lg pts
      split
      · rfl
      · simp [hl]
    rw [this, Bool.or_false]
theorem all_hit {t : Bs} {k : Nat} (hk : k < t.length) (h : t.getD k 0 = 0) : t.all (· != 0) = false := by
  rw [List.all_eq_false]
  exact ⟨t.getD k 0, getD_mem 0 hk, by rw [h]; simp⟩

set_option maxHeartbeats 2000000 in
set_option maxRecDepth 100000 in
theorem takes_any (w : World) (s : ByteArray) (hs : s.size ≤ 9223372036854775807) :
    Calls Try.prog 19 #[.string s] w fun e w' => e = .returned (.int .i64 (prsE s.data.toList)) ∧ w' = w := by
  have hsl := size_len s
  by_cases hL : 200 < s.size
  · have hE : prsE s.data.toList = 140 := by unfold prsE; rw [if_pos (by omega)]
    have hL' : (200 : Int) < (s.size : Int) := by omega
    rw [hE]
    clear hsl hE
    go_enter Try.func19, Try.ntmps19
    go_wp2
    go_ret
    exact ⟨rfl, rfl⟩
  · have hL' : ¬ (200 : Int) < (s.size : Int) := by omega
    have hE : prsE s.data.toList = if formed s.data.toList = false then 141 else if long (parts s.data.toList) = true then 142 else 0 := by unfold prsE; rw [if_neg (by omega)]
    by_cases h0 : s.size = 0
    · have e0 := size0 h0
      subst e0
      have : prsE (⟨#[]⟩ : ByteArray).data.toList = 141 := by decide +kernel
      rw [this]
      clear this hE hsl hL hL' h0
      go_enter Try.func19, Try.ntmps19
      go_wp2
      go_ret
      exact ⟨rfl, rfl⟩
    · have hne : s.toList.isEmpty = false := by
        cases hl : s.toList with
        | nil => exact absurd (empty_iff.1 hl) h0
        | cons _ _ => rfl
      have hlt0 : 0 < s.size := by omega
      have hg0 := byte_getD s 0 hlt0
      have hH : s.data.toList.head? = some (s.data.toList.getD 0 0) := by
        cases hh : s.data.toList with
        | nil => rw [hh] at hsl; exact absurd hsl h0
        | cons b l => rfl
      by_cases hb : s.data.toList.getD 0 0 = 47
      · have hb' : (((s[0]'hlt0).toNat : Int) == 47) = true := by rw [hg0, hb]; rfl
        have hF : formed s.data.toList = s.data.toList.all (· != 0) := by unfold formed; rw [hH, hb]; rfl
        rw [hF] at hE
        have HE := Hid.mk' hE
        have HS := Hid.mk' hsl
        have h1n : 1 ≤ s.size := by omega
        have h1i : (0 : Int) < (s.size : Int) := by omega
        clear hE hF hsl hH hb hg0 h0
        go_enter Try.func19, Try.ntmps19
        go_wp2
        go_loopw [3, 4, 5] (fun r lg i wr => ∃ k : Nat, k ≤ s.size ∧ i = .int .i64 k ∧ wr = w ∧ ∃ rn : Nat, rn ≤ k ∧ r = .int .i64 rn ∧ ∃ lb : Bool, lg = .bool lb ∧ Hid (TkI s.data.toList k rn lb)) (fun _ _ i _ => s.size - (intOf i).toNat)
        case atStart => exact ⟨0, Nat.zero_le _, rfl, rfl, 0, Nat.le_refl _, rfl, false, rfl, rfl, [], rfl, by simp, by simp⟩
        case round =>
          obtain ⟨k, hk, rfl, rfl, rn, hrn, rfl, lb, rfl, HI⟩ := hrel
          by_cases h1 : k < s.size
          · have h1' : (k : Int) < (s.size : Int) := by omega
            have hg := byte_getD s k h1
            by_cases hz : s.data.toList.getD k 0 = 0
            · have b0 : ((s[k].toNat : Int) == 0) = true := by rw [hg, hz]; rfl
              have hR : prsE s.data.toList = 141 := by
                rw [HE.out, if_pos (all_hit (by rw [← HS.out]; exact h1) hz)]
              clear hz hg
              go_wp2
              go_ret
              exact ⟨by rw [hR]; rfl, rfl⟩
            · have b0 : ((s[k].toNat : Int) == 0) = false := by
                rw [hg]
                have : ¬ (s.data.toList.getD k 0).toNat = 0 := fun e => hz (UInt8.toNat_inj.1 e)
                exact beq_eq_false_iff_ne.2 (by omega)
              by_cases hb : s.data.toList.getD k 0 = 47
              · have b1 : ((s[k].toNat : Int) == 47) = true := by rw [hg, hb]; rfl
                have HN := Hid.mk' (HI.out.slash (by rw [← HS.out]; exact h1) hb)
                clear hz hg hb
                cases lb
                all_goals
                  go_wp2
                  go_roundw
                  case rel => exact ⟨k + 1, by omega, by go_num, trivial, 0, by omega, rfl, _, rfl, HN⟩
                  case measure => simp [intOf]; omega
              · have b1 : ((s[k].toNat : Int) == 47) = false := by
                  rw [hg]
                  have : ¬ (s.data.toList.getD k 0).toNat = 47 := fun e => hb (UInt8.toNat_inj.1 e)
                  exact beq_eq_false_iff_ne.2 (by omega)
                have HN := Hid.mk' (HI.out.other (by rw [← HS.out]; exact h1) hb hz)
                clear hz hg hb
                by_cases hrl : 28 < rn + 1
                · have hrl' : (28 : Int) < (rn : Int) + 1 := by omega
                  rw [decide_eq_true hrl] at HN
                  cases lb
                  all_goals
                    go_wp2
                    go_roundw
                    case rel => exact ⟨k + 1, by omega, by go_num, trivial, rn + 1, by omega, by go_num, true, rfl, HN⟩
                    case measure => simp [intOf]; omega
                · have hrl' : ¬ (28 : Int) < (rn : Int) + 1 := by omega
                  rw [decide_eq_false hrl, Bool.or_false] at HN
                  cases lb
                  all_goals
                    go_wp2
                    go_roundw
                    case rel => exact ⟨k + 1, by omega, by go_num, trivial, rn + 1, by omega, by go_num, _, rfl, HN⟩
                    case measure => simp [intOf]; omega
          · have h1' : ¬ (k : Int) < (s.size : Int) := by omega
            have e : k = s.data.toList.length := by rw [← HS.out]; omega
            have hf := HI.out
            rw [e] at hf
            obtain ⟨hf1, hf2⟩ := hf.fin
            have hR : prsE s.data.toList = if lb = true then 142 else 0 := by
              rw [HE.out, if_neg (by rw [hf1]; simp), ← hf2]
            have HRR := Hid.mk' hR
            clear hf hf1 hf2 e hR
            cases lb
            all_goals
              go_wp2
              go_ret
              exact ⟨by rw [HRR.out]; rfl, rfl⟩
      · have hb' : (((s[0]'hlt0).toNat : Int) == 47) = false := by
          rw [hg0]
          have : ¬ (s.data.toList.getD 0 0).toNat = 47 := fun e => hb (UInt8.toNat_inj.1 e)
          exact beq_eq_false_iff_ne.2 (by omega)
        have hF : formed s.data.toList = false := by
          unfold formed
          rw [hH]
          have : (some (s.data.toList.getD 0 0) == some (47 : UInt8)) = false := beq_eq_false_iff_ne.2 (fun e => hb (by injection e))
          rw [this]; rfl
        rw [hF, if_pos rfl] at hE
        rw [hE]
        have h1n : 1 ≤ s.size := by omega
        have h1i : (0 : Int) < (s.size : Int) := by omega
        clear hE hF hsl hH hb hg0 h0
        go_enter Try.func19, Try.ntmps19
        go_wp2
        go_ret
        exact ⟨rfl, rfl⟩
end Go.Proofs.Ytfekgfimbkgkfaa
