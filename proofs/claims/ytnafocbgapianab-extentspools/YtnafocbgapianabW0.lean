import Derived.Test.YtnafocbgapianabU1
import Derived.Test.YtnafocbgapianabD1
import Derived.Test.YtnafocbgapianabC0
namespace Go.Proofs.Ytnafocbgapianab
open Go.RowKit

/-! Merge, of a bitmap with itself too; Merge of nil. -/

set_option maxHeartbeats 4000000 in
theorem merge_gen (w : World) (b o n m : Nat) (S O : Nat → Bool) (h : BmAt w b n S) (hoth : ∀ wr k, BmAt wr b n (uni S O k) → Keeps (fun j => j = b) w wr → BmAt wr o m O) :
    Calls Try.prog 29 #[.pointer (some ⟨b, 0, none⟩), .pointer (some ⟨o, 0, none⟩)] w fun e w' => e = .returned (.int .i64 (lst S O n)) ∧ BmAt w' b n (uni S O n) ∧ Keeps (fun k => k = b) w w' := by
  have h0 := mk_len h.at_
  have hle := h.le
  have HB := Hid.mk' h
  have HO := Hid.mk' hoth
  clear h hoth
  go_enter Try.func29, Try.ntmps29
  go_wp2
  go_loopw [5, 15] (fun bv iv wr => ∃ k : Nat, k ≤ n ∧ bv = .int .i64 (lst S O k) ∧ iv = .int .i64 k ∧ Hid (BmAt wr b n (uni S O k) ∧ Keeps (fun k => k = b) w wr)) (fun _ iv _ => n - (intOf iv).toNat)
  case atStart => exact ⟨0, by omega, rfl, rfl, by rw [uni_zero]; exact HB.out, Keeps.refl _ _⟩
  case round =>
    obtain ⟨k, hk, rfl, rfl, hrel⟩ := hrel
    by_cases hlt : k < n
    · have hlt' : (k : Int) < (n : Int) := by omega
      have hO := HO.out wr k hrel.out.1 hrel.out.2
      have hh := has_any wr o m (k : Int) O [] 97 hO.at_ hO.le
      rw [hasI_sup hO.sup] at hh
      have hset := fun x => set_do (wr.drewN x) b n k (uni S O k) [] 97 hrel.out.1.at_ hle hlt
      rw [uni_at] at hset
      have hbd := lst_bd S O k
      have HREL := hrel
      have HL : Hid (lst S O (k + 1) = if lst S O k < 0 ∧ (S k = true ∧ O k = true) then (k : Int) else lst S O k) := rfl
      clear hrel
      cases hOk : O k with
      | false =>
        rw [hOk] at hh
        have HU := Hid.mk' (uni_skip S O k hOk)
        have HLN : Hid (lst S O (k + 1) = lst S O k) := by show _ = _; rw [HL.out, if_neg (by simp [hOk])]
        clear hOk
        go_wp2_with (first | (go_at_call 51; refine hh.mono ?_; clear hh; rintro e w1 ⟨rfl, m1, hw⟩; subst w1))
        go_roundw
        case rel =>
          refine ⟨k + 1, by omega, by rw [HLN.out], by go_num, ?_, HREL.out.2.trans (Keeps.drewN _ _ _)⟩
          rw [HU.out]
          exact HREL.out.1.kept (Keeps.drewN (fun _ => False) _ _) (by simp)
        case measure => simp [intOf]; omega
      | true =>
        rw [hOk] at hh
        have HU := Hid.mk' (uni_next S O k hOk)
        rw [← HU.out] at hset
        have HSUP : Hid (∀ i, uni S O (k + 1) i = true → i < n) := by
          intro i hi
          rw [HU.out] at hi
          unfold upd at hi
          split at hi
          · omega
          · exact HREL.out.1.sup i hi
        cases hSk : S k with
        | false =>
          rw [hSk] at hset
          have HLN : Hid (lst S O (k + 1) = lst S O k) := by show _ = _; rw [HL.out, if_neg (by simp [hSk])]
          clear hSk hOk
          go_wp2_with (first | (go_at_call 51; refine hh.mono ?_; clear hh; rintro e w1 ⟨rfl, m1, hw⟩; subst w1) | (go_at_call 41; refine (hset _).mono ?_; clear hset; rintro e w2 ⟨rfl, hx⟩; have HX := Hid.mk' hx; clear hx))
          go_roundw
          case rel => exact ⟨k + 1, by omega, by rw [HLN.out], by go_num, ⟨HX.out.1, hle, HSUP.out⟩, (HREL.out.2.trans (Keeps.drewN _ _ m1)).trans HX.out.2.1⟩
          case measure => simp [intOf]; omega
        | true =>
          rw [hSk] at hset
          by_cases hlz : lst S O k < 0
          · have HLN : Hid (lst S O (k + 1) = (k : Int)) := by show _ = _; rw [HL.out, if_pos ⟨hlz, hSk, hOk⟩]
            clear hSk hOk
            go_wp2_with (first | (go_at_call 51; refine hh.mono ?_; clear hh; rintro e w1 ⟨rfl, m1, hw⟩; subst w1) | (go_at_call 41; refine (hset _).mono ?_; clear hset; rintro e w2 ⟨rfl, hx⟩; have HX := Hid.mk' hx; clear hx))
            go_roundw
            case rel => exact ⟨k + 1, by omega, by rw [HLN.out], by go_num, ⟨HX.out.1, hle, HSUP.out⟩, (HREL.out.2.trans (Keeps.drewN _ _ m1)).trans HX.out.2.1⟩
            case measure => simp [intOf]; omega
          · have HLN : Hid (lst S O (k + 1) = lst S O k) := by show _ = _; rw [HL.out, if_neg (by omega)]
            clear hSk hOk
            go_wp2_with (first | (go_at_call 51; refine hh.mono ?_; clear hh; rintro e w1 ⟨rfl, m1, hw⟩; subst w1) | (go_at_call 41; refine (hset _).mono ?_; clear hset; rintro e w2 ⟨rfl, hx⟩; have HX := Hid.mk' hx; clear hx))
            go_roundw
            case rel => exact ⟨k + 1, by omega, by rw [HLN.out], by go_num, ⟨HX.out.1, hle, HSUP.out⟩, (HREL.out.2.trans (Keeps.drewN _ _ m1)).trans HX.out.2.1⟩
            case measure => simp [intOf]; omega
    · have hlt' : ¬ (k : Int) < (n : Int) := by omega
      have HK := Hid.mk' (show k = n by omega)
      have HREL := hrel
      clear hrel
      go_wp2
      go_ret
      rw [← HK.out]
      exact ⟨rfl, by have := HREL.out.1; rwa [HK.out] at this ⊢, HREL.out.2⟩

theorem uni_self (S : Nat → Bool) (k : Nat) : uni S S k = S := by funext j; unfold uni; cases S j <;> simp

set_option maxHeartbeats 1000000 in
theorem merge_nil (w : World) (b : Nat) :
    Calls Try.prog 29 #[.pointer (some ⟨b, 0, none⟩), .pointer none] w fun e w' => e = .returned (.int .i64 (-1)) ∧ w' = w := by
  go_enter Try.func29, Try.ntmps29
  go_wp2
  go_ret
  exact ⟨rfl, rfl⟩

/-! Spans of marks, as the document's own walk finds them. -/

theorem sp_end {f : Nat → Bool} {lo n a b : Nat} {l : List (Nat × Nat)} (h : sp f lo n = l ++ [(a, b)]) : f (a + b - 1) = true ∧ a + b ≤ lo + n ∧ 1 ≤ b := by
  have hn := sp_neat f lo n
  have hp := sp_pages f lo n
  rw [h] at hn hp
  have h1 := (neat_get hn l.length (by simp)).1
  simp at h1
  have hm : a + b - 1 ∈ pagesOf (l ++ [(a, b)]) := by
    rw [pagesOf_app]
    refine List.mem_append_right _ ?_
    simp [pagesOf, List.mem_range'_1]; omega
  rw [hp] at hm
  have := mem_fl.1 hm
  exact ⟨this.2.2, by omega, h1⟩

/-- A run that is done. -/
theorem sp_push {f : Nat → Bool} {st c : Nat} (hc : 1 ≤ c) (hr : ∀ j, st ≤ j → j < st + c → f j = true) (hs : st = 0 ∨ f (st - 1) = false) : sp f 0 (st + c) = sp f 0 st ++ [(st, c)] := by
  have e1 : sp f 0 (st + c) = (List.range' st c).foldl addP (sp f 0 st) := by
    unfold sp
    rw [fl_add, List.foldl_append, Nat.zero_add, fl_all (fun i h1 h2 => hr i h1 h2)]
  have e2 : addP (sp f 0 st) st = sp f 0 st ++ [(st, 1)] := by
    rcases list_snoc (sp f 0 st) with h | ⟨l, ⟨a, b⟩, h⟩
    · rw [h]; rfl
    · have := sp_end h
      rw [h]
      refine addP_new _ _ _ _ ?_
      rintro rfl
      rcases hs with hs | hs
      · omega
      · rw [this.1] at hs; cases hs
  obtain ⟨k, rfl⟩ : ∃ k, c = k + 1 := ⟨c - 1, by omega⟩
  rw [e1, List.range'_succ, List.foldl_cons, e2, foldl_app _ _ _ (by simp), fold_range k st 1 (Nat.le_refl _)]
  congr 3; omega

/-- Marks within a window. -/
theorem fl_window (g : Nat → Bool) (n : Nat) (lo hi : Int) : fl (fun j => (g j && decide (lo ≤ (j : Int))) && decide ((j : Int) < hi)) 0 n = fl g (clamp n lo) (clamp n hi - clamp n lo) := by
  have hL := clamp_le n lo
  have hH := clamp_le n hi
  have cl : ∀ j : Nat, j < n → ((lo ≤ (j : Int)) ↔ clamp n lo ≤ j) := fun j hj => by unfold clamp; omega
  have ch : ∀ j : Nat, j < n → (((j : Int) < hi) ↔ j < clamp n hi) := fun j hj => by unfold clamp; omega
  generalize clamp n lo = L at *
  generalize clamp n hi = H at *
  have hno : ∀ j, j < n → (j < L ∨ H ≤ j) → ((g j && decide (lo ≤ (j : Int))) && decide ((j : Int) < hi)) = false := fun j hj h => by
    rcases h with h | h
    · have : ¬ lo ≤ (j : Int) := by rw [cl j hj]; omega
      simp [this]
    · have : ¬ (j : Int) < hi := by rw [ch j hj]; omega
      simp [this]
  by_cases hLH : L ≤ H
  · obtain ⟨c, rfl⟩ : ∃ c, H = L + c := ⟨H - L, by omega⟩
    obtain ⟨r, rfl⟩ : ∃ r, n = L + c + r := ⟨n - (L + c), by omega⟩
    rw [fl_add, fl_add, fl_none (fun i _ h2 => hno i (by omega) (Or.inl (by omega))), fl_none (lo := 0 + (L + c)) (fun i h1 h2 => hno i (by omega) (Or.inr (by omega)))]
    simp only [List.nil_append, List.append_nil, Nat.zero_add, Nat.add_sub_cancel_left]
    refine fl_congr fun i h1 h2 => ?_
    have h3 : lo ≤ (i : Int) := (cl i (by omega)).2 h1
    have h4 : (i : Int) < hi := (ch i (by omega)).2 h2
    simp [h3, h4]
  · rw [show H - L = 0 by omega, fl_zero]
    exact fl_none fun i _ h2 => hno i (by omega) (by omega)
theorem sp_window (g : Nat → Bool) (n : Nat) (lo hi : Int) : sp (fun j => (g j && decide (lo ≤ (j : Int))) && decide ((j : Int) < hi)) 0 n = sp g (clamp n lo) (clamp n hi - clamp n lo) := by
  unfold sp; rw [fl_window]

end Go.Proofs.Ytnafocbgapianab
