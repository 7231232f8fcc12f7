import Derived.Test.YtngoifbflpeapabDoorT1
namespace Go.Proofs.YtngoifbflpeapabDoor
open Go.RowKit Go.Maps
set_option maxRecDepth 100000

/-! The document's Number: of a word, if some number is printed so. -/
theorem num_text {x : Bs} {v : Int} (h : num x = some v) : x = Lib.itoa v ∧ -9223372036854775808 ≤ v ∧ v ≤ 9223372036854775807 := by
  unfold num at h
  split at h
  · rename_i u hu
    split at h
    · rename_i hi
      cases h
      exact ⟨hi.symm, parse_bounds hu⟩
    · cases h
  · cases h
def pvs (acc : Nat) (b : UInt8) : Nat := if b = 45 then acc else acc * 10 + (b.toNat - 48)
def pv (x : Bs) (k : Nat) : Nat := (x.take k).foldl pvs 0
theorem pv_succ {x : Bs} {k : Nat} {b : UInt8} (h : x[k]? = some b) : pv x (k + 1) = pvs (pv x k) b := by
  unfold pv
  rw [List.take_add_one, h, Option.toList_some, List.foldl_append]
  rfl
theorem pvs_le (acc : Nat) (b : UInt8) : acc ≤ pvs acc b := by
  unfold pvs
  split
  · exact Nat.le_refl _
  · omega
theorem pv_mono {x : Bs} : ∀ {j k : Nat}, pv x k ≤ pv x (k + j)
  | 0, k => Nat.le_refl _
  | j + 1, k => by
    have h := pv_mono (x := x) (j := j) (k := k)
    cases hb : x[k + j]? with
    | some b =>
      have := pvs_le (pv x (k + j)) b
      rw [← pv_succ hb] at this
      exact Nat.le_trans h this
    | none =>
      have e : pv x (k + (j + 1)) = pv x (k + j) := by
        unfold pv
        have := List.getElem?_eq_none_iff.1 hb
        rw [List.take_of_length_le (by omega), List.take_of_length_le (by omega)]
      rw [e]; exact h
theorem pv_dec : ∀ (u : Nat), (Lib.decDigits u).foldl pvs 0 = u := by
  intro u
  induction u using Nat.strongRecOn with
  | _ u ih =>
    have hne : ∀ d, d < 10 → ¬ UInt8.ofNat (48 + d) = 45 := by
      intro d hd e
      have := congrArg UInt8.toNat e
      rw [ofNat_small (by omega)] at this
      have e45 : (45 : UInt8).toNat = 45 := rfl
      omega
    rw [Lib.decDigits]
    by_cases h10 : u < 10
    · rw [dif_pos h10]
      show pvs 0 (UInt8.ofNat (48 + u)) = u
      unfold pvs
      rw [if_neg (hne u h10), ofNat_small (by omega)]
      omega
    · rw [dif_neg h10, List.foldl_append, ih (u / 10) (by omega)]
      show pvs (u / 10) (UInt8.ofNat (48 + u % 10)) = u
      unfold pvs
      rw [if_neg (hne _ (by omega)), ofNat_small (by omega)]
      omega
theorem pv_itoa (v : Int) : pv (Lib.itoa v) (Lib.itoa v).length = v.natAbs := by
  unfold pv
  rw [List.take_length]
  unfold Lib.itoa
  split
  · show (Lib.decDigits v.natAbs).foldl pvs (pvs 0 45) = _
    exact pv_dec _
  · rw [pv_dec]; omega
theorem itoa_first (v : Int) : ∃ b r, Lib.itoa v = b :: r ∧ (b = 45 ↔ v < 0) := by
  unfold Lib.itoa
  split
  · rename_i h
    exact ⟨45, _, rfl, ⟨fun _ => h, fun _ => rfl⟩⟩
  · rename_i h
    obtain ⟨c, r, e, h1, h2⟩ := dec_head v.toNat
    refine ⟨c, r, e, ⟨fun hc => ?_, fun hc => absurd hc h⟩⟩
    subst hc
    have e45 : (45 : UInt8).toNat = 45 := rfl
    omega
theorem itoa_tail {v : Int} {k : Nat} {b : UInt8} (h : (Lib.itoa v)[k]? = some b) : (48 ≤ b.toNat ∧ b.toNat ≤ 57) ∨ (k = 0 ∧ b = 45) := by
  unfold Lib.itoa at h
  split at h
  · cases k with
    | zero => right; exact ⟨rfl, by simpa using h.symm⟩
    | succ k =>
      left
      rw [List.getElem?_cons_succ] at h
      exact dec_bytes _ _ (List.mem_of_getElem? h)
  · left; exact dec_bytes _ _ (List.mem_of_getElem? h)
theorem itoa_len20 {v : Int} (h : -9223372036854775808 ≤ v ∧ v ≤ 9223372036854775807) : (Lib.itoa v).length ≤ 20 := by
  by_cases h0 : v = 0
  · subst h0; simp [Lib.itoa, Lib.decDigits]
  · rw [itoa_dd h0, List.length_append]
    have := dd_len 19 v.natAbs (by have : (10 : Nat) ^ 19 = 10000000000000000000 := by decide
                                   omega)
    have h2 : (if v < 0 then ([45] : Bs) else []).length ≤ 1 := by split <;> simp
    omega
theorem num_nil : num [] = none := by
  cases h : num [] with
  | none => rfl
  | some v =>
    have := (num_text h).1
    exact absurd this.symm (itoa_ne v)
theorem wrap_in (x : Int) : -9223372036854775808 ≤ wrap64 x ∧ wrap64 x ≤ 9223372036854775807 := by
  unfold wrap64; omega
/-- What is known of the number so far. -/
def NK (x : Bs) (k : Nat) (m : Int) : Prop := (-9223372036854775808 ≤ m ∧ m ≤ 9223372036854775807) ∧ ∀ v, num x = some v → m = -(pv x k : Int)
theorem NK.bound {x : Bs} {v : Int} (h : num x = some v) (k : Nat) : pv x k ≤ v.natAbs := by
  have ht := (num_text h).1
  by_cases hk : k ≤ x.length
  · have := pv_mono (x := x) (j := x.length - k) (k := k)
    rw [show k + (x.length - k) = x.length by omega] at this
    rw [ht, pv_itoa, ← ht] at this
    exact this
  · have e : pv x k = pv x x.length := by
      unfold pv
      rw [List.take_of_length_le (by omega), List.take_length]
    rw [e, ht, pv_itoa]
    exact Nat.le_refl _
theorem NK.digit {x : Bs} {k : Nat} {m : Int} (h : NK x k m) {b : UInt8} (hb : x[k]? = some b) (hd : 48 ≤ b.toNat ∧ b.toNat ≤ 57) : NK x (k + 1) (wrap64 (wrap64 (10 * m) - ((b.toNat : Int) - 48))) := by
  refine ⟨wrap_in _, fun v hv => ?_⟩
  have hm := h.2 v hv
  have hn : ¬ b = 45 := by
    rintro rfl
    have e45 : (45 : UInt8).toNat = 45 := rfl
    omega
  have e := pv_succ hb
  unfold pvs at e
  rw [if_neg hn] at e
  have hb2 := NK.bound hv (k + 1)
  have hv2 := (num_text hv).2
  rw [e] at hb2 ⊢
  have hm' : m = -(pv x k : Int) := hm
  generalize pv x k = p at *
  have h1 : wrap64 (10 * m) = 10 * m := wrap64_id (by omega) (by omega)
  rw [h1]
  rw [wrap64_id (by omega) (by omega)]
  omega
theorem NK.minus {x : Bs} {m : Int} (h : NK x 0 m) (hb : x[0]? = some 45) : NK x 1 m := by
  refine ⟨h.1, fun v hv => ?_⟩
  rw [h.2 v hv]
  have e := pv_succ hb
  unfold pvs at e
  rw [if_pos rfl] at e
  show _ = -((pv x 1 : Nat) : Int)
  rw [show (1 : Nat) = 0 + 1 from rfl, e]
theorem NK.bad {x : Bs} {k : Nat} {b : UInt8} (hb : x[k]? = some b) (h1 : ¬ (48 ≤ b.toNat ∧ b.toNat ≤ 57)) (h2 : ¬ (k = 0 ∧ b = 45)) : num x = none := by
  cases hv : num x with
  | none => rfl
  | some v =>
    have ht := (num_text hv).1
    rw [ht] at hb
    rcases itoa_tail hb with h | h
    · exact absurd h h1
    · exact absurd h h2
theorem NK.fin {x : Bs} {m : Int} (h : NK x x.length m) {b : UInt8} (hb : x[0]? = some b) (m2 : Int) (hm2 : m2 = if b = 45 then m else wrap64 (-m)) : (∀ v, num x = some v → m2 = v) ∧ (Lib.itoa m2 = x ↔ (num x).isSome = true) ∧ -9223372036854775808 ≤ m2 ∧ m2 ≤ 9223372036854775807 := by
  have hbd : -9223372036854775808 ≤ m2 ∧ m2 ≤ 9223372036854775807 := by
    rw [hm2]
    split
    · exact h.1
    · exact wrap_in _
  have key : ∀ v, num x = some v → m2 = v := by
    intro v hv
    have ht := num_text hv
    have hm := h.2 v hv
    have e : pv x x.length = v.natAbs := by rw [ht.1, pv_itoa]
    rw [e] at hm
    obtain ⟨c, r, ec, hc⟩ := itoa_first v
    have hbc : b = c := by
      rw [ht.1, ec] at hb
      simpa using hb.symm
    subst hbc
    rw [hm2]
    by_cases h45 : b = 45
    · rw [if_pos h45]
      have := hc.1 h45
      omega
    · rw [if_neg h45]
      have : ¬ v < 0 := fun hv2 => h45 (hc.2 hv2)
      rw [wrap64_id (by omega) (by omega)]
      omega
  refine ⟨key, ⟨fun e => ?_, fun e => ?_⟩, hbd⟩
  · rw [← e, num_itoa m2 hbd.1 hbd.2]; rfl
  · obtain ⟨v, hv⟩ := Option.isSome_iff_exists.1 e
    rw [key v hv]
    exact (num_text hv).1.symm
end Go.Proofs.YtngoifbflpeapabDoor

