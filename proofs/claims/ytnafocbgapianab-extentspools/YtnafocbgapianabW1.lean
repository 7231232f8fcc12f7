import Derived.Test.YtnafocbgapianabW0
namespace Go.Proofs.Ytnafocbgapianab
open Go.RowKit

/-! The document's own bitmap (furrowref05): a mark a number. -/

structure RbAt (w : World) (e : Nat) (v : Value) (n : Nat) (S : Nat → Bool) : Prop where
  at_ : w.heap[e]? = some (.cells #[v] 113 (0, 0))
  row : w.ownsRow 0 4 1 v n (boolCells S n)
  le : n ≤ 1024

theorem own_kept' {w w' : World} {B e sz n : Nat} {v : Value} {xs : List Value} {X : Nat → Prop} (h : w.ownsRow B e sz v n xs) (k : Keeps X w w') (hx : ∀ g, v.ownBlock = some g → ¬ X g) : w'.ownsRow B e sz v n xs := by
  have hlt := h.lt
  obtain ⟨h1, h2⟩ := h
  refine ⟨h1, ?_⟩
  rcases h2 with h2 | ⟨g, cap, cur, hv, hg, hh, r⟩
  · exact Or.inl h2
  · have e1 : v.ownBlock = some g := by rw [hv]; rfl
    exact Or.inr ⟨g, cap, cur, hv, hg, (k.block g (hlt g e1).2 (hx g e1)).trans hh, r⟩
theorem RbAt.kept {X : Nat → Prop} {w w' : World} {e n : Nat} {v : Value} {S : Nat → Bool} (h : RbAt w e v n S) (k : Keeps X w w') (h1 : ¬ X e) (h2 : ∀ g, v.ownBlock = some g → ¬ X g) : RbAt w' e v n S := ⟨k.at h.at_ h1, own_kept' h.row k h2, h.le⟩
theorem RbAt.drewN {w : World} {e n : Nat} {v : Value} {S : Nat → Bool} (h : RbAt w e v n S) (m : Nat) : RbAt (w.drewN m) e v n S := h.kept (Keeps.drewN (fun _ => False) _ _) (by simp) (by simp)
theorem boolCells_len (S : Nat → Bool) (n : Nat) : (boolCells S n).length = n := by simp [boolCells]
theorem boolCells_get (S : Nat → Bool) (n i : Nat) (h : i < n) : (boolCells S n)[i]? = some (.bool (S i)) := by simp [boolCells, h]
theorem boolCells_setL (S : Nat → Bool) (n i : Nat) (b : Bool) : (boolCells S n).set i (.bool b) = boolCells (upd S i b) n := by
  have := boolCells_set S n i b
  rw [List.setIfInBounds_toArray] at this
  exact congrArg Array.toList this
theorem boolCells_succ (S : Nat → Bool) (n : Nat) : boolCells S (n + 1) = boolCells S n ++ [.bool (S n)] := by simp [boolCells, List.range_succ]
theorem boolCells_congr {S T : Nat → Bool} {n : Nat} (h : ∀ i, i < n → S i = T i) : boolCells S n = boolCells T n := by
  unfold boolCells
  refine List.map_congr_left fun i hi => ?_
  rw [h i (by simpa using hi)]

theorem RbAt.field {w : World} {e n : Nat} {v : Value} {S : Nat → Bool} (h : RbAt w e v n S) : w.cell? ⟨e, 0, none⟩ = some v := by simp [World.cell?, h.at_]
/-- Where its row lies, if it has a mark. -/
theorem RbAt.form {w : World} {e n : Nat} {v : Value} {S : Nat → Bool} (h : RbAt w e v n S) (hn : 0 < n) : ∃ g cap, v = .slice (some ⟨g, 0, none⟩) n cap ∧ g < w.heap.size ∧ (∀ i, i < n → w.cell? ⟨g, i, none⟩ = some (.bool (S i))) ∧ (∀ i, w.frozen? ⟨g, i, none⟩ = false) ∧ g ≠ e := by
  obtain ⟨g, cap, hv, _, hg⟩ := h.row.form hn
  have hr := h.row
  rw [hv] at hr
  refine ⟨g, cap, hv, hg, fun i hi => ?_, fun i => hr.frozenAt i, ?_⟩
  · rw [hr.cellAt i (by omega)]; exact boolCells_get S n i hi
  · rintro rfl
    rcases hr.2 with ⟨h0, _⟩ | ⟨g', c', cur, hv', _, hh, _⟩
    · cases h0
    · cases hv'
      rw [h.at_] at hh
      cases hh
theorem RbAt.slice {w : World} {e n : Nat} {v : Value} {S : Nat → Bool} (h : RbAt w e v n S) : ∃ p cap, v = .slice p n cap := by
  rcases h.row.2 with ⟨h0, h1⟩ | ⟨g, cap, cur, hv, _⟩
  · exact ⟨none, 0, by rw [h0, h1]⟩
  · exact ⟨_, cap, hv⟩
theorem RbAt.turn {w : World} {e n g cap : Nat} {S : Nat → Bool} (h : RbAt w e (.slice (some ⟨g, 0, none⟩) n cap) n S) (i : Nat) (b : Bool) (hne : g ≠ e) : RbAt (w.setCell ⟨g, i, none⟩ (.bool b)) e (.slice (some ⟨g, 0, none⟩) n cap) n (upd S i b) ∧ Keeps (fun j => j = g) w (w.setCell ⟨g, i, none⟩ (.bool b)) := by
  have kp : Keeps (fun j => j = g) w (w.setCell ⟨g, i, none⟩ (.bool b)) := Keeps.of (grownBy_setCell w ⟨g, i, none⟩ _) (by rintro j hj; cases hj; exact Or.inl rfl)
  have hr := (h.row.stored i (.bool b)).1
  rw [boolCells_setL] at hr
  exact ⟨⟨kp.at h.at_ (Ne.symm hne), hr, h.le⟩, kp⟩

set_option maxHeartbeats 1000000 in
theorem rhas_any (w : World) (e n : Nat) (v : Value) (S : Nat → Bool) (h : RbAt w e v n S) (i : Int) :
    Calls Try.prog 54 #[.pointer (some ⟨e, 0, none⟩), .int .i64 i] w fun r w' => r = .returned (.bool (hasI n S i)) ∧ w' = w := by
  have hf := h.field
  by_cases hi : 0 ≤ i ∧ i < n
  · obtain ⟨k, rfl⟩ := Int.eq_ofNat_of_zero_le hi.1
    rw [hasI_in (by omega)]
    obtain ⟨g, cap, rfl, hg, hc, _, _⟩ := h.form (by omega)
    have hb := hc k (by omega)
    have h0 : (0 : Int) ≤ (k : Int) := by omega
    have h1 : (k : Int) < (n : Int) := by omega
    clear h hc hi
    generalize S k = x at *
    go_enter Try.func54, Try.ntmps54
    go_wp2
    go_ret
    exact ⟨ret_bool (by simp), rfl⟩
  · rw [hasI_out hi]
    obtain ⟨p, cap, rfl⟩ := h.slice
    by_cases h0 : 0 ≤ i
    · have h1 : ¬ i < (n : Int) := by omega
      clear h hi
      go_enter Try.func54, Try.ntmps54
      go_wp2
      go_ret
      exact ⟨ret_bool (by simp), rfl⟩
    · clear h hi
      go_enter Try.func54, Try.ntmps54
      go_wp2
      go_ret
      exact ⟨ret_bool (by simp), rfl⟩

set_option maxHeartbeats 1000000 in
theorem rset_in (w : World) (e n : Nat) (v : Value) (S : Nat → Bool) (h : RbAt w e v n S) (k : Nat) (hk : k < n) :
    Calls Try.prog 53 #[.pointer (some ⟨e, 0, none⟩), .int .i64 k] w fun r w' => r = .returned (.bool (!S k)) ∧ RbAt w' e v n (upd S k true) ∧ Keeps (fun j => v.ownBlock = some j) w w' := by
  have hf := h.field
  obtain ⟨g, cap, rfl, hg, hc, hfz, hge⟩ := h.form (by omega)
  have hb := hc k hk
  have hz := hfz k
  have h0 : ¬ (k : Int) < 0 := by omega
  have h1 : ¬ (n : Int) ≤ (k : Int) := by omega
  have h2 : (k : Int) < (n : Int) := by omega
  have HR := Hid.mk' h
  have HT := Hid.mk' (h.turn k true hge)
  clear h hc hfz
  cases hS : S k with
  | true =>
    rw [hS] at hb
    have HU := Hid.mk' (upd_id hS)
    clear hS
    go_enter Try.func53, Try.ntmps53
    go_wp2
    go_ret
    refine ⟨rfl, ?_, Keeps.refl _ _⟩
    rw [HU.out]; exact HR.out
  | false =>
    rw [hS] at hb
    clear hS
    go_enter Try.func53, Try.ntmps53
    go_wp2
    go_ret
    exact ⟨rfl, HT.out.1, HT.out.2.mono (fun j _ hj => by rw [hj]; rfl)⟩

set_option maxHeartbeats 1000000 in
theorem rset_out (w : World) (e n : Nat) (v : Value) (S : Nat → Bool) (h : RbAt w e v n S) (i : Int) (hi : ¬ (0 ≤ i ∧ i < n)) :
    Calls Try.prog 53 #[.pointer (some ⟨e, 0, none⟩), .int .i64 i] w fun r w' => r = .returned (.bool false) ∧ w' = w := by
  have hf := h.field
  obtain ⟨p, cap, rfl⟩ := h.slice
  by_cases h0 : i < 0
  · clear h hi
    go_enter Try.func53, Try.ntmps53
    go_wp2
    go_ret
    exact ⟨rfl, rfl⟩
  · have h1 : (n : Int) ≤ i := by omega
    clear h hi
    go_enter Try.func53, Try.ntmps53
    go_wp2
    go_ret
    exact ⟨rfl, rfl⟩

set_option maxHeartbeats 1000000 in
theorem rcount_any (w : World) (e n : Nat) (v : Value) (S : Nat → Bool) (h : RbAt w e v n S) :
    Calls Try.prog 55 #[.pointer (some ⟨e, 0, none⟩)] w fun r w' => r = .returned (.int .i64 (cn S n)) ∧ w' = w := by
  have hf := h.field
  have hle := h.le
  have HR := Hid.mk' h
  obtain ⟨p, cap, rfl⟩ := h.slice
  clear h
  go_enter Try.func55, Try.ntmps55
  go_wp2
  go_loop [3, 4] (fun nv iv => ∃ k : Nat, k ≤ n ∧ nv = .int .i64 (cn S k) ∧ iv = .int .i64 k) (fun _ iv => n - (intOf iv).toNat)
  case atStart => exact ⟨0, by omega, rfl, rfl⟩
  case round =>
    obtain ⟨k, hk, rfl, rfl⟩ := hrel
    by_cases hlt : k < n
    · have hlt' : (k : Int) < (n : Int) := by omega
      have hk0 : (0 : Int) ≤ (k : Int) := by omega
      obtain ⟨g, cap', hv, hg, hc, _, _⟩ := HR.out.form (by omega)
      cases hv
      have hb := hc k hlt
      have HS := Hid.mk' (cn_succ S k)
      have hcl := cn_le S k
      clear hc
      generalize cn S k = q at *
      cases hSk : S k with
      | true =>
        rw [hSk] at hb HS
        clear hSk
        go_wp2
        go_round
        case rel => exact ⟨k + 1, by omega, by rw [HS.out]; go_num, by go_num⟩
        case measure => simp [intOf]; omega
      | false =>
        rw [hSk] at hb HS
        clear hSk
        go_wp2
        go_round
        case rel => exact ⟨k + 1, by omega, by rw [HS.out]; go_num, by go_num⟩
        case measure => simp [intOf]; omega
    · have hlt' : ¬ (k : Int) < (n : Int) := by omega
      have HK := Hid.mk' (show k = n by omega)
      go_wp2
      go_ret
      exact ⟨ret_int (by rw [HK.out]), rfl⟩

end Go.Proofs.Ytnafocbgapianab
