import Derived.Test.YtndojlacdggfcabH7
namespace Go.Proofs.Ytndojlacdggfcab
open Go.RowKit

theorem rem_pos {c m : Int} (h0 : 0 < m) (h : 0 ≤ c.tmod m) : c.tmod m = c % m := by
  have h1 := Int.emod_eq_tmod (a := c) (b := m)
  have h2 := Int.emod_lt_of_pos c h0
  have h3 := Int.emod_nonneg c (by omega : m ≠ 0)
  split at h1 <;> omega
theorem rem_neg' {c m : Int} (h0 : 0 < m) (h : c.tmod m < 0) : c.tmod m + m = c % m := by
  have h1 := Int.emod_eq_tmod (a := c) (b := m)
  have h2 := Int.emod_lt_of_pos c h0
  have h3 := Int.emod_nonneg c (by omega : m ≠ 0)
  split at h1 <;> omega
theorem rem_neg {c m : Int} (h0 : 0 < m) (hm : m ≤ 1000000000) (h : c.tmod m < 0) : wrap64 (c.tmod m + m) = c % m := by
  have h1 := rem_neg' h0 h
  have h2 := Int.emod_lt_of_pos c h0
  have h3 := Int.emod_nonneg c (by omega : m ≠ 0)
  rw [wrap64_id (by omega) (by omega)]; exact h1

/-- A place by any number. -/
def plc (at_ : Int) (n : Nat) : Nat := (at_ % (n : Int)).toNat
theorem plc_lt (at_ : Int) {n : Nat} (h : 1 ≤ n) : plc at_ n < n := by
  have h2 := Int.emod_lt_of_pos at_ (show (0 : Int) < n by omega)
  have h3 := Int.emod_nonneg at_ (show (n : Int) ≠ 0 by omega)
  unfold plc; omega
theorem plc_cast (at_ : Int) {n : Nat} (h : 1 ≤ n) : (plc at_ n : Int) = at_ % (n : Int) := by
  have h3 := Int.emod_nonneg at_ (show (n : Int) ≠ 0 by omega)
  unfold plc; omega


set_option maxHeartbeats 400000 in
theorem place_any (c : Int) (w : World) : Calls Try.prog 41 #[.int .i64 c] w fun e w' => e = .returned (.int .i64 (plc c 3)) ∧ w = w' := by
  rw [plc_cast c (by omega)]
  go_enter Try.func41, Try.ntmps41
  go_wp2
  · go_ret
    exact ⟨ret_int (rem_neg (m := 3) (by omega) (by omega) ‹_›), rfl⟩
  · go_ret
    exact ⟨ret_int (rem_pos (m := 3) (by omega) ‹_›), rfl⟩

/-- A slice whose cells are xs, size cells each. -/
def Row (W : World) (v : Value) (n : Nat) (xs : List Value) : Prop :=
  ∃ a cap, v = .slice a n cap ∧ (0 < n → ∃ b o, a = some ⟨b, o, none⟩ ∧ b < W.heap.size ∧ ∀ (j : Nat) (u : Value), xs[j]? = some u → W.cell? ⟨b, o + j, none⟩ = some u)
theorem Row.keep {A B : World} {v : Value} {n : Nat} {xs : List Value} (h : Row A v n xs) (hk : Keeps (fun _ => False) A B) : Row B v n xs := by
  obtain ⟨a, cap, e, h⟩ := h
  refine ⟨a, cap, e, fun h0 => ?_⟩
  obtain ⟨b, o, e, hb, hc⟩ := h h0
  exact ⟨b, o, e, Nat.lt_of_lt_of_le hb hk.size, fun j u hu => hk.cell (hc j u hu) id⟩
theorem Row.of_own {W : World} {base : Nat} {e : TypeId} {size : Nat} {v : Value} {n : Nat} {xs : List Value} (h : W.ownsRow base e size v n xs) : Row W v n xs := by
  rcases h.2 with ⟨rfl, rfl⟩ | ⟨g, cap, cur, rfl, _⟩
  · exact ⟨none, 0, rfl, fun h => absurd h (by omega)⟩
  · refine ⟨_, cap, rfl, fun _ => ⟨g, 0, rfl, (h.lt g rfl).2, fun j u hu => ?_⟩⟩
    have := h.cells (g := g) rfl j u hu
    have hadd : (⟨g, 0, none⟩ : Addr).add j = ⟨g, j, none⟩ := by unfold Addr.add; split <;> simp_all
    rw [hadd] at this
    rwa [Nat.zero_add]
theorem rflat_get (L : List Rn) (k : Nat) (hk : k < L.length) : (rflat L)[k * 3]? = some (.int .i64 (L.getD k rz).1) ∧ (rflat L)[k * 3 + 1]? = some (.int .i64 (L.getD k rz).2.1) ∧ (rflat L)[k * 3 + 2]? = some (.int .i64 (L.getD k rz).2.2) := by
  induction L generalizing k with
  | nil => simp at hk
  | cons x L ih =>
    cases k with
    | zero => exact ⟨rfl, rfl, rfl⟩
    | succ k =>
      have := ih k (by simpa using hk)
      have e : rflat (x :: L) = .int .i64 x.1 :: .int .i64 x.2.1 :: .int .i64 x.2.2 :: rflat L := rfl
      rw [e, show (k + 1) * 3 = k * 3 + 1 + 1 + 1 by omega, show k * 3 + 1 + 1 + 1 + 1 = (k * 3 + 1) + 1 + 1 + 1 by omega, show k * 3 + 1 + 1 + 1 + 2 = (k * 3 + 2) + 1 + 1 + 1 by omega]
      simpa using this
theorem Row.of_runs {W : World} {p : Option Addr} {l : List Rn} {cap : Nat} (h : RnIn W p l) : Row W (.slice p l.length cap) l.length (rflat l) := by
  refine ⟨p, cap, rfl, fun h0 => ?_⟩
  obtain ⟨b, o, e, hb, hc⟩ := h h0
  refine ⟨b, o, e, hb, fun j u hu => ?_⟩
  have hj : j < l.length * 3 := by rw [← rflat_len]; exact (List.getElem?_eq_some_iff.1 hu).1
  obtain ⟨c0, c1, c2⟩ := hc (j / 3) (by omega)
  obtain ⟨g0, g1, g2⟩ := rflat_get l (j / 3) (by omega)
  have hm : j % 3 = 0 ∨ j % 3 = 1 ∨ j % 3 = 2 := by omega
  rcases hm with hm | hm | hm
  · obtain e : j = j / 3 * 3 := by omega
    rw [e] at hu ⊢
    rw [hu] at g0
    cases g0
    exact c0
  · obtain e : j = j / 3 * 3 + 1 := by omega
    rw [e] at hu ⊢
    rw [hu] at g1
    cases g1
    rw [← Nat.add_assoc]
    exact c1
  · obtain e : j = j / 3 * 3 + 2 := by omega
    rw [e] at hu ⊢
    rw [hu] at g2
    cases g2
    rw [← Nat.add_assoc]
    exact c2

end Go.Proofs.Ytndojlacdggfcab
