import Derived.Test.YtndojlacdggfcabP7
namespace Go.Proofs.Ytndojlacdggfcab
open Go.RowKit

/-- Load, whatever it answers. -/
theorem load_some (W : World) (a : Option Addr) (R : List Rn) (c : Nat) (h : Row W (.slice a R.length c) R.length (rflat R)) (hl : R.length ≤ 1000) (hb : ∀ r ∈ R, bdR r) :
    Calls Try.prog 12 #[.slice a R.length c] W fun e w' => ∃ v, e = .returned v ∧ Hid (Keeps (fun _ => False) W w') :=
  (load_any W a R c (rn_of_row h) (by simp [maxLen]; omega) hb).mono fun e w' hh => by
    rcases hh with ⟨_, t', he, h3⟩ | ⟨_, h1, h2⟩
    · exact ⟨_, he, h3.out.2.1⟩
    · exact ⟨_, h1, h2⟩

theorem cells_new (W : World) (xs : List Value) (t : TypeId) : ∀ j u, xs[j]? = some u → (W.alloc (.cells xs.toArray t)).cell? ((⟨W.heap.size, 0, none⟩ : Addr).add j) = some u := by
  intro j u hj
  rw [addr_add, Nat.zero_add]
  have hb := (MapKept.heap_alloc W (.cells xs.toArray t)).1
  show (match (W.alloc (.cells xs.toArray t)).heap[W.heap.size]? with | some (.cells c _ _) => c[j]? | _ => none) = some u
  rw [hb]
  simpa using hj
/-- The three runs behind the list. -/
def nine : List Value := [.int .i64 71, .int .i64 0, .int .i64 0, .int .i64 72, .int .i64 0, .int .i64 0, .int .i64 73, .int .i64 0, .int .i64 0]
/-- A row, opened. -/
theorem open_row' {W : World} {base : Nat} {e : TypeId} {size : Nat} {v : Value} {n : Nat} {xs : List Value} (h : W.ownsRow base e size v n xs) (h0 : 0 < n) : ∃ gb cap, v = .slice (some ⟨gb, 0, none⟩) n cap ∧ n ≤ cap ∧ cap ≤ 9223372036854775807 ∧ base ≤ gb ∧ gb < W.heap.size ∧ ∀ j u, xs[j]? = some u → W.cell? ⟨gb, j, none⟩ = some u := by
  rcases h.2 with ⟨h1, h2⟩ | ⟨gb, c, cur, h1, hb, hg, hnc, hcm, _⟩
  · omega
  · subst h1
    refine ⟨gb, c, rfl, hnc, Nat.le_trans hcm (by decide), hb, heap_lt hg, fun j u hj => ?_⟩
    have := h.cells (g := gb) rfl j u hj
    rwa [addr_add, Nat.zero_add] at this

set_option maxRecDepth 100000 in
set_option maxHeartbeats 4000000 in
theorem lent_any (w : World) (a : Option Addr) (R : List Rn) (cap : Nat) (hR : Row w (.slice a R.length cap) R.length (rflat R)) (hl : R.length ≤ 512) (hb : ∀ r ∈ R, bdR r) :
    Calls Try.prog 21 #[.slice a R.length cap] w fun e w' => e = .returned (.bool true) ∧ Hid (Keeps (fun _ => False) w w') := by
  obtain ⟨i0, hi, hz0, hz1, hz2⟩ := info_parts info38
  have hrl := rflat_len R
  have hsrc : 0 < R.length → ∃ ad, a = some ad ∧ ∀ j u, (rflat R)[j]? = some u → w.cell? (ad.add j) = some u := fun h0 => by
    obtain ⟨a', c', e, h⟩ := hR
    cases e
    obtain ⟨bb, o, rfl, _, hc⟩ := h h0
    exact ⟨_, rfl, fun j u hu => by rw [addr_add]; exact hc j u hu⟩
  have hrow : ∀ W gb c, (Keeps (fun _ => False) w W ∧ gb < W.heap.size ∧ ∀ j u, ([] ++ rflat R ++ nine)[j]? = some u → W.cell? ⟨gb, j, none⟩ = some u) → Row W (.slice (some ⟨gb, 0, none⟩) R.length c) R.length (rflat R) := fun W gb c ⟨_, h1, h2⟩ => ⟨_, c, rfl, fun _ => ⟨gb, 0, rfl, h1, fun j u hu => by
    rw [Nat.zero_add]
    refine h2 j u ?_
    rw [List.nil_append, List.getElem?_append_left (List.getElem?_eq_some_iff.1 hu).1]
    exact hu⟩⟩
  have hLoad : ∀ W gb c, (Keeps (fun _ => False) w W ∧ gb < W.heap.size ∧ ∀ j u, ([] ++ rflat R ++ nine)[j]? = some u → W.cell? ⟨gb, j, none⟩ = some u) → Calls Try.prog 12 #[.slice (some ⟨gb, 0, none⟩) R.length c] W fun e w' => ∃ v, e = .returned v ∧ Hid (Keeps (fun _ => False) w w' ∧ gb < w'.heap.size ∧ ∀ j u, ([] ++ rflat R ++ nine)[j]? = some u → w'.cell? ⟨gb, j, none⟩ = some u) := fun W gb c h =>
    (load_some W _ R c (hrow W gb c h) (by omega) hb).mono fun e w' ⟨v, h1, h2⟩ => ⟨v, h1, h.1.trans h2.out, Nat.lt_of_lt_of_le h.2.1 h2.out.size, fun j u hj => h2.out.cell (h.2.2 j u hj) id⟩
  have hSame : ∀ W gb c, (Keeps (fun _ => False) w W ∧ gb < W.heap.size ∧ ∀ j u, ([] ++ rflat R ++ nine)[j]? = some u → W.cell? ⟨gb, j, none⟩ = some u) → Calls Try.prog 14 #[.slice (some ⟨gb, 0, none⟩) R.length c, .slice a R.length cap] W fun e w' => e = .returned (.bool true) ∧ Hid (Keeps (fun _ => False) w w') ∧
      w'.cell? ⟨gb, R.length * 3, none⟩ = some (.int .i64 71) ∧ w'.cell? ⟨gb, R.length * 3 + 1, none⟩ = some (.int .i64 0) ∧ w'.cell? ⟨gb, R.length * 3 + 2, none⟩ = some (.int .i64 0) ∧ w'.cell? ⟨gb, (R.length + 1) * 3, none⟩ = some (.int .i64 72) ∧ w'.cell? ⟨gb, (R.length + 1) * 3 + 1, none⟩ = some (.int .i64 0) ∧ w'.cell? ⟨gb, (R.length + 1) * 3 + 2, none⟩ = some (.int .i64 0) ∧ w'.cell? ⟨gb, (R.length + 2) * 3, none⟩ = some (.int .i64 73) ∧ w'.cell? ⟨gb, (R.length + 2) * 3 + 1, none⟩ = some (.int .i64 0) ∧ w'.cell? ⟨gb, (R.length + 2) * 3 + 2, none⟩ = some (.int .i64 0) := fun W gb c h =>
    (sameRuns_any W _ _ R (hrow W gb c h) (hR.keep h.1) (by omega)).mono fun e w' ⟨h1, m, h2⟩ => by
      have hk := h.1.trans (Keeps.drewN (fun _ => False) W m)
      rw [← h2] at hk
      have hc : ∀ k u, nine[k]? = some u → w'.cell? ⟨gb, R.length * 3 + k, none⟩ = some u := fun k u hu => by
        rw [h2]
        refine (Keeps.drewN (fun _ => False) W m).cell (h.2.2 _ u ?_) id
        rw [List.nil_append, List.getElem?_append_right (by omega), hrl, Nat.add_sub_cancel_left]
        exact hu
      exact ⟨h1, hk, hc 0 _ rfl, hc 1 _ rfl, hc 2 _ rfl, by have := hc 3 _ rfl; rwa [show R.length * 3 + 3 = (R.length + 1) * 3 by omega] at this, by have := hc 4 _ rfl; rwa [show R.length * 3 + 4 = (R.length + 1) * 3 + 1 by omega] at this, by have := hc 5 _ rfl; rwa [show R.length * 3 + 5 = (R.length + 1) * 3 + 2 by omega] at this, by have := hc 6 _ rfl; rwa [show R.length * 3 + 6 = (R.length + 2) * 3 by omega] at this, by have := hc 7 _ rfl; rwa [show R.length * 3 + 7 = (R.length + 2) * 3 + 1 by omega] at this, by have := hc 8 _ rfl; rwa [show R.length * 3 + 8 = (R.length + 2) * 3 + 2 by omega] at this⟩
  have q71 := run_eql 71 0 0
  have q72 := run_eql 72 0 0
  have q73 := run_eql 73 0 0
  clear hR hb hrow
  go_enter Try.func21, Try.ntmps21
  go_wp2_with (first
    | (go_at_call 14; refine (hSame w3 gb c2 H3.out).mono ?_; rintro e w4 ⟨rfl, H4, y0, y1, y2, y3, y4, y5, y6, y7, y8⟩)
    | (go_at_call 12; refine (hLoad w2 gb c2 H2.out).mono ?_; rintro e w3 ⟨v3, rfl, H3⟩)
    | (at_builtin; refine wpList_append_own _ rfl _ _ 27 rfl w.heap.size 38 i0 (.agg #[.int .i64 0, .int .i64 0, .int .i64 0]) 3 24 Try.underlying27 hi hz0 hz1 hz2 rfl (by decide) _ _ _ rfl (World.ownsRow.alloc H1.out.2 _) ⟨w1.heap.size, 0, none⟩ 3 3 nine rfl rfl (cells_new w1 nine 38) (by simp [nine, Value.oneCell']) (by simp [maxLen]; omega) (by omega) (by have := H1.out.1.size; simp; omega) ?_; intro v2 w2 hr2 hg2 _; have hk2 := (H1.out.1.trans (Keeps.new w1 _)).step hg2 (fun c hc => .inr (H1.out.2.lt c hc).1); obtain ⟨gb, c2, rfl, hnc, hcm, hgb, hgs, hcc⟩ := open_row' hr2 (by omega); have H2 := Hid.mk' (And.intro hk2 (And.intro hgs hcc)); clear hr2 hg2 hk2 hcc)
    | (at_builtin; refine wpList_append_any (w := w) rfl _ _ 27 rfl w.heap.size 38 i0 (.agg #[.int .i64 0, .int .i64 0, .int .i64 0]) 3 24 Try.underlying27 hi hz0 hz1 hz2 rfl (by decide) _ 0 [] rfl (World.ownsRow_nil _ _ _ _) _ _ _ (rflat R) rfl hrl hsrc (rflat_one _) (by simp [maxLen]; omega) (by omega) (by simp) ?_; intro v1 w1 hr1 hg1; have H1 := Hid.mk' (And.intro (show Keeps (fun _ => False) w w1 from Keeps.of hg1 (by intro k h; cases h)) hr1); clear hr1 hg1))
  go_ret
  exact ⟨rfl, H4⟩

end Go.Proofs.Ytndojlacdggfcab
