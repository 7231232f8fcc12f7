import Derived.Test.YtnafocbgapianabW6
import Derived.Test.YtnafocbgapianabB2
namespace Go.Proofs.Ytnafocbgapianab
open Go.RowKit

/-! The document's own pool (furrowref05): a mark a page. -/

structure RpAt (w : World) (e : Nat) (v : Value) (s : Sh) (S : Nat → Bool) : Prop where
  at_ : w.heap[e]? = some (.cells #[.int .i64 s.pages, .int .i64 s.inodes, .int .i64 s.cores, .int .i64 s.data, v] 119 (0, 0))
  row : w.ownsRow 0 4 1 v s.pages (boolCells S s.pages)
  good : s.Good
  sup : ∀ i, S i = true → s.data ≤ i ∧ i < s.pages

section
variable {X : Nat → Prop} {w w' : World} {e : Nat} {v : Value} {s : Sh} {S : Nat → Bool}

theorem RpAt.kept (h : RpAt w e v s S) (k : Keeps X w w') (h1 : ¬ X e) (h2 : ∀ g, v.ownBlock = some g → ¬ X g) : RpAt w' e v s S := ⟨k.at h.at_ h1, own_kept' h.row k h2, h.good, h.sup⟩
theorem RpAt.grown (h : RpAt w e v s S) (k : Keeps (fun j => w.heap.size ≤ j) w w') : RpAt w' e v s S := h.kept k (by have := heap_lt h.at_; omega) (fun g hg => by have := (h.row.lt g hg).2; omega)
theorem RpAt.drewN (h : RpAt w e v s S) (m : Nat) : RpAt (w.drewN m) e v s S := h.grown (Keeps.drewN _ _ _)
theorem RpAt.cells (h : RpAt w e v s S) : w.cell? ⟨e, 0, none⟩ = some (.int .i64 s.pages) ∧ w.cell? ⟨e, 1, none⟩ = some (.int .i64 s.inodes) ∧ w.cell? ⟨e, 2, none⟩ = some (.int .i64 s.cores) ∧ w.cell? ⟨e, 3, none⟩ = some (.int .i64 s.data) ∧ w.cell? ⟨e, 4, none⟩ = some v := by
  simp [World.cell?, h.at_]
theorem RpAt.form (h : RpAt w e v s S) : ∃ g cap, v = .slice (some ⟨g, 0, none⟩) s.pages cap ∧ g < w.heap.size ∧ (∀ i, i < s.pages → w.cell? ⟨g, i, none⟩ = some (.bool (S i))) ∧ (∀ i, w.frozen? ⟨g, i, none⟩ = false) ∧ g ≠ e := by
  have hn : 0 < s.pages := by have := h.good.1; omega
  obtain ⟨g, cap, hv, _, hg⟩ := h.row.form hn
  have hr := h.row
  rw [hv] at hr
  refine ⟨g, cap, hv, hg, fun i hi => ?_, fun i => hr.frozenAt i, ?_⟩
  · rw [hr.cellAt i (by omega)]; exact boolCells_get S _ i hi
  · rintro rfl
    rcases hr.2 with ⟨h0, _⟩ | ⟨g', c', cur, hv', _, hh, _⟩
    · cases h0
    · cases hv'
      rw [h.at_] at hh
      cases hh
theorem RpAt.turn {g cap : Nat} (h : RpAt w e (.slice (some ⟨g, 0, none⟩) s.pages cap) s S) (i : Nat) (b : Bool) (hne : g ≠ e) (hs : ∀ j, upd S i b j = true → s.data ≤ j ∧ j < s.pages) : RpAt (w.setCell ⟨g, i, none⟩ (.bool b)) e (.slice (some ⟨g, 0, none⟩) s.pages cap) s (upd S i b) ∧ Keeps (fun j => j = g) w (w.setCell ⟨g, i, none⟩ (.bool b)) := by
  have kp : Keeps (fun j => j = g) w (w.setCell ⟨g, i, none⟩ (.bool b)) := Keeps.of (grownBy_setCell w ⟨g, i, none⟩ _) (by rintro j hj; cases hj; exact Or.inl rfl)
  have hr := (h.row.stored i (.bool b)).1
  rw [boolCells_setL] at hr
  exact ⟨⟨kp.at h.at_ (Ne.symm hne), hr, h.good, hs⟩, kp⟩
end

set_option maxHeartbeats 1000000 in
theorem rin_any (w : World) (e : Nat) (v : Value) (s : Sh) (S : Nat → Bool) (h : RpAt w e v s S) (i : Int) :
    Calls Try.prog 76 #[.pointer (some ⟨e, 0, none⟩), .int .i64 i] w fun r w' => r = .returned (.bool (inD s i)) ∧ w' = w := by
  obtain ⟨c0, _, _, c3, _⟩ := h.cells
  by_cases h1 : (s.data : Int) ≤ i
  · have e1 : inD s i = decide (i < (s.pages : Int)) := by simp [inD, h1]
    rw [e1]
    clear h e1
    go_enter Try.func76, Try.ntmps76
    go_wp2
    go_ret
    exact ⟨ret_bool (by simp), rfl⟩
  · have e1 : inD s i = false := by simp [inD, h1]
    rw [e1]
    clear h e1
    go_enter Try.func76, Try.ntmps76
    go_wp2
    go_ret
    exact ⟨ret_bool (by simp), rfl⟩

theorem hasI_inD {s : Sh} {S : Nat → Bool} (h : ∀ i, S i = true → s.data ≤ i ∧ i < s.pages) (i : Int) (hi : inD s i = false) : hasI s.pages S i = false := by
  by_cases h0 : 0 ≤ i ∧ i < s.pages
  · obtain ⟨k, rfl⟩ := Int.eq_ofNat_of_zero_le h0.1
    rw [hasI_in (by omega)]
    cases hk : S k with
    | false => rfl
    | true =>
      have := h k hk
      rw [inD_iff.2 (by omega)] at hi
      cases hi
  · exact hasI_out h0

set_option maxHeartbeats 1000000 in
theorem rphas_any (w : World) (e : Nat) (v : Value) (s : Sh) (S : Nat → Bool) (h : RpAt w e v s S) (i : Int) :
    Calls Try.prog 77 #[.pointer (some ⟨e, 0, none⟩), .int .i64 i] w fun r w' => r = .returned (.bool (hasI s.pages S i)) ∧ w' = w := by
  obtain ⟨_, _, _, _, c4⟩ := h.cells
  have hin := rin_any w e v s S h i
  cases hi : inD s i with
  | false =>
    rw [hasI_inD h.sup i hi]
    rw [hi] at hin
    clear h hi
    go_enter Try.func77, Try.ntmps77
    go_wp2_with (first | (go_at_call 76; refine hin.mono ?_; clear hin; rintro r w1 ⟨rfl, hw⟩; subst w1))
    go_ret
    exact ⟨ret_bool (by simp), rfl⟩
  | true =>
    rw [hi] at hin
    have hb := inD_iff.1 hi
    obtain ⟨k, rfl⟩ := Int.eq_ofNat_of_zero_le (show 0 ≤ i by omega)
    rw [hasI_in (by omega)]
    obtain ⟨g, cap, rfl, hg, hc, _, _⟩ := h.form
    have hx := hc k (by omega)
    have h0 : (0 : Int) ≤ (k : Int) := by omega
    have h1 : (k : Int) < (s.pages : Int) := by omega
    clear h hc hi hb
    generalize S k = x at *
    go_enter Try.func77, Try.ntmps77
    go_wp2_with (first | (go_at_call 76; refine hin.mono ?_; clear hin; rintro r w1 ⟨rfl, hw⟩; subst w1))
    go_ret
    exact ⟨ret_bool (by simp), rfl⟩

set_option maxHeartbeats 2000000 in
theorem rborder_any (w : World) (e : Nat) (v : Value) (s : Sh) (S : Nat → Bool) (h : RpAt w e v s S) (c : Nat) (hc : c ≤ 9) :
    Calls Try.prog 83 #[.pointer (some ⟨e, 0, none⟩), .int .i64 c] w fun r w' => r = .returned (.int .i64 (bord s c)) ∧ ∃ m, w' = w.drewN m := by
  obtain ⟨c0, _, c1, c2, _⟩ := h.cells
  have hg := h.good
  obtain ⟨h1, h2, h3, h4, h5, h6, h7, h8, h9⟩ := hg
  have hsub : (s.pages : Int) - (s.data : Int) = ((s.pages - s.data : Nat) : Int) := by omega
  have hle : c * (s.pages - s.data) ≤ 9 * 1024 := Nat.mul_le_mul hc (by omega)
  have hmul : (c : Int) * ((s.pages - s.data : Nat) : Int) = ((c * (s.pages - s.data) : Nat) : Int) := by push_cast; rfl
  have hdiv : (((c * (s.pages - s.data) : Nat) : Int)).tdiv (s.cores : Int) = ((c * (s.pages - s.data) / s.cores : Nat) : Int) := by
    rw [Int.tdiv_eq_ediv_of_nonneg (by omega)]; rfl
  have hdl : c * (s.pages - s.data) / s.cores ≤ 9 * 1024 := Nat.le_trans (Nat.div_le_self _ _) hle
  have hB : bord s c = s.data + c * (s.pages - s.data) / s.cores := rfl
  generalize bord s c = B at *
  generalize hX : c * (s.pages - s.data) / s.cores = X at *
  generalize hM : c * (s.pages - s.data) = M at *
  generalize hD : s.pages - s.data = D at *
  have hw1 : IntKind.i64.wrap ((s.pages : Int) - (s.data : Int)) = (D : Int) := by rw [hsub]; exact i64_id (by omega) (by omega)
  have hw2 : IntKind.i64.wrap ((c : Int) * (D : Int)) = (M : Int) := by rw [hmul]; exact i64_id (by omega) (by omega)
  have hw3 : IntKind.i64.wrap (X : Int) = (X : Int) := i64_id (by omega) (by omega)
  have hw4 : IntKind.i64.wrap ((s.data : Int) + (X : Int)) = (B : Int) := by rw [hB]; exact i64_id (by omega) (by omega)
  have hw5 : ¬ (s.cores : Int) = 0 := by omega
  have hw6 : ¬ s.cores = 0 := by omega
  have HF : Hid (wrap64 ((s.data : Int) + wrap64 ((wrap64 (M : Int)).tdiv (s.cores : Int))) = (B : Int)) := by
    show _ = _
    rw [wrap64_id (x := (M : Int)) (by omega) (by omega), hdiv, wrap64_id (x := (X : Int)) (by omega) (by omega), wrap64_id (by omega) (by omega), hB]
    omega
  clear hX hM hD hB h3 h4 h5 h8 h9 hle hdl h
  go_enter Try.func83, Try.ntmps83
  go_wp2
  go_quiet (fail)
  go_wp2
  go_ret
  exact ⟨ret_int HF.out, nq, rfl⟩

set_option maxHeartbeats 2000000 in
theorem rarea_no (w : World) (e : Nat) (v : Value) (s : Sh) (S : Nat → Bool) (h : RpAt w e v s S) (c : Int) (hc : ¬ (0 ≤ c ∧ c < s.cores)) :
    Calls Try.prog 74 #[.pointer (some ⟨e, 0, none⟩), .int .i64 c] w fun r w' => r = .returned (.agg #[.int .i64 0, .int .i64 0]) ∧ Keeps (fun k => w.heap.size ≤ k) w w' := by
  have g0 : Keeps (fun k => w.heap.size ≤ k) w (w.alloc (.cells #[.int .i64 0, .int .i64 0] 46)) := Keeps.of (World.grownBy_alloc w _ none) (by simp)
  obtain ⟨_, _, c2, _, _⟩ := (h.grown g0).cells
  obtain ⟨_, _, d2, _, _⟩ := h.cells
  by_cases h0 : c < 0
  · clear h
    go_enter Try.func74, Try.ntmps74
    go_wp2
    refine bodyPost_ret (v := .agg #[.int .i64 0, .int .i64 0]) (by simp [results, Try.results74, go_sem]) rfl ?_
    first | exact ⟨rfl, g0⟩ | exact ⟨rfl, Keeps.refl _ _⟩
  · have h1 : (s.cores : Int) ≤ c := by omega
    clear h
    go_enter Try.func74, Try.ntmps74
    go_wp2
    refine bodyPost_ret (v := .agg #[.int .i64 0, .int .i64 0]) (by simp [results, Try.results74, go_sem]) rfl ?_
    first | exact ⟨rfl, g0⟩ | exact ⟨rfl, Keeps.refl _ _⟩

end Go.Proofs.Ytnafocbgapianab
