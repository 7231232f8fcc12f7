import Derived.Test.YtnafocbgapianabZ1
namespace Go.Proofs.Ytnafocbgapianab
open Go.RowKit

set_option maxHeartbeats 2000000 in
theorem rarea_yes (w : World) (e : Nat) (v : Value) (s : Sh) (S : Nat → Bool) (h : RpAt w e v s S) (c : Nat) (hc : c < s.cores) :
    Calls Try.prog 74 #[.pointer (some ⟨e, 0, none⟩), .int .i64 c] w fun r w' => r = .returned (.agg #[.int .i64 (bord s c), .int .i64 ((bord s (c + 1) - bord s c : Nat) : Int)]) ∧ Keeps (fun k => w.heap.size ≤ k) w w' := by
  have g0 : Keeps (fun k => w.heap.size ≤ k) w (w.alloc (.cells #[.int .i64 0, .int .i64 0] 46)) := Keeps.of (World.grownBy_alloc w _ none) (by simp)
  have hR := (MapKept.heap_alloc w (.cells #[.int .i64 0, .int .i64 0] 46)).1
  have h1 := h.grown g0
  have hg := h.good
  obtain ⟨_, _, c2, _, _⟩ := h1.cells
  have h8 : s.cores ≤ 8 := hg.2.2.2.2.2.2.1
  have hb := rborder_any _ e v s S h1 c (by omega)
  have hb2 := fun m => rborder_any _ e v s S (h1.drewN m) (c + 1) (by omega)
  rw [Int.natCast_add] at hb2
  have hlt := bord_lt hg c
  have hle := bord_le hg (show c + 1 ≤ s.cores by omega)
  have hpg : s.pages ≤ 1024 := hg.2.1
  have hc0 : ¬ (c : Int) < 0 := by omega
  have hc1 : ¬ (s.cores : Int) ≤ (c : Int) := by omega
  generalize bord s (c + 1) = y at *
  generalize bord s c = x at *
  obtain ⟨e0, e1, ef⟩ := cells2 hR
  have hyx : IntKind.i64.wrap ((y : Int) - (x : Int)) = ((y - x : Nat) : Int) := by rw [i64_id (by omega) (by omega)]; omega
  have hyx2 : ((y : Int) - (x : Int)) = ((y - x : Nat) : Int) := by omega
  clear h h1
  go_enter Try.func74, Try.ntmps74
  go_wp2_with (first
    | (go_at_call 83; refine hb.mono ?_; clear hb; rintro r w1 ⟨rfl, m, hw⟩; subst w1)
    | (go_at_call 83; refine (hb2 _).mono ?_; clear hb2; rintro r w1 ⟨rfl, m2, hw⟩; subst w1))
  refine bodyPost_ret (v := .agg #[.int .i64 x, .int .i64 ((y - x : Nat) : Int)]) (by simp [results, Try.results74, go_sem]) rfl ?_
  refine ⟨rfl, ?_⟩
  exact (g0.trans (Keeps.drewN _ _ (m + m2))).then (set2 (w := (w.alloc (.cells #[.int .i64 0, .int .i64 0] 46)).drewN (m + m2)) hR (.int .i64 x) (.int .i64 ((y - x : Nat) : Int))).2 (by intro k hk; right; omega)

theorem rarea_any (w : World) (e : Nat) (v : Value) (s : Sh) (S : Nat → Bool) (h : RpAt w e v s S) (c : Int) :
    Calls Try.prog 74 #[.pointer (some ⟨e, 0, none⟩), .int .i64 c] w fun r w' => r = .returned (.agg #[.int .i64 (areaF s c), .int .i64 (areaC s c)]) ∧ Keeps (fun k => w.heap.size ≤ k) w w' := by
  by_cases hc : 0 ≤ c ∧ c < s.cores
  · obtain ⟨k, rfl⟩ := Int.eq_ofNat_of_zero_le hc.1
    rw [(area_in (show k < s.cores by omega)).1, (area_in (show k < s.cores by omega)).2]
    exact rarea_yes w e v s S h k (by omega)
  · rw [(area_out hc).1, (area_out hc).2]
    exact rarea_no w e v s S h c hc

set_option maxHeartbeats 1000000 in
theorem rfree_any (w : World) (e : Nat) (v : Value) (s : Sh) (S : Nat → Bool) (h : RpAt w e v s S) :
    Calls Try.prog 73 #[.pointer (some ⟨e, 0, none⟩)] w fun r w' => r = .returned (.int .i64 (cn S s.pages)) ∧ w' = w := by
  have hf := h.cells.2.2.2.2
  have hle : s.pages ≤ 1024 := h.good.2.1
  obtain ⟨g, cap, rfl, hg, hc, _, _⟩ := h.form
  have HC := Hid.mk' hc
  clear h hc
  generalize s.pages = n at *
  go_enter Try.func73, Try.ntmps73
  go_wp2
  go_loop [3, 4] (fun nv iv => ∃ k : Nat, k ≤ n ∧ nv = .int .i64 (cn S k) ∧ iv = .int .i64 k) (fun _ iv => n - (intOf iv).toNat)
  case atStart => exact ⟨0, by omega, rfl, rfl⟩
  case round =>
    obtain ⟨k, hk, rfl, rfl⟩ := hrel
    by_cases hlt : k < n
    · have hlt' : (k : Int) < (n : Int) := by omega
      have hk0 : (0 : Int) ≤ (k : Int) := by omega
      have hb := HC.out k hlt
      have HS := Hid.mk' (cn_succ S k)
      have hcl := cn_le S k
      generalize cn S k = q at *
      cases hSk : S k with
      | true =>
        rw [hSk] at hb HS
        clear hSk
        go_wp2
        go_round
        case rel => exact ⟨k + 1, by omega, by rw [HS.out]; go_num, by go_num⟩
        case measure => simp [intOf]; omega
      | false =>
        rw [hSk] at hb HS
        clear hSk
        go_wp2
        go_round
        case rel => exact ⟨k + 1, by omega, by rw [HS.out]; go_num, by go_num⟩
        case measure => simp [intOf]; omega
    · have hlt' : ¬ (k : Int) < (n : Int) := by omega
      have HK := Hid.mk' (show k = n by omega)
      go_wp2
      go_ret
      exact ⟨ret_int (by rw [HK.out]), rfl⟩

set_option maxHeartbeats 1000000 in
theorem rpspans_any (w : World) (e : Nat) (v : Value) (s : Sh) (S : Nat → Bool) (h : RpAt w e v s S) :
    Calls Try.prog 79 #[.pointer (some ⟨e, 0, none⟩)] w fun r w' => ∃ x, r = .returned x ∧ SpAt w' w.heap.size x (sp S 0 s.pages) ∧ Keeps (fun k => w.heap.size ≤ k) w w' := by
  have hf := h.cells.2.2.2.2
  obtain ⟨p, cap, rfl, hb⟩ := boolIn_row h.row
  have hsp := rspans_any w p cap s.pages S hb h.good.2.1
  clear h hb
  go_enter Try.func79, Try.ntmps79
  go_wp2_with (first
    | (go_at_call 70; refine hsp.mono ?_; clear hsp; rintro r w7 ⟨x7, rfl, hx⟩; have HX := Hid.mk' hx; clear hx))
  go_ret
  exact ⟨_, rfl, HX.out⟩

end Go.Proofs.Ytnafocbgapianab
