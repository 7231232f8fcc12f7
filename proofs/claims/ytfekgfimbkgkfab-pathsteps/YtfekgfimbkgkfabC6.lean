import Derived.Test.YtfekgfimbkgkfabC5
namespace Go.Proofs.Ytfekgfimbkgkfab
open Go.RowKit Go.Maps

theorem lastP_getD (p : List ByteArray) : lastP p = p.getD (p.length - 1) bz := by
  unfold lastP
  rw [List.getLastD_eq_getLast?, List.getLast?_eq_getElem?, List.getD_eq_getElem?_getD]
  rfl

set_option maxHeartbeats 1000000 in
set_option maxRecDepth 100000 in
theorem ends_any (w : World) (v : Value) (p : List ByteArray) (sl : Bool) (h : Row w v p.length (strs p)) (hn : p.length < 8796093022000) :
    Calls Try.prog 27 #[.agg #[v, .bool sl]] w fun e w' => e = .returned (.bool (named p)) ∧ Keeps (fun _ => False) w w' := by
  by_cases h0 : p = []
  · subst h0
    obtain ⟨a, cap, rfl, _⟩ := h
    simp only [List.length_nil]
    go_enter Try.func27, Try.ntmps27
    go_wp2
    go_ret
    exact ⟨rfl, (Keeps.refl _ w).alloc _⟩
  · have h1 : 0 < p.length := List.length_pos_iff.2 h0
    obtain ⟨b, o, cap, rfl, hb, hc⟩ := h.pos h1
    have h1' : ¬ ((p.length : Int) = 0) := by omega
    have c0 := ((Keeps.refl (fun _ => False) w).alloc (.cells #[.slice (some ⟨b, o, none⟩) p.length cap, .bool sl] 25)).cell (hc (p.length - 1) _ (strs_get (by omega))) id
    rw [← lastP_getD] at c0
    have hN : named p = (!isDot (lastP p) && !isUp (lastP p)) := by
      have e : p.isEmpty = false := by cases p with | nil => exact absurd rfl h0 | cons _ _ => rfl
      unfold named; rw [e]; rfl
    rw [hN]
    have hm : ((p.length : Int) - 1) = ((p.length - 1 : Nat) : Int) := by omega
    generalize lastP p = s at c0 ⊢
    clear hc h h0 hN
    rcases Bool.eq_false_or_eq_true (isDot s) with hD | hD
    · rw [hD]
      have hD' : (s.toList == [46]) = true := hD
      clear hD
      go_enter Try.func27, Try.ntmps27
      go_wp2
      all_goals
        go_ret
        exact ⟨ret_bool (by simp_all), (Keeps.refl _ w).alloc _⟩
    · rw [hD]
      have hD' : (s.toList == [46]) = false := hD
      clear hD
      go_enter Try.func27, Try.ntmps27
      go_wp2
      all_goals
        go_ret
        exact ⟨ret_bool (by simp [isUp]), (Keeps.refl _ w).alloc _⟩

theorem rsv_eq (F : Dr) (p : List ByteArray) (sl : Bool) : rsv F p sl = if (wkR F p).2 = 0 then (if (sl && !(wkR F p).1.2) = true then (0, false, 144) else ((wkR F p).1.1, (wkR F p).1.2, 0)) else (0, false, (wkR F p).2) := by
  unfold rsv wkR
  cases h : lead F p with
  | bad e =>
    have := lead_bad h
    rw [if_neg (by simp; omega)]
  | ok a r => rfl

set_option maxHeartbeats 1000000 in
set_option maxRecDepth 100000 in
theorem resolve_any (w : World) (x bm n : Nat) (F : Dr) (hT : TabAt w x bm n F) (hF : wfF F) (v : Value) (p : List ByteArray) (sl : Bool) (h : Row w v p.length (strs p)) (hn : p.length < 8796093022000) (hz : ∀ s ∈ p, s.size ≤ 281474976710656) :
    Calls Try.prog 14 #[.iface 26 (.pointer (some ⟨x, 0, none⟩)), .agg #[v, .bool sl]] w fun e w' => e = .returned (.tuple #[.int .i64 (rsv F p sl).1, .bool (rsv F p sl).2.1, .int .i64 (rsv F p sl).2.2]) ∧ Keeps (fun _ => False) w w' := by
  have hK0 : Keeps (fun _ => False) w (w.alloc (.cells #[v, .bool sl] 25)) := (Keeps.refl _ w).alloc _
  have hB0 := heap_last w (.cells #[v, .bool sl] 25)
  have h28 := walk_any (w.alloc (.cells #[v, .bool sl] 25)) x bm n F (hT.grow hK0) hF v p (h.keep hK0) hn hz
  rw [rsv_eq]
  obtain ⟨a, cap, rfl, _⟩ := h
  clear hT hF hz
  generalize wkR F p = y at h28 ⊢
  obtain ⟨⟨yn, yb⟩, e⟩ := y
  simp only at h28 ⊢
  have HA : ∀ w1, Keeps (fun _ => False) (w.alloc (.cells #[.slice a p.length cap, .bool sl] 25)) w1 → (∀ o, (w1.alloc o).cell? ⟨w.heap.size, 0, none⟩ = some (.slice a p.length cap)) ∧ ∀ o, (w1.alloc o).cell? ⟨w.heap.size, 1, none⟩ = some (.bool sl) := fun w1 hk1 =>
    ⟨fun o => (cells2 ((hk1.alloc o).at hB0 id)).1, fun o => (cells2 ((hk1.alloc o).at hB0 id)).2.1⟩
  have HA : Hid _ := HA
  by_cases h0 : e = 0
  · subst h0
    rw [if_pos rfl]
    cases sl <;> cases yb
    all_goals
      go_enter Try.func14, Try.ntmps14
      go_wp2_with (first
        | (go_at_call 28; refine h28.mono ?_; clear h28; rintro e w1 ⟨rfl, hk1⟩
           obtain ⟨c0, c1⟩ := HA.out w1 hk1
           have HK : Hid (∀ o, Keeps (fun _ => False) w (w1.alloc o)) := fun o => (hK0.trans hk1).alloc o
           clear hk1))
      first
      | (go_ret3
         exact ⟨rfl, HK.out _⟩)
      | (go_region
         all_goals
           go_wp2
           go_ret3
           exact ⟨rfl, (HK.out _).trans (Keeps.drewN _ _ 1)⟩)
  · rw [if_neg h0]
    have h0' : ¬ e = 0 := h0
    go_enter Try.func14, Try.ntmps14
    go_wp2_with (first
      | (go_at_call 28; refine h28.mono ?_; clear h28; rintro e w1 ⟨rfl, hk1⟩
         have HK : Hid (∀ o, Keeps (fun _ => False) w (w1.alloc o)) := fun o => (hK0.trans hk1).alloc o
         clear hk1))
    go_ret3
    exact ⟨rfl, HK.out _⟩
end Go.Proofs.Ytfekgfimbkgkfab
