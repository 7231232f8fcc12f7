import Derived.Test.YtnafocbgapianaaN1
import Derived.Test.YtnafocbgapianaaF1
namespace Go.Proofs.Ytnafocbgapianaa
open Go.RowKit

theorem ins_one (q lo hi : Nat) : ins [q] lo hi = if lo ≤ q ∧ q < hi then 1 else 0 := by
  unfold ins
  by_cases h : lo ≤ q ∧ q < hi
  · rw [if_pos h]; simp [h]
  · rw [if_neg h]
    have : (decide (lo ≤ q) && decide (q < hi)) = false := by rw [← Bool.decide_and]; exact decide_eq_false h
    simp [this]
theorem ins_next (Q : List Nat) (f j lo hi : Nat) : ins (Q ++ List.range' f (j + 1)) lo hi = ins (Q ++ List.range' f j) lo hi + if lo ≤ f + j ∧ f + j < hi then 1 else 0 := by
  rw [range_snoc, ← List.append_assoc, ins_app, ins_one]

set_option maxHeartbeats 4000000 in
set_option maxRecDepth 20000 in
theorem inside_any (w : World) (p : Option Addr) (cap : Nat) (l : List (Nat × Nat)) (h : SpIn w p (castL l)) (hl : l.length ≤ 1024) (hb : ∀ s ∈ l, s.1 + s.2 ≤ 1024) (hp : (pagesOf l).length ≤ 100000) (lo C : Nat) (hC : lo + C ≤ 1024) :
    Calls Try.prog 27 #[.slice p l.length cap, .agg #[.int .i64 lo, .int .i64 C]] w fun e w' => e = .returned (.int .i64 (ins (pagesOf l) lo (lo + C) : Nat)) ∧ Keeps (fun k => w.heap.size ≤ k) w w' := by
  have HP := Hid.mk' h
  have HBD := Hid.mk' hb
  have g0 : Keeps (fun k => w.heap.size ≤ k) w (w.alloc (.cells #[.int .i64 lo, .int .i64 C] 31)) := Keeps.of (World.grownBy_alloc w _ none) (by simp)
  have hR := (MapKept.heap_alloc w (.cells #[.int .i64 lo, .int .i64 C] 31)).1
  obtain ⟨w1, hw1⟩ : ∃ w1, w1 = w.alloc (.cells #[.int .i64 lo, .int .i64 C] 31) := ⟨_, rfl⟩
  go_enter Try.func27, Try.ntmps27
  go_wp2
  rw [← hw1] at g0 hR ⊢
  have HK := Hid.mk' g0
  obtain ⟨a0, a1, af⟩ := cells2 hR
  clear h hb g0 hR hw1 af
  go_loopw [5, 6] (fun nv iv wr => ∃ i m : Nat, i ≤ l.length ∧ nv = .int .i64 (ins (pagesOf (l.take i)) lo (lo + C) : Nat) ∧ iv = .int .i64 i ∧ wr = w1.drewN m) (fun _ iv _ => l.length - (intOf iv).toNat)
  case atStart => exact ⟨0, 0, by omega, rfl, rfl, rfl⟩
  case round =>
    obtain ⟨i, m, hi, rfl, rfl, rfl⟩ := hrel
    by_cases hlt : i < l.length
    · have hlt' : (i : Int) < (l.length : Int) := by omega
      have hi0 : (0 : Int) ≤ (i : Int) := by omega
      obtain ⟨b, o, rfl, hbl, hc⟩ := HP.out (by rw [castL_len]; omega)
      obtain ⟨e1, e2⟩ := hc i (by rw [castL_len]; exact hlt)
      rw [castL_get] at e1 e2
      have hbd := HBD.out _ (getD_mem (d := (0, 0)) hlt)
      have HNX := Hid.mk' (pagesOf_take l i hlt)
      have hlen := pagesOf_len_take l i hlt
      have hle := pagesOf_len_le l (i + 1)
      generalize l.getD i (0, 0) = s at *
      obtain ⟨f, c⟩ := s
      simp only at e1 e2 hbd HNX hlen
      rw [hlen] at hle
      generalize pagesOf (l.take i) = Q at *
      have e1' := HK.out.cell e1 (by simp; omega)
      have e2' := HK.out.cell e2 (by simp; omega)
      have hsum : IntKind.i64.wrap ((f : Int) + (c : Int)) = (f : Int) + (c : Int) := i64_id (by omega) (by omega)
      have hsum2 : IntKind.i64.wrap ((lo : Int) + (C : Int)) = (lo : Int) + (C : Int) := i64_id (by omega) (by omega)
      clear hc e1 e2 hlen
      go_wp2
      go_loopw [5, 7] (fun nv kv wr => ∃ j m : Nat, j ≤ c ∧ nv = .int .i64 (ins (Q ++ List.range' f j) lo (lo + C) : Nat) ∧ kv = .int .i64 ((f + j : Nat) : Int) ∧ wr = w1.drewN m) (fun _ kv _ => f + c - (intOf kv).toNat)
      case atStart => exact ⟨0, m, by omega, by simp, by simp, rfl⟩
      case round =>
        obtain ⟨j, m, hj, rfl, rfl, rfl⟩ := hrel
        rw [Int.natCast_add]
        have HIN := Hid.mk' (ins_next Q f j lo (lo + C))
        have hin := ins_le (Q ++ List.range' f j) lo (lo + C)
        rw [List.length_append, List.length_range'] at hin
        by_cases hlj : j < c
        · have hlj' : (f : Int) + (j : Int) < (f : Int) + (c : Int) := by omega
          generalize ins (Q ++ List.range' f j) lo (lo + C) = q at *
          by_cases h1 : lo ≤ f + j
          · have h1' : (lo : Int) ≤ (f : Int) + (j : Int) := by omega
            by_cases h2 : f + j < lo + C
            · have h2' : (f : Int) + (j : Int) < (lo : Int) + (C : Int) := by omega
              rw [if_pos ⟨h1, h2⟩] at HIN
              clear h1 h2
              go_wp2
              go_quiet (fail)
              go_wp2
              go_roundw
              case rel => exact ⟨j + 1, m + nq, by omega, by rw [HIN.out]; go_num, by go_num, by simp⟩
              case measure => simp [intOf]; omega
            · have h2' : ¬ (f : Int) + (j : Int) < (lo : Int) + (C : Int) := by omega
              rw [if_neg (by omega)] at HIN
              clear h1 h2
              go_wp2
              go_quiet (fail)
              go_wp2
              go_roundw
              case rel => exact ⟨j + 1, m + nq, by omega, by rw [HIN.out]; go_num, by go_num, by simp⟩
              case measure => simp [intOf]; omega
          · have h1' : ¬ (lo : Int) ≤ (f : Int) + (j : Int) := by omega
            rw [if_neg (by omega)] at HIN
            clear h1
            go_wp2
            go_quiet (fail)
            go_wp2
            go_roundw
            case rel => exact ⟨j + 1, m + nq, by omega, by rw [HIN.out]; go_num, by go_num, by simp⟩
            case measure => simp [intOf]; omega
        · have hlj' : ¬ (f : Int) + (j : Int) < (f : Int) + (c : Int) := by omega
          have HJ := Hid.mk' (show j = c by omega)
          clear hin HIN
          go_wp2
          go_quiet (fail)
          go_wp2
          go_roundw
          case rel => exact ⟨i + 1, m + nq, by omega, by rw [HNX.out, HJ.out], by go_num, by simp⟩
          case measure => simp [intOf]; omega
    · have hlt' : ¬ (i : Int) < (l.length : Int) := by omega
      have HI := Hid.mk' (show i = l.length by omega)
      go_wp2
      go_ret
      refine ⟨ret_int ?_, HK.out.trans (Keeps.drewN _ _ _)⟩
      rw [HI.out, List.take_length]

theorem pagesOf_cons (s : Nat × Nat) (l : List (Nat × Nat)) : pagesOf (s :: l) = List.range' s.1 s.2 ++ pagesOf l := by simp [pagesOf]

set_option maxHeartbeats 2000000 in
theorem pageAt_any (w : World) (p : Option Addr) (cap : Nat) (l : List (Nat × Nat)) (h : SpIn w p (castL l)) (hl : l.length ≤ 1024) (hb : ∀ s ∈ l, s.1 + s.2 ≤ 1024) (i q : Nat) (hi : i ≤ 100000) (hq : (pagesOf l)[i]? = some q) :
    Calls Try.prog 28 #[.slice p l.length cap, .int .i64 i] w fun e w' => e = .returned (.int .i64 q) ∧ w' = w := by
  have HP := Hid.mk' h
  have HBD := Hid.mk' hb
  have HQ := Hid.mk' hq
  clear h hb hq
  go_enter Try.func28, Try.ntmps28
  go_wp2
  go_loop [1, 5] (fun xv kv => ∃ x k : Nat, k ≤ l.length ∧ x ≤ i ∧ xv = .int .i64 x ∧ kv = .int .i64 k ∧ Hid ((pagesOf (l.drop k))[x]? = some q)) (fun _ kv => l.length - (intOf kv).toNat)
  case atStart => exact ⟨i, 0, by omega, by omega, rfl, rfl, HQ.out⟩
  case round =>
    obtain ⟨x, k, hk, hx, rfl, rfl, hrel⟩ := hrel
    have hlt : k < l.length := by
      rcases Nat.lt_or_ge k l.length with h | h
      · exact h
      · have := hrel.out
        rw [List.drop_eq_nil_of_le h] at this
        simp [pagesOf] at this
    have hlt' : (k : Int) < (l.length : Int) := by omega
    have hk0 : (0 : Int) ≤ (k : Int) := by omega
    obtain ⟨b, o, rfl, hbl, hc⟩ := HP.out (by rw [castL_len]; omega)
    obtain ⟨e1, e2⟩ := hc k (by rw [castL_len]; exact hlt)
    rw [castL_get] at e1 e2
    have hbd := HBD.out _ (getD_mem (d := (0, 0)) hlt)
    have hdr := hrel.out
    rw [drop_getD (0, 0) hlt, pagesOf_cons] at hdr
    generalize l.getD k (0, 0) = s at *
    obtain ⟨f, c⟩ := s
    simp only at e1 e2 hbd hdr
    clear hc hrel
    by_cases hxc : x < c
    · have hxc' : (x : Int) < (c : Int) := by omega
      rw [List.getElem?_append_left (by simpa using hxc), List.getElem?_range' hxc] at hdr
      have HV : Hid (f + x = q) := by show _ = _; simpa using hdr
      have hsum : IntKind.i64.wrap ((f : Int) + (x : Int)) = (f : Int) + (x : Int) := i64_id (by omega) (by omega)
      clear hdr
      go_wp2
      go_ret
      exact ⟨ret_int (by rw [← HV.out]; push_cast; rfl), rfl⟩
    · have hxc' : ¬ (x : Int) < (c : Int) := by omega
      rw [List.getElem?_append_right (by simp; omega), List.length_range'] at hdr
      have HV := Hid.mk' hdr
      have hsum : IntKind.i64.wrap ((x : Int) - (c : Int)) = (x : Int) - (c : Int) := i64_id (by omega) (by omega)
      clear hdr
      go_wp2
      go_round
      case rel => exact ⟨x - c, k + 1, by omega, by omega, by go_num, by go_num, HV.out⟩
      case measure => simp [intOf]; omega

end Go.Proofs.Ytnafocbgapianaa
