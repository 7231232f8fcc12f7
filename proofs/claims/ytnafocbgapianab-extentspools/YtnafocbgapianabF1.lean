import Derived.Test.YtnafocbgapianabB7
import Derived.Test.YtnafocbgapianabD1
namespace Go.Proofs.Ytnafocbgapianab
open Go.RowKit

theorem pagesOf_len_take (l : List (Nat × Nat)) (i : Nat) (hi : i < l.length) : (pagesOf (l.take (i + 1))).length = (pagesOf (l.take i)).length + (l.getD i (0, 0)).2 := by
  rw [pagesOf_take l i hi, List.length_append, List.length_range']
theorem pagesOf_len_le (l : List (Nat × Nat)) (i : Nat) : (pagesOf (l.take i)).length ≤ (pagesOf l).length := by
  conv => rhs; rw [← List.take_append_drop i l, pagesOf_app, List.length_append]
  omega

set_option maxHeartbeats 2000000 in
theorem count_spans (w : World) (p : Option Addr) (cap : Nat) (l : List (Nat × Nat)) (h : SpIn w p (castL l)) (hl : l.length ≤ 1024) (hb : ∀ s ∈ l, 1 ≤ s.2 ∧ s.1 + s.2 ≤ 1024) (hp : (pagesOf l).length ≤ 100000) :
    Calls Try.prog 15 #[.slice p l.length cap] w fun e w' => e = .returned (.int .i64 ((pagesOf l).length : Nat)) ∧ w' = w := by
  have HP := Hid.mk' h
  have HBD := Hid.mk' hb
  clear h hb
  go_enter Try.func15, Try.ntmps15
  go_wp2
  go_loop [3, 4] (fun nv iv => ∃ i : Nat, i ≤ l.length ∧ nv = .int .i64 ((pagesOf (l.take i)).length : Nat) ∧ iv = .int .i64 i) (fun _ iv => l.length - (intOf iv).toNat)
  case atStart => exact ⟨0, by omega, rfl, rfl⟩
  case round =>
    obtain ⟨i, hi, rfl, rfl⟩ := hrel
    by_cases hlt : i < l.length
    · have hlt' : (i : Int) < (l.length : Int) := by omega
      have hi0 : (0 : Int) ≤ (i : Int) := by omega
      obtain ⟨b, o, rfl, hbl, hc⟩ := HP.out (by rw [castL_len]; omega)
      obtain ⟨e1, e2⟩ := hc i (by rw [castL_len]; exact hlt)
      rw [castL_get] at e1 e2
      have hbd := HBD.out _ (getD_mem (d := (0, 0)) hlt)
      have HNX := Hid.mk' (pagesOf_len_take l i hlt)
      have hle := pagesOf_len_le l i
      generalize l.getD i (0, 0) = s at *
      obtain ⟨f, c⟩ := s
      simp only at e1 e2 hbd HNX
      generalize (pagesOf (l.take i)).length = q at *
      have n1 : ¬ (c : Int) < 1 := by omega
      have n2 : ¬ (1024 : Int) < (c : Int) := by omega
      have n3 : ¬ (f : Int) < 0 := by omega
      have n4 : ¬ (1024 : Int) < (f : Int) := by omega
      have n5 : ¬ (1024 : Int) < (l.length : Int) := by omega
      have hsum : IntKind.i64.wrap ((q : Int) + (c : Int)) = (q : Int) + (c : Int) := i64_id (by omega) (by omega)
      clear hc
      go_wp2
      go_round
      case rel => exact ⟨i + 1, by omega, by rw [HNX.out]; go_num, by go_num⟩
      case measure => simp [intOf]; omega
    · have hlt' : ¬ (i : Int) < (l.length : Int) := by omega
      have HI := Hid.mk' (show i = l.length by omega)
      go_wp2
      go_ret
      refine ⟨ret_int ?_, rfl⟩
      rw [HI.out, List.take_length]

set_option maxHeartbeats 4000000 in
set_option maxRecDepth 20000 in
theorem pagesOf_any (w : World) (p : Option Addr) (cap : Nat) (l : List (Nat × Nat)) (h : SpIn w p (castL l)) (hl : l.length ≤ 1024) (hb : ∀ s ∈ l, s.1 + s.2 ≤ 1024) (hp : (pagesOf l).length ≤ 100000) :
    Calls Try.prog 22 #[.slice p l.length cap] w fun e w' => ∃ v, e = .returned v ∧ NumAt w' w.heap.size v (pagesOf l) ∧ Keeps (fun k => w.heap.size ≤ k) w w' := by
  obtain ⟨i0, hi0, hz0, hz1, hz2⟩ := info_parts info3
  have HP := Hid.mk' h
  have HBD := Hid.mk' hb
  clear h hb
  go_enter Try.func22, Try.ntmps22
  go_wp2
  go_loopw [3, 4] (fun v iv wr => ∃ i : Nat, i ≤ l.length ∧ iv = .int .i64 i ∧ wr.ownsRow w.heap.size 3 1 v (pagesOf (l.take i)).length (intCells (pagesOf (l.take i))) ∧ Hid (Keeps (fun k => w.heap.size ≤ k) w wr)) (fun _ iv _ => l.length - (intOf iv).toNat)
  case atStart => exact ⟨0, by omega, rfl, NumAt.nil _ _, Keeps.refl _ _⟩
  case round =>
    obtain ⟨i, hi, rfl, hown, hrel⟩ := hrel
    by_cases hlt : i < l.length
    · have hlt' : (i : Int) < (l.length : Int) := by omega
      have hii : (0 : Int) ≤ (i : Int) := by omega
      obtain ⟨b, o, rfl, hbl, hc⟩ := HP.out (by rw [castL_len]; omega)
      obtain ⟨e1, e2⟩ := hc i (by rw [castL_len]; exact hlt)
      rw [castL_get] at e1 e2
      have hbd := HBD.out _ (getD_mem (d := (0, 0)) hlt)
      have HNX := Hid.mk' (pagesOf_take l i hlt)
      have hlen := pagesOf_len_take l i hlt
      have hle := pagesOf_len_le l (i + 1)
      generalize l.getD i (0, 0) = s at *
      obtain ⟨f, c⟩ := s
      simp only at e1 e2 hbd HNX hlen
      rw [hlen] at hle
      generalize pagesOf (l.take i) = Q at *
      have HE : Hid (∀ wx, Keeps (fun k => w.heap.size ≤ k) w wx → wx.cell? ⟨b, o + i * 2, none⟩ = some (.int .i64 (f : Int)) ∧ wx.cell? ⟨b, o + i * 2 + 1, none⟩ = some (.int .i64 (c : Int))) := fun wx hk => ⟨hk.cell e1 (by simp; omega), hk.cell e2 (by simp; omega)⟩
      have HREL := hrel
      clear hc e1 e2 hrel hlen
      go_wp2
      go_loopw [3, 5] (fun v jv wr => ∃ j : Nat, j ≤ c ∧ jv = .int .i64 j ∧ wr.ownsRow w.heap.size 3 1 v (Q.length + j) (intCells (Q ++ List.range' f j)) ∧ Hid (Keeps (fun k => w.heap.size ≤ k) w wr)) (fun _ jv _ => c - (intOf jv).toNat)
      case atStart => exact ⟨0, by omega, rfl, by simpa using hown, HREL.out⟩
      case round =>
        obtain ⟨j, hj, rfl, hown, hrel⟩ := hrel
        obtain ⟨e1, e2⟩ := HE.out wr hrel.out
        by_cases hlj : j < c
        · have hlj' : (j : Int) < (c : Int) := by omega
          have hsum : IntKind.i64.wrap ((f : Int) + (j : Int)) = (f : Int) + (j : Int) := i64_id (by omega) (by omega)
          have HOW := Hid.mk' hown
          have HR2 := hrel
          have hws := hrel.out.size
          clear hrel
          go_wp2_with (first
            | (at_builtin; go_must (refine wpList_append_lies _ rfl _ _ 49 rfl w.heap.size 3 i0 (.int .i64 0) 1 8 Try.underlying49 hi0 hz0 hz1 hz2 rfl (by decide) _ (Q.length + j) (intCells (Q ++ List.range' f j)) rfl (World.ownsRow.alloc HOW.out _) ⟨wr.heap.size, 0, none⟩ 1 1 [.int .i64 ((f : Int) + (j : Int))] rfl rfl (news1 wr _ _) (by simp [Value.oneCell']) (by decide) (by unfold maxLen; omega) (by omega) (by simp; omega) (wr.heap.size + 1) (by simp) ?_); intro g2 c2 w6 hown2 hgrow2 hloc2 hlt2))
          go_roundw
          case rel =>
            have ec : intCells (Q ++ List.range' f j) ++ [.int .i64 ((f : Int) + (j : Int))] = intCells (Q ++ List.range' f (j + 1)) := by
              rw [range_snoc, ← List.append_assoc]; simp [intCells]
            refine ⟨j + 1, by omega, by go_num, ?_, ?_⟩
            · rw [ec] at hown2; exact hown2
            · exact (HR2.out.step (World.grownBy_alloc wr _ none) (by simp)).step hgrow2 (fun k hk => Or.inl (HOW.out.lt k hk).1)
          case measure => simp [intOf]; omega
        · have hlj' : ¬ (j : Int) < (c : Int) := by omega
          have HJ := Hid.mk' (show j = c by omega)
          have HOW := Hid.mk' hown
          have HR2 := hrel
          clear hrel hown
          go_wp2
          go_roundw
          case rel =>
            refine ⟨i + 1, by omega, by go_num, ?_, HR2.out⟩
            have := HOW.out
            rw [HJ.out] at this
            rw [HNX.out, List.length_append, List.length_range']
            exact this
          case measure => simp [intOf]; omega
    · have hlt' : ¬ (i : Int) < (l.length : Int) := by omega
      have HI := Hid.mk' (show i = l.length by omega)
      have HOW := Hid.mk' hown
      have HR2 := hrel
      clear hrel hown
      go_wp2
      go_ret
      refine ⟨_, rfl, ?_, HR2.out⟩
      have := HOW.out
      rw [HI.out, List.take_length] at this
      exact this

end Go.Proofs.Ytnafocbgapianab
