import Derived.Test.YtednblofjncgdaaA5
namespace Go.Proofs.Ytednblofjncgdaa
open Go.RowKit Go.Maps

theorem ret_string {a b : ByteArray} (h : a = b) : Ending.returned (.string a) = .returned (.string b) := by rw [h]
theorem heap_last (w : World) (o : Obj) : (w.alloc o).heap[w.heap.size]? = some o := by
  show (w.heap.push o)[w.heap.size]? = some o
  simp
/-- A list of bytes that is new. -/
theorem row_new (W : World) (l : Bs) (n : Nat) (hn : n = l.length) : Row (W.alloc (.cells (vals l).toArray 5)) (.slice (some ⟨W.heap.size, 0, none⟩) n n) l.length (vals l) := by
  subst hn
  refine ⟨_, _, rfl, Nat.le_refl _, fun _ => ⟨_, _, rfl, by rw [World.size_alloc]; omega, fun j u hj => ?_⟩⟩
  have h := heap_last W (.cells (vals l).toArray 5)
  simp only [World.cell?, h, Nat.zero_add, List.getElem?_toArray]
  exact hj
theorem conv_new (W : World) (l : Bs) (n : Nat) (hn : n = l.length) : (convert 28 9 (.slice (some ⟨W.heap.size, 0, none⟩) n n)).run Try.prog (W.alloc (.cells (vals l).toArray 5)) = .ok (.string (mkB l)) (W.alloc (.cells (vals l).toArray 5)) :=
  conv_row _ _ l (row_new W l n hn)
theorem digit_int (w : World) (n : Nat) (hn : n < 16) (a : Int) (ha : a = (n : Int)) : Calls Try.prog 15 #[.int .i64 a] w fun e w' => e = .returned (.int .u8 ((dg n).toNat : Int)) ∧ w' = w := by
  rw [ha]; exact digit_any w n hn

set_option maxHeartbeats 1000000 in
set_option maxRecDepth 100000 in
theorem esc_any (w : World) (b : UInt8) : Calls Try.prog 11 #[.int .u8 (b.toNat : Int)] w fun e w' => e = .returned (.string (mkB (esc b))) ∧ Keeps (fun _ => False) w w' := by
  have h14 := plain_any w b
  cases hp : pln b with
  | true =>
    rw [hp] at h14
    have e : esc b = [b] := by
      unfold pln at hp
      simp at hp
      unfold esc
      rw [if_neg hp.1.2, if_neg hp.2]
      split
      · rename_i h; subst h; exact absurd hp.1.1 (by decide)
      · rw [if_pos hp.1.1]
    rw [e]
    have hcv : (convert 28 9 (.slice (some ⟨w.heap.size, 0, none⟩) 1 1)).run Try.prog (w.alloc (.cells #[.int .u8 (b.toNat : Int)] 5)) = .ok (.string (mkB [b])) (w.alloc (.cells #[.int .u8 (b.toNat : Int)] 5)) := conv_new w [b] 1 rfl
    clear e hp
    go_enter Try.func11, Try.ntmps11
    go_wp2_with (first | (go_at_call 14; refine h14.mono ?_; clear h14; rintro e w1 ⟨rfl, hw1⟩; subst w1))
    go_ret
    exact ⟨rfl, (Keeps.refl _ w).alloc _⟩
  | false =>
    rw [hp] at h14
    by_cases c34 : b = 34
    · subst c34
      go_enter Try.func11, Try.ntmps11
      go_wp2_with (first | (go_at_call 14; refine h14.mono ?_; clear h14; rintro e w1 ⟨rfl, hw1⟩; subst w1))
      go_ret
      exact ⟨rfl, Keeps.refl _ w⟩
    · by_cases c92 : b = 92
      · subst c92
        go_enter Try.func11, Try.ntmps11
        go_wp2_with (first | (go_at_call 14; refine h14.mono ?_; clear h14; rintro e w1 ⟨rfl, hw1⟩; subst w1))
        go_ret
        exact ⟨rfl, Keeps.refl _ w⟩
      · by_cases c10 : b = 10
        · subst c10
          go_enter Try.func11, Try.ntmps11
          go_wp2_with (first | (go_at_call 14; refine h14.mono ?_; clear h14; rintro e w1 ⟨rfl, hw1⟩; subst w1))
          go_ret
          exact ⟨rfl, Keeps.refl _ w⟩
        · have e : esc b = [92, 120, dg (b.toNat / 16), dg (b.toNat % 16)] := by
            unfold esc
            rw [if_neg c34, if_neg c92, if_neg c10, if_neg]
            intro h
            unfold pln at hp
            simp [h, c34, c92] at hp
          rw [e]
          have k34 := by_no (k := 34) 34 rfl c34
          have k92 := by_no (k := 92) 92 rfl c92
          have k10 := by_no (k := 10) 10 rfl c10
          have hb := b.toNat_lt
          have h15 := digit_int w (b.toNat / 16) (by omega) ((b.toNat : Int) / 16) (by omega)
          have h15' := digit_int w (b.toNat % 16) (by omega) ((b.toNat : Int) % 16) (by omega)
          have hcv : (convert 28 9 (.slice (some ⟨w.heap.size, 0, none⟩) 4 4)).run Try.prog (w.alloc (.cells #[.int .u8 92, .int .u8 120, .int .u8 ((dg (b.toNat / 16)).toNat : Int), .int .u8 ((dg (b.toNat % 16)).toNat : Int)] 5)) = .ok (.string (mkB [92, 120, dg (b.toNat / 16), dg (b.toNat % 16)])) (w.alloc (.cells #[.int .u8 92, .int .u8 120, .int .u8 ((dg (b.toNat / 16)).toNat : Int), .int .u8 ((dg (b.toNat % 16)).toNat : Int)] 5)) := conv_new w [92, 120, dg (b.toNat / 16), dg (b.toNat % 16)] 4 rfl
          clear e hp c34 c92 c10
          go_enter Try.func11, Try.ntmps11
          go_wp2_with (first
            | (go_at_call 14; refine h14.mono ?_; clear h14; rintro e w1 ⟨rfl, hw1⟩; subst w1)
            | (go_at_call 15; refine h15.mono ?_; clear h15; rintro e w1 ⟨rfl, hw1⟩; subst w1)
            | (go_at_call 15; refine h15'.mono ?_; clear h15'; rintro e w1 ⟨rfl, hw1⟩; subst w1))
          go_ret
          exact ⟨rfl, (Keeps.refl _ w).alloc _⟩
end Go.Proofs.Ytednblofjncgdaa
