import Derived.Test.YtednblofjncgdaaA6
namespace Go.Proofs.Ytednblofjncgdaa
open Go.RowKit Go.Maps

/-- A list of bytes of one's own, new since w. -/
def OB (w W : World) (v : Value) (l : Bs) : Prop := W.ownsRow w.heap.size 5 1 v l.length (vals l) ∧ Keeps (fun _ => False) w W
theorem OB.row {w W : World} {v : Value} {l : Bs} (h : OB w W v l) : Row W v l.length (vals l) := Row.of_own h.1
theorem OB.nil (w : World) : OB w w (.slice none 0 0) [] := ⟨World.ownsRow_nil _ _ _ _, Keeps.refl _ _⟩
theorem OB.new (w : World) (l : Bs) (n : Nat) (hn : n = l.length) (hm : n ≤ 1000) : OB w (w.alloc (.cells (vals l).toArray 5)) (.slice (some ⟨w.heap.size, 0, none⟩) n n) l := by
  subst hn
  refine ⟨⟨by rw [vals_len, Nat.mul_one], Or.inr ⟨_, _, _, rfl, Nat.le_refl _, heap_last _ _, Nat.le_refl _, by unfold maxLen; omega, by simp [vals_len], by simp [← vals_len l]⟩⟩, (Keeps.refl _ w).alloc _⟩
theorem OB.keep {w A B : World} {v : Value} {l : Bs} (h : OB w A v l) (k : Keeps (fun _ => False) A B) : OB w B v l := ⟨own_grow h.1 k, h.2.trans k⟩

theorem wpList_app {ops : Array Oper} {rest : List Oper} {o : Oper} {a : Act} {Q : Exit → Act → World → Prop} (hgd : o.guard = none) (s x : Operand)
    (ho : o.op = .call { callee := .builtin .append, args := #[s, x], argTypes := #[28, 28] }) (w W : World) (v : Value) (l : Bs) (hs : a.eval s = v) (h : OB w W v l) (m : Bs) (n : Nat) (hn : n = m.length) (C : Array Value) (hC : C = (vals m).toArray)
    (hx : a.eval x = .slice (some ⟨W.heap.size, 0, none⟩) n n) (hl : l.length + m.length ≤ 1000000000000)
    (K : ∀ v' W', OB w W' v' (l ++ m) → wpList Try.prog ops Q rest (a.put o.dst v') W') : wpList Try.prog ops Q (o :: rest) a (W.alloc (.cells C 5)) := by
  subst hn hC
  obtain ⟨i0, hi, hz0, hz1, hz2⟩ := info_parts info5
  refine wpList_append_own_at _ hgd s x 28 ho w.heap.size 5 i0 (.int .u8 0) 1 1 Try.underlying28 hi hz0 hz1 hz2 rfl (by decide) v l.length (vals l) hs (h.1.alloc _) ⟨W.heap.size, 0, none⟩ m.length m.length (vals m) hx (by rw [vals_len, Nat.mul_one]) ?_ ?_ (by unfold maxLen; omega) (by omega) (by rw [World.size_alloc]; have := h.2.size; omega) ?_
  · intro j u hj
    have h2 := heap_last W (.cells (vals m).toArray 5)
    rw [addr_add]
    simp only [World.cell?, h2, Nat.zero_add, List.getElem?_toArray]
    exact hj
  · intro u hu
    simp only [vals, List.mem_map] at hu
    obtain ⟨b, _, rfl⟩ := hu
    rfl
  · intro v' W' hown hgr _ _
    refine K v' W' ⟨?_, ?_⟩
    · have : vals (l ++ m) = vals l ++ vals m := by simp [vals]
      rw [this, List.length_append]; exact hown
    · refine (h.2.alloc _).step hgr (fun k hk => Or.inr ?_)
      exact ((h.1.lt k hk).1)
theorem step_app {ops : Array Oper} {o : Oper} {a : Act} {K : Act → World → Prop} {Q : Exit → Act → World → Prop} {E : Prop} (hgd : o.guard = none) (s x : Operand)
    (ho : o.op = .call { callee := .builtin .append, args := #[s, x], argTypes := #[28, 28] }) (w W : World) (v : Value) (l : Bs) (hs : a.eval s = v) (h : OB w W v l) (m : Bs) (n : Nat) (hn : n = m.length) (h0 : 0 < m.length) (C : Array Value) (hC : C = (vals m).toArray)
    (hx : a.eval x = .slice (some ⟨W.heap.size, 0, none⟩) n n) (hl : l.length + m.length ≤ 1000000000000)
    (KK : ∀ v' W', OB w W' v' (l ++ m) → K (a.put o.dst v') W') : if Region.wanted o (yielded ops a.tmps) = true then Oper.wp Try.prog o a (W.alloc (.cells C 5)) K Q else E := by
  subst hn hC
  obtain ⟨i0, hi, hz0, hz1, hz2⟩ := info_parts info5
  refine step_append_lies _ hgd s x 28 ho w.heap.size 5 i0 (.int .u8 0) 1 1 Try.underlying28 hi hz0 hz1 hz2 rfl (by decide) v l.length (vals l) hs (h.1.alloc _) ⟨W.heap.size, 0, none⟩ m.length m.length (vals m) hx (by rw [vals_len, Nat.mul_one]) ?_ ?_ h0 (by unfold maxLen; omega) (by omega) (by rw [World.size_alloc]; have := h.2.size; omega) _ rfl ?_
  · intro j u hj
    have h2 := heap_last W (.cells (vals m).toArray 5)
    rw [addr_add]
    simp only [World.cell?, h2, Nat.zero_add, List.getElem?_toArray]
    exact hj
  · intro u hu
    simp only [vals, List.mem_map] at hu
    obtain ⟨b, _, rfl⟩ := hu
    rfl
  · intro g cap W' hown hgr _ _
    refine KK _ W' ⟨?_, ?_⟩
    · have : vals (l ++ m) = vals l ++ vals m := by simp [vals]
      rw [this, List.length_append]; exact hown
    · refine (h.2.alloc _).step hgr (fun k hk => Or.inr ?_)
      exact ((h.1.lt k hk).1)
theorem flat_take {t : Bs} {k : Nat} (h : k < t.length) : (t.take (k + 1)).flatMap esc = (t.take k).flatMap esc ++ esc (t.getD k 0) := by
  rw [take_getD 0 h, List.flatMap_append]; simp
theorem flat_len (t : Bs) : (t.flatMap esc).length ≤ 4 * t.length := by
  induction t with
  | nil => simp
  | cons b l ih => rw [List.flatMap_cons, List.length_append, List.length_cons]; have := (esc_len b).2; omega

set_option maxHeartbeats 2000000 in
set_option maxRecDepth 100000 in
theorem rquote_any (w : World) (s : ByteArray) (hs : s.size ≤ 1000000) :
    Calls Try.prog 7 #[.string s] w fun e w' => e = .returned (.string (mkB (quo s.data.toList))) ∧ Keeps (fun _ => False) w w' := by
  have HS := Hid.mk' (size_len s)
  have HO : Hid (OB w (w.alloc (.cells #[.int .u8 34] 5)) (.slice (some ⟨w.heap.size, 0, none⟩) 1 1) [34]) := OB.new w [34] 1 rfl (by decide)
  go_enter Try.func7, Try.ntmps7
  go_wp2
  go_loopw [3, 4] (fun v i wr => ∃ k : Nat, k ≤ s.size ∧ i = .int .i64 k ∧ Hid (OB w wr v (34 :: (s.data.toList.take k).flatMap esc))) (fun _ i _ => s.size - (intOf i).toNat)
  case atStart => exact ⟨0, Nat.zero_le _, rfl, HO.out⟩
  case round =>
    obtain ⟨k, hk, rfl, HR⟩ := hrel
    clear HO
    have HL : Hid ((34 :: (s.data.toList.take k).flatMap esc).length ≤ 4 * k + 1) := by
      have := flat_len (s.data.toList.take k)
      have h2 : (s.data.toList.take k).length ≤ k := by simp; omega
      show _ ≤ _
      rw [List.length_cons]; omega
    by_cases h1 : k < s.size
    · have h1' : (k : Int) < (s.size : Int) := by omega
      have h11 := esc_any wr s[k]
      have HT : Hid ((s.data.toList.take (k + 1)).flatMap esc = (s.data.toList.take k).flatMap esc ++ esc s[k]) := by
        show _ = _
        rw [flat_take (by rw [← HS.out]; exact h1), byte_getD s k h1]
      have HE := Hid.mk' (esc_len s[k]).2
      go_wp2_with (first | (go_at_call 11; refine h11.mono ?_; clear h11; rintro e w1 ⟨rfl, hk1⟩))
      have HR1 := Hid.mk' (HR.out.keep hk1)
      generalize hx : esc s[k] = x at *
      have hx4 : (mkB x).size ≤ 4 := by rw [mkB_size]; exact HE.out
      clear hk1 HR
      go_loopw [3, 6] (fun v i wq => ∃ j : Nat, j ≤ (mkB x).size ∧ i = .int .i64 j ∧ Hid (OB w wq v ((34 :: (s.data.toList.take k).flatMap esc) ++ x.take j))) (fun _ i _ => (mkB x).size - (intOf i).toNat)
      case atStart => exact ⟨0, Nat.zero_le _, rfl, by rw [List.take_zero, List.append_nil]; exact HR1.out⟩
      case round =>
        obtain ⟨j, hj, rfl, HQ⟩ := hrel
        by_cases h2 : j < (mkB x).size
        · have h2' : (j : Int) < ((mkB x).size : Int) := by omega
          have HN : Hid (x.take (j + 1) = x.take j ++ [(mkB x)[j]]) := by
            show _ = _
            rw [take_getD 0 (by rw [← mkB_size]; exact h2), byte_getD (mkB x) j h2]
            rfl
          go_wp2_with (first
            | (at_builtin; go_must (refine wpList_app rfl _ _ rfl w wr u3 _ (by rfl) HQ.out [(mkB x)[j]] 1 rfl _ (by rfl) (by rfl) (by have := HL.out; have := HE.out; simp only [List.length_append, List.length_take, List.length_singleton] at *; omega) ?_); intro v' W' hO))
          have HO := Hid.mk' hO
          clear hO
          go_roundw
          case rel => exact ⟨j + 1, by omega, by go_num, by rw [HN.out, ← List.append_assoc]; exact HO.out⟩
          case measure => simp [intOf]; omega
        · have h2' : ¬ (j : Int) < ((mkB x).size : Int) := by omega
          have HN : Hid (OB w wr u3 (34 :: (s.data.toList.take (k + 1)).flatMap esc)) := by
            have := HQ.out
            rw [List.take_of_length_le (l := x) (by rw [← mkB_size]; omega), List.cons_append, ← HT.out] at this
            exact this
          go_wp2
          go_roundw
          case rel => exact ⟨k + 1, by omega, by go_num, HN.out⟩
          case measure => simp [intOf]; omega
    · have h1' : ¬ (k : Int) < (s.size : Int) := by omega
      have HF : Hid (OB w wr u3 (34 :: s.data.toList.flatMap esc)) := by
        have := HR.out
        rw [List.take_of_length_le (by rw [← HS.out]; omega)] at this
        exact this
      go_wp2_with (first
        | (at_builtin; go_must (refine wpList_app rfl _ _ rfl w wr u3 _ (by rfl) HF.out [34] 1 rfl _ (by rfl) (by rfl) (by have := flat_len s.data.toList; rw [← HS.out] at this; simp only [List.length_cons, List.length_nil]; omega) ?_); intro v' W' hO; have hcv := conv_row _ _ _ hO.row; have HO := Hid.mk' hO; clear hO))
      go_ret
      exact ⟨rfl, HO.out.2⟩
end Go.Proofs.Ytednblofjncgdaa
