import Derived.Test.YtpgabmfpffaajaaDoorK05
namespace Go.Proofs.YtpgabmfpffaajaaDoor
open Go.RowKit Go.Maps
set_option maxRecDepth 100000

/-- A list of bytes of one's own, new since w. -/
def OB (w W : World) (v : Value) (l : Bs) : Prop := W.ownsRow w.heap.size 5 1 v l.length (vals l) ∧ Keeps (fun _ => False) w W
theorem OB.row {w W : World} {v : Value} {l : Bs} (h : OB w W v l) : Row W v l.length (vals l) := Row.of_own h.1
theorem OB.nil (w : World) : OB w w (.slice none 0 0) [] := ⟨World.ownsRow_nil _ _ _ _, Keeps.refl _ _⟩
theorem OB.new (w : World) (l : Bs) (n : Nat) (hn : n = l.length) (hm : n ≤ 1000) : OB w (w.alloc (.cells (vals l).toArray 5)) (.slice (some ⟨w.heap.size, 0, none⟩) n n) l := by
  subst hn
  refine ⟨⟨by rw [vals_len, Nat.mul_one], Or.inr ⟨_, _, _, rfl, Nat.le_refl _, heap_last _ _, Nat.le_refl _, by unfold maxLen; omega, by simp [vals_len], by simp [← vals_len l]⟩⟩, (Keeps.refl _ w).alloc _⟩
theorem OB.keep {w A B : World} {v : Value} {l : Bs} (h : OB w A v l) (k : Keeps (fun _ => False) A B) : OB w B v l := ⟨own_grow h.1 k, h.2.trans k⟩

theorem wpList_app {ops : Array Oper} {rest : List Oper} {o : Oper} {a : Act} {Q : Exit → Act → World → Prop} (hgd : o.guard = none) (s x : Operand)
    (ho : o.op = .call { callee := .builtin .append, args := #[s, x], argTypes := #[57, 57] }) (w W : World) (v : Value) (l : Bs) (hs : a.eval s = v) (h : OB w W v l) (m : Bs) (n : Nat) (hn : n = m.length) (C : Array Value) (hC : C = (vals m).toArray)
    (hx : a.eval x = .slice (some ⟨W.heap.size, 0, none⟩) n n) (hl : l.length + m.length ≤ 1000000000000)
    (K : ∀ v' W', OB w W' v' (l ++ m) → wpList Tryd.prog ops Q rest (a.put o.dst v') W') : wpList Tryd.prog ops Q (o :: rest) a (W.alloc (.cells C 5)) := by
  subst hn hC
  obtain ⟨i0, hi, hz0, hz1, hz2⟩ := info_parts info5
  refine wpList_append_own_at _ hgd s x 57 ho w.heap.size 5 i0 (.int .u8 0) 1 1 Tryd.underlying57 hi hz0 hz1 hz2 rfl (by decide) v l.length (vals l) hs (h.1.alloc _) ⟨W.heap.size, 0, none⟩ m.length m.length (vals m) hx (by rw [vals_len, Nat.mul_one]) ?_ ?_ (by unfold maxLen; omega) (by omega) (by rw [World.size_alloc]; have := h.2.size; omega) ?_
  · intro j u hj
    have h2 := heap_last W (.cells (vals m).toArray 5)
    rw [addr_add]
    simp only [World.cell?, h2, Nat.zero_add, List.getElem?_toArray]
    exact hj
  · intro u hu
    simp only [vals, List.mem_map] at hu
    obtain ⟨b, _, rfl⟩ := hu
    rfl
  · intro v' W' hown hgr _ _
    refine K v' W' ⟨?_, ?_⟩
    · have : vals (l ++ m) = vals l ++ vals m := by simp [vals]
      rw [this, List.length_append]; exact hown
    · refine (h.2.alloc _).step hgr (fun k hk => Or.inr ?_)
      exact ((h.1.lt k hk).1)
theorem step_app {ops : Array Oper} {o : Oper} {a : Act} {K : Act → World → Prop} {Q : Exit → Act → World → Prop} {E : Prop} (hgd : o.guard = none) (s x : Operand)
    (ho : o.op = .call { callee := .builtin .append, args := #[s, x], argTypes := #[57, 57] }) (w W : World) (v : Value) (l : Bs) (hs : a.eval s = v) (h : OB w W v l) (m : Bs) (n : Nat) (hn : n = m.length) (h0 : 0 < m.length) (C : Array Value) (hC : C = (vals m).toArray)
    (hx : a.eval x = .slice (some ⟨W.heap.size, 0, none⟩) n n) (hl : l.length + m.length ≤ 1000000000000)
    (KK : ∀ v' W', OB w W' v' (l ++ m) → K (a.put o.dst v') W') : if Region.wanted o (yielded ops a.tmps) = true then Oper.wp Tryd.prog o a (W.alloc (.cells C 5)) K Q else E := by
  subst hn hC
  obtain ⟨i0, hi, hz0, hz1, hz2⟩ := info_parts info5
  refine step_append_lies _ hgd s x 57 ho w.heap.size 5 i0 (.int .u8 0) 1 1 Tryd.underlying57 hi hz0 hz1 hz2 rfl (by decide) v l.length (vals l) hs (h.1.alloc _) ⟨W.heap.size, 0, none⟩ m.length m.length (vals m) hx (by rw [vals_len, Nat.mul_one]) ?_ ?_ h0 (by unfold maxLen; omega) (by omega) (by rw [World.size_alloc]; have := h.2.size; omega) _ rfl ?_
  · intro j u hj
    have h2 := heap_last W (.cells (vals m).toArray 5)
    rw [addr_add]
    simp only [World.cell?, h2, Nat.zero_add, List.getElem?_toArray]
    exact hj
  · intro u hu
    simp only [vals, List.mem_map] at hu
    obtain ⟨b, _, rfl⟩ := hu
    rfl
  · intro g cap W' hown hgr _ _
    refine KK _ W' ⟨?_, ?_⟩
    · have : vals (l ++ m) = vals l ++ vals m := by simp [vals]
      rw [this, List.length_append]; exact hown
    · refine (h.2.alloc _).step hgr (fun k hk => Or.inr ?_)
      exact ((h.1.lt k hk).1)
theorem flat_take {t : Bs} {k : Nat} (h : k < t.length) : (t.take (k + 1)).flatMap esc = (t.take k).flatMap esc ++ esc (t.getD k 0) := by
  rw [take_getD 0 h, List.flatMap_append]; simp
theorem flat_len (t : Bs) : (t.flatMap esc).length ≤ 4 * t.length := by
  induction t with
  | nil => simp
  | cons b l ih => rw [List.flatMap_cons, List.length_append, List.length_cons]; have := (esc_len b).2; omega

end Go.Proofs.YtpgabmfpffaajaaDoor
