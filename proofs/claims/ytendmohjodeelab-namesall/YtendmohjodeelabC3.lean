import Derived.Test.YtendmohjodeelabC2
import Derived.Deep.AppendLies
namespace Go.Proofs.Ytendmohjodeelab
open Go.RowKit Go.Maps Go.Great

theorem less_cmp : ∀ a b : List UInt8, Op.bytesLess a b = decide (Lib.compareBytes a b < 0)
  | [], [] => rfl
  | [], _ :: _ => rfl
  | _ :: _, [] => rfl
  | a :: l, b :: m => by
    simp only [Op.bytesLess, Lib.compareBytes]
    by_cases h1 : a < b
    · simp [h1]
    · by_cases h2 : b < a
      · have : ¬ a = b := fun e => by subst e; exact absurd h2 (UInt8.lt_irrefl _)
        simp [h1, h2, this]
      · have e : a = b := UInt8.le_antisymm (UInt8.not_lt.1 h2) (UInt8.not_lt.1 h1)
        subst e
        simp [UInt8.lt_irrefl, less_cmp l m]
theorem gtr_blt (a b : ByteArray) : (!(Op.bytesLess a.toList b.toList || a.toList == b.toList)) = blt b a := by
  rw [beq_toList, ByteArray.toList_eq, ByteArray.toList_eq, less_cmp]
  have hab : decide (Lib.compareBytes a.data.toList b.data.toList < 0) = blt a b := rfl
  rw [hab]
  by_cases e : a = b
  · subst e; simp [blt_irrefl]
  · cases h : blt a b with
    | true => simp [blt_asymm h]
    | false =>
      cases h2 : blt b a with
      | true => simp [e]
      | false => exact absurd (blt_total h h2) e

theorem info89 : (Try.prog.info? 89).map (fun i => (i.zero, i.size, i.bytes)) = some (some (.agg #[.int .i64 0, .string ⟨#[]⟩, .int .i64 0]), 3, 32) := by kernel_rfl

theorem ins_done {x : Rw} : ∀ {A : List Rw} (B : List Rw), (∃ r ∈ A, rlt x r = true) → insS x (A ++ B) = insS x A ++ B
  | [], _, ⟨_, h, _⟩ => by cases h
  | a :: A, B, ⟨r, hr, h⟩ => by
    simp only [List.cons_append, insS]
    cases hx : rlt x a with
    | true => simp
    | false =>
      simp only [Bool.false_eq_true, if_false, List.cons_append]
      rcases List.mem_cons.1 hr with rfl | hr
      · rw [h] at hx; cases hx
      · rw [ins_done B ⟨r, hr, h⟩]
theorem ins_past {x : Rw} : ∀ {A : List Rw} (B : List Rw), (∀ r ∈ A, rlt x r = false) → insS x (A ++ B) = A ++ insS x B
  | [], _, _ => rfl
  | a :: A, B, h => by
    simp only [List.cons_append, insS, h a (List.mem_cons_self ..), Bool.false_eq_true, if_false]
    rw [ins_past B (fun r hr => h r (List.mem_cons_of_mem _ hr))]

/-- What Put's loop has built. -/
def putL (x : Rw) (A : List Rw) (dn : Bool) : List Rw := if dn then insS x A else A
/-- 'done' tells whether the new row stands in the list. -/
def PutI (x : Rw) (A : List Rw) (dn : Bool) : Prop := (dn = true → ∃ r ∈ A, rlt x r = true) ∧ (dn = false → ∀ r ∈ A, rlt x r = false)
theorem putI_step_done {x : Rw} {A : List Rw} (h : PutI x A true) (r : Rw) : PutI x (A ++ [r]) true ∧ putL x (A ++ [r]) true = putL x A true ++ [r] := by
  obtain ⟨q, hq, hl⟩ := h.1 rfl
  refine ⟨⟨fun _ => ⟨q, List.mem_append_left _ hq, hl⟩, fun e => by cases e⟩, ?_⟩
  simp only [putL, if_true]
  exact ins_done [r] ⟨q, hq, hl⟩
theorem putI_step_here {x : Rw} {A : List Rw} (h : PutI x A false) (r : Rw) (hr : rlt x r = true) : PutI x (A ++ [r]) true ∧ putL x (A ++ [r]) true = (putL x A false ++ [x]) ++ [r] := by
  refine ⟨⟨fun _ => ⟨r, by simp, hr⟩, fun e => by cases e⟩, ?_⟩
  simp only [putL, if_true, Bool.false_eq_true, if_false]
  rw [ins_past [r] (h.2 rfl)]
  simp [insS, hr]
theorem putI_step_on {x : Rw} {A : List Rw} (h : PutI x A false) (r : Rw) (hr : rlt x r = false) : PutI x (A ++ [r]) false ∧ putL x (A ++ [r]) false = putL x A false ++ [r] := by
  refine ⟨⟨fun e => by (cases e), fun _ q hq => ?_⟩, rfl⟩
  rcases List.mem_append.1 hq with hq | hq
  · exact h.2 rfl q hq
  · rw [List.mem_singleton.1 hq]; exact hr
theorem putI_end {x : Rw} {A : List Rw} (h : PutI x A false) : insS x A = A ++ [x] := by
  have := ins_past (x := x) (A := A) [] (h.2 rfl)
  simpa [insS] using this

/-- A row of rows, of the call's own. -/
def RowB (w : World) (base : Nat) (v : Value) (S : List Rw) : Prop := w.ownsRow base 89 3 v S.length (rcells S)
theorem RowB.row {w : World} {base : Nat} {v : Value} {S : List Rw} (h : RowB w base v S) : RowR w v S := by
  rcases h.2 with ⟨rfl, h0⟩ | ⟨g, cap, cur, rfl, hg, hb, h1⟩
  · exact ⟨h.1, Or.inl ⟨rfl, h0⟩⟩
  · exact ⟨h.1, Or.inr ⟨g, cap, cur, rfl, Nat.zero_le _, hb, h1⟩⟩
theorem RowB.alloc {w : World} {base : Nat} {v : Value} {S : List Rw} (h : RowB w base v S) (o : Obj) : RowB (w.alloc o) base v S := World.ownsRow.alloc h o

/-- 'append(l, r)'. -/
theorem wpList_app {ops : Array Oper} {rest : List Oper} {o : Oper} {a : Act} {Q : Exit → Act → World → Prop} (w : World) (hgd : o.guard = none) (s x : Operand)
    (ho : o.op = .call { callee := .builtin .append, args := #[s, x], argTypes := #[72, 72] }) (base : Nat) (v : Value) (A : List Rw) (r : Rw) (hs : a.eval s = v) (hown : RowB w base v A) (g : Nat)
    (hx : a.eval x = .slice (some ⟨g, 0, none⟩) 1 1) (hb : w.heap[g]? = some (.cells #[.int .i64 r.1, .string r.2.1, .int .i64 r.2.2] 89 (0, 0))) (hn : A.length < 4100000000000) (hbase : base ≤ w.heap.size)
    (h : ∀ v' w', RowB w' base v' (A ++ [r]) → w.grownBy w' v.ownBlock → wpList Try.prog ops Q rest (a.put o.dst v') w') : wpList Try.prog ops Q (o :: rest) a w := by
  obtain ⟨i0, hi, hz0, hz1, hz2⟩ := info_parts info89
  refine wpList_append_own_at w hgd s x 72 ho base 89 i0 _ 3 32 Try.underlying72 hi hz0 hz1 hz2 rfl (by decide) v A.length (rcells A) hs hown ⟨g, 0, none⟩ 1 1 [.int .i64 r.1, .string r.2.1, .int .i64 r.2.2] hx rfl (World.news_of_block hb) (by simp [Value.oneCell']) (by unfold maxLen; omega) (by omega) hbase ?_
  intro v' w' h1 h2 _ _
  refine h v' w' ?_ h2
  unfold RowB
  rw [rcells_snoc, List.length_append]
  exact h1

end Go.Proofs.Ytendmohjodeelab
