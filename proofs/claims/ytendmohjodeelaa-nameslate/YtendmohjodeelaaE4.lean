import Derived.Test.YtendmohjodeelaaE3
import Derived.Deep.AppendLies
namespace Go.Proofs.Ytendmohjodeelaa
open Go.RowKit Go.Maps Go.Great Go.Sort Go.Shelf

theorem info34 : (Try.prog.info? 34).map (fun i => (i.zero, i.size, i.bytes)) = some (some (.agg #[.int .i64 0, .int .i64 0, .int .i64 0, .int .i64 0, .string ⟨#[]⟩, .int .i64 0]), 6, 56) := by kernel_rfl
def ocells (U : List OpT) : List Value := U.flatMap opCells
theorem ocells_snoc (U : List OpT) (t : OpT) : ocells (U ++ [t]) = ocells U ++ opCells t := by simp [ocells]
theorem ocells_at : ∀ (U : List OpT) (i : Nat), i < U.length → ∀ j u, (opCells (U.getD i opZ))[j]? = some u → (ocells U)[i * 6 + j]? = some u
  | [], i, h, _, _, _ => by simp at h
  | a :: U, 0, _, j, u, h => by
    have hj : j < (opCells a).length := (List.getElem?_eq_some_iff.1 h).1
    show (opCells a ++ ocells U)[0 * 6 + j]? = some u
    rw [Nat.zero_mul, Nat.zero_add, List.getElem?_append_left hj]
    exact h
  | a :: U, i + 1, hi, j, u, h => by
    have ih := ocells_at U i (by simpa using hi) j u h
    show (opCells a ++ ocells U)[(i + 1) * 6 + j]? = some u
    rw [List.getElem?_append_right (by simp [opCells]; omega)]
    have e : (i + 1) * 6 + j - (opCells a).length = i * 6 + j := by simp [opCells]; omega
    rw [e]
    exact ih
/-- A row of steps, of the call's own. -/
def RowO (w : World) (base : Nat) (v : Value) (U : List OpT) : Prop := w.ownsRow base 34 6 v U.length (ocells U)
theorem RowO.alloc {w : World} {base : Nat} {v : Value} {U : List OpT} (h : RowO w base v U) (o : Obj) : RowO (w.alloc o) base v U := World.ownsRow.alloc h o
theorem RowO.opin {w : World} {base : Nat} {v : Value} {U : List OpT} (h : RowO w base v U) : ∃ p cap, v = .slice p U.length cap ∧ OpIn w p U := by
  rcases h.2 with ⟨rfl, h0⟩ | ⟨g, cap, cur, rfl, hg, hb, h1⟩
  · exact ⟨none, 0, by rw [h0], fun h => absurd h (by omega)⟩
  · refine ⟨_, cap, rfl, fun _ => ⟨g, 0, rfl, heap_lt hb, fun i hi j u hj => ?_⟩⟩
    have hj6 : j < 6 := (List.getElem?_eq_some_iff.1 hj).1
    rw [Nat.zero_add, World.ownsRow.cellAt h (i * 6 + j) (by omega)]
    exact ocells_at U i hi j u hj
theorem RowO.keep {w w' : World} {base : Nat} {v : Value} {U : List OpT} (h : RowO w base v U) (k : Keeps (fun _ => False) w w') : RowO w' base v U := by
  refine ⟨h.1, ?_⟩
  rcases h.2 with ⟨e, h0⟩ | ⟨g, cap, cur, e, hg, hb, h1⟩
  · exact Or.inl ⟨e, h0⟩
  · exact Or.inr ⟨g, cap, cur, e, hg, by rw [k.block g (heap_lt hb) (fun h => h)]; exact hb, h1⟩
/-- What Order's first loop keeps. -/
def OrR (W w : World) (v : Value) (U : List OpT) : Prop := RowO w W.heap.size v U ∧ Keeps (fun _ => False) W w
theorem OrR.grown {W w w' : World} {v : Value} {U : List OpT} (h : OrR W w v U) (k : Keeps (fun _ => False) w w') : OrR W w' v U := ⟨h.1.keep k, h.2.trans k⟩

/-- 'append(l, t)'. -/
theorem wpList_appo {ops : Array Oper} {rest : List Oper} {o : Oper} {a : Act} {Q : Exit → Act → World → Prop} (W w : World) (hgd : o.guard = none) (s x : Operand)
    (ho : o.op = .call { callee := .builtin .append, args := #[s, x], argTypes := #[23, 23] }) (v : Value) (U : List OpT) (t : OpT) (hs : a.eval s = v) (hown : Hid (OrR W w v U)) (g : Nat)
    (hx : a.eval x = .slice (some ⟨g, 0, none⟩) 1 1) (cs : Array Value) (hcs : cs.toList = opCells t) (hb : w.heap[g]? = some (.cells cs 34 (0, 0))) (hn : U.length < 2513169434916)
    (h : ∀ p c w', Hid (OrR W w' (.slice p (U.length + 1) c) (U ++ [t])) → wpList Try.prog ops Q rest (a.put o.dst (.slice p (U.length + 1) c)) w') : wpList Try.prog ops Q (o :: rest) a w := by
  obtain ⟨i0, hi, hz0, hz1, hz2⟩ := info_parts info34
  have hsz : cs.size = 6 := by rw [← Array.length_toList, hcs]; rfl
  refine wpList_append_own_at w hgd s x 23 ho W.heap.size 34 i0 _ 6 56 Try.underlying23 hi hz0 hz1 hz2 rfl (by decide) v U.length (ocells U) hs hown.out.1 ⟨g, 0, none⟩ 1 1 (opCells t) hx rfl ?_ (by simp [Value.oneCell', opCells]) (by unfold maxLen; omega) (by omega) hown.out.2.size ?_
  · have := World.news_of_block hb
    rw [hcs] at this
    exact this
  · intro v' w' h1 h2 _ _
    have hr : RowO w' W.heap.size v' (U ++ [t]) := by
      unfold RowO
      rw [ocells_snoc, List.length_append]
      exact h1
    obtain ⟨p, c, e, _⟩ := hr.opin
    rw [List.length_append] at e
    simp only [List.length_cons, List.length_nil, Nat.zero_add] at e
    subst e
    exact h p c w' (Hid.mk' ⟨hr, hown.out.2.step h2 (fun k hk => Or.inr (World.ownsRow.lt hown.out.1 k hk).1)⟩)

/-- Two indexes made since W. -/
structure OS (W w : World) (x bm y by_ : Nat) (S T : List Rw) : Prop where
  ix : IxAt w x bm S
  iy : IxAt w y by_ T
  ne : by_ ≠ bm
  keep : Keeps (fun _ => False) W w
  newy : W.heap.size ≤ by_
  fx : S.length < 4000000000000
  fy : T.length < 4000000000000

section
variable {W w : World} {x bm y by_ : Nat} {S T : List Rw}
theorem OS.grown {w' : World} (h : OS W w x bm y by_ S T) (k : Keeps (fun _ => False) w w') : OS W w' x bm y by_ S T := ⟨h.ix.keep k id id, h.iy.keep k id id, h.ne, h.keep.trans k, h.newy, h.fx, h.fy⟩
theorem OS.drewN (h : OS W w x bm y by_ S T) (n : Nat) : OS W (w.drewN n) x bm y by_ S T := h.grown (Keeps.drewN (fun _ => False) w n)
theorem OS.ony {w' : World} {T' : List Rw} (h : OS W w x bm y by_ S T) (hi : IxAt w' y by_ T') (k : Keeps (fun k => k = by_) w w') (hl : T'.length < 4000000000000) : OS W w' x bm y by_ S T' := by
  refine ⟨h.ix.keep k ?_ (fun e => h.ne e.symm), hi, h.ne, h.keep.then k (fun i e => Or.inr (by have := h.newy; omega)), h.newy, h.fx, hl⟩
  rintro rfl
  obtain ⟨D, ⟨es, cl, hb, _⟩, _⟩ := h.iy.map
  have := h.ix.cell
  rw [hb] at this; cases this
theorem os_puty (h : Hid (OS W w x bm y by_ S T)) (d : Int) (s : ByteArray) (n : Int) (E : Int) (T' : List Rw) (hE : putE T d s n = E) (hT : putS T d s n = T') (hl : T'.length < 4000000000000) :
    Calls Try.prog 18 #[.pointer (some ⟨y, 0, none⟩), .int .i64 d, .string s, .int .i64 n] w fun e w' => e = .returned (.int .i64 E) ∧ Hid (OS W w' x bm y by_ S T') :=
  (put_any w y by_ T h.out.iy d s n (by have := h.out.fy; omega)).mono fun _ _ ⟨he, hk⟩ => ⟨by rw [← hE]; exact he, by
    have := hk.out.1
    rw [hT] at this
    exact h.out.ony this hk.out.2 hl⟩
theorem os_links (h : Hid (OS W w x bm y by_ S T)) (d : Int) (E : Int) (hE : ((S.filter (toIno d)).length : Int) = E) :
    Calls Try.prog 14 #[.pointer (some ⟨x, 0, none⟩), .int .i64 d] w fun e w' => e = .returned (.int .i64 E) ∧ Hid (OS W w' x bm y by_ S T) :=
  (links_any w x bm S h.out.ix d (by have := h.out.fx; omega)).mono fun _ _ ⟨he, hk⟩ => ⟨by rw [← hE]; exact he, h.out.grown hk⟩
theorem os_linksy (h : Hid (OS W w x bm y by_ S T)) (d : Int) (E : Int) (hE : ((T.filter (toIno d)).length : Int) = E) :
    Calls Try.prog 14 #[.pointer (some ⟨y, 0, none⟩), .int .i64 d] w fun e w' => e = .returned (.int .i64 E) ∧ Hid (OS W w' x bm y by_ S T) :=
  (links_any w y by_ T h.out.iy d (by have := h.out.fy; omega)).mono fun _ _ ⟨he, hk⟩ => ⟨by rw [← hE]; exact he, h.out.grown hk⟩
theorem os_list (h : Hid (OS W w x bm y by_ S T)) (d : Int) (M : List De) (hM : lstS S d = M) :
    Calls Try.prog 11 #[.pointer (some ⟨x, 0, none⟩), .int .i64 d] w fun e w' => ∃ p c, e = .returned (.slice p M.length c) ∧ Hid (OS W w' x bm y by_ S T) ∧ Hid (DSl w' (.slice p M.length c) M) := by
  refine (list_any w x bm S h.out.ix d (by have := h.out.fx; omega)).mono ?_
  rintro e w' ⟨v, rfl, H⟩
  subst hM
  obtain ⟨p, c, rfl⟩ := (DSl.of_row H.out.1 rfl).shape
  exact ⟨p, c, rfl, h.out.grown H.out.2, DSl.of_row H.out.1 rfl⟩
theorem os_listy (h : Hid (OS W w x bm y by_ S T)) (d : Int) (M : List De) (hM : lstS T d = M) {v1 : Value} {L1 : List De} (h1 : Hid (DSl w v1 L1)) :
    Calls Try.prog 11 #[.pointer (some ⟨y, 0, none⟩), .int .i64 d] w fun e w' => ∃ p c, e = .returned (.slice p M.length c) ∧ Hid (OS W w' x bm y by_ S T) ∧ Hid (DSl w' (.slice p M.length c) M) ∧ Hid (DSl w' v1 L1) := by
  refine (list_any w y by_ T h.out.iy d (by have := h.out.fy; omega)).mono ?_
  rintro e w' ⟨v, rfl, H⟩
  subst hM
  obtain ⟨p, c, rfl⟩ := (DSl.of_row H.out.1 rfl).shape
  exact ⟨p, c, rfl, h.out.grown H.out.2, DSl.of_row H.out.1 rfl, h1.out.grown H.out.2⟩
theorem os_same (h : Hid (OS W w x bm y by_ S T)) {v1 v2 : Value} {L1 L2 : List De} (h1 : Hid (DSl w v1 L1)) (h2 : Hid (DSl w v2 L2)) (hl : L1.length < 4000000000000) (r : Bool) (hr : decide (L1 = L2) = r) :
    Calls Try.prog 19 #[v1, v2] w fun e w' => e = .returned (.bool r) ∧ Hid (OS W w' x bm y by_ S T) :=
  (same_any w v1 v2 L1 L2 h1.out h2.out (by omega)).mono fun _ _ ⟨he, hk⟩ => ⟨by rw [← hr]; exact he, h.out.grown hk⟩
end
theorem os_new {W w : World} {x bm base : Nat} {vb : Value} {S : List Rw} {L : List De} (h : Hid (KS W w x bm S base vb L)) :
    Calls Try.prog 17 #[] w fun e w' => e = .returned (.pointer (some ⟨w.heap.size + 1, 0, none⟩)) ∧ Hid (OS W w' x bm (w.heap.size + 1) w.heap.size S []) := by
  refine (new_any w).mono ?_
  rintro e w' ⟨rfl, H⟩
  refine ⟨rfl, h.out.ix.keep H.out.2.1 id id, H.out.1, ?_, h.out.keep.trans H.out.2.1, h.out.keep.size, h.out.few, by simp⟩
  have := h.out.ix.lt
  omega

end Go.Proofs.Ytendmohjodeelaa
