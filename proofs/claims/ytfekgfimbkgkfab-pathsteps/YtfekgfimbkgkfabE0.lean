import Derived.Test.YtfekgfimbkgkfabD2
namespace Go.Proofs.Ytfekgfimbkgkfab
open Go.RowKit Go.Maps

theorem takeH {ops : Array Oper} {Q : Exit → Act → World → Prop} {md : Region.Mode} {S : World → Prop} (i : Nat) (dst : Option Tmp) (v : Value) {oi : Oper} {fuel : Nat} {listed : Array Bool} {a : Act} {w : World} (hi : ops[i]? = some oi) (hd : oi.dst = dst)
    (hs : Region.noSelect ops = true) (hf : Region.free md ops listed i = true) (hr : (Region.ready md ops listed).contains i = true)
    (hQ : ∀ c a w, Q (.panic c) (a.put dst v) w → Q (.panic c) a w) (hy : YieldsIf Try.prog ops S oi v a) (hS : S w)
    (h : wpAnyH Try.prog md ops Q S fuel (listed.setIfInBounds i true) (a.put dst v) w) : wpAnyH Try.prog md ops Q S (fuel + 1) listed a w := by
  subst hd
  exact wpAnyH_take hi hs hf hr hQ hy hS h

/-- A box that holds a path, its list. -/
structure PB (W : World) (b : Nat) (v : Value) (p : List ByteArray) (sl : Bool) : Prop where
  box : W.heap[b]? = some (.cells #[v, .bool sl] 25 (0, 0))
  row : Row W v p.length (strs p)
theorem PB.keep {W W' : World} {b : Nat} {v : Value} {p : List ByteArray} {sl : Bool} (h : PB W b v p sl) (k : Keeps (fun _ => False) W W') : PB W' b v p sl := ⟨k.at h.box id, h.row.keep k⟩
theorem PB.c0 {W : World} {b : Nat} {v : Value} {p : List ByteArray} {sl : Bool} (h : PB W b v p sl) : W.cell? ⟨b, 0, none⟩ = some v := (cells2 h.box).1
theorem PB.c1 {W : World} {b : Nat} {v : Value} {p : List ByteArray} {sl : Bool} (h : PB W b v p sl) : W.cell? ⟨b, 1, none⟩ = some (.bool sl) := (cells2 h.box).2.1
/-- What is known of a path's parts. -/
def PsOk (p : List ByteArray) : Prop := p.length < 8796093022000 ∧ ∀ s ∈ p, s.size ≤ 281474976710656
theorem clP_mem {p : List ByteArray} {s : ByteArray} (h : s ∈ clP p) : s ∈ p := by
  have hh : ∀ (p acc : List ByteArray), s ∈ p.foldl cl1 acc → s ∈ p ∨ s ∈ acc := by
    intro p
    induction p with
    | nil => intro acc h; exact Or.inr h
    | cons q p ih =>
      intro acc h
      rcases ih _ h with h | h
      · exact Or.inl (List.mem_cons_of_mem _ h)
      · unfold cl1 at h
        split at h
        · exact Or.inr h
        · split at h
          · exact Or.inr (List.mem_of_mem_tail h)
          · rcases List.mem_cons.1 h with rfl | h
            · exact Or.inl (List.mem_cons_self ..)
            · exact Or.inr h
  have h1 : s ∈ p.foldl cl1 [] := by
    have : s ∈ clR p := by simpa [clP] using h
    exact this
  rcases hh p [] h1 with h | h
  · exact h
  · cases h
theorem PsOk.clean {p : List ByteArray} (h : PsOk p) : PsOk (clP p) := ⟨Nat.lt_of_le_of_lt (clP_len p) h.1, fun s hs => h.2 s (clP_mem hs)⟩

/-- A table and a path and a cleaned one. -/
structure CS (w : World) (x bm n : Nat) (F : Dr) (bp : Nat) (vp : Value) (p : List ByteArray) (sl : Bool) (bc : Nat) (vc : Value) (c : List ByteArray) (sc : Bool) (W : World) : Prop where
  kp : Keeps (fun _ => False) w W
  tab : TabAt W x bm n F
  pp : PB W bp vp p sl
  cc : PB W bc vc c sc
theorem CS.keep {w : World} {x bm n : Nat} {F : Dr} {bp : Nat} {vp : Value} {p : List ByteArray} {sl : Bool} {bc : Nat} {vc : Value} {c : List ByteArray} {sc : Bool} {W W' : World} (h : CS w x bm n F bp vp p sl bc vc c sc W) (k : Keeps (fun _ => False) W W') : CS w x bm n F bp vp p sl bc vc c sc W' :=
  ⟨h.kp.trans k, h.tab.grow k, h.pp.keep k, h.cc.keep k⟩

end Go.Proofs.Ytfekgfimbkgkfab
