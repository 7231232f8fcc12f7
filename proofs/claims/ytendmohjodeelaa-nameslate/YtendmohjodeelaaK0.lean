import Derived.Test.YtendmohjodeelaaB6
namespace Go.Proofs.Ytendmohjodeelaa
open Go.RowKit Go.Maps Go.Great Go.Sort Go.Shelf

/-- An index made since W, and a list that was kept of it. -/
structure KS (W w : World) (x bm : Nat) (S : List Rw) (base : Nat) (vb : Value) (L : List De) : Prop where
  ix : IxAt w x bm S
  row : RowD w base vb L
  lt : bm < base
  keep : Keeps (fun _ => False) W w
  new : W.heap.size ≤ bm
  few : S.length < 4000000000000

theorem KS.on {W w w' : World} {x bm : Nat} {S S' : List Rw} {base : Nat} {vb : Value} {L : List De} (h : KS W w x bm S base vb L) (hi : IxAt w' x bm S') (k : Keeps (fun k => k = bm) w w') (hl : S'.length < 4000000000000) : KS W w' x bm S' base vb L :=
  ⟨hi, h.row.keep k (fun i e => by have := h.lt; omega), h.lt, h.keep.then k (fun i e => Or.inr (by have := h.new; omega)), h.new, hl⟩
theorem KS.grown {W w w' : World} {x bm : Nat} {S : List Rw} {base : Nat} {vb : Value} {L : List De} (h : KS W w x bm S base vb L) (k : Keeps (fun _ => False) w w') : KS W w' x bm S base vb L :=
  ⟨h.ix.keep k (fun h => h) (fun h => h), h.row.grown k, h.lt, h.keep.trans k, h.new, h.few⟩

theorem ks_get {W w : World} {x bm : Nat} {S : List Rw} {base : Nat} {vb : Value} {L : List De} (h : Hid (KS W w x bm S base vb L)) (d : Int) (hd : (Lit.int .i64 d).wf = true) (s : ByteArray) (E : Int) (hE : getS S d s = E) :
    Calls Try.prog 13 #[.pointer (some ⟨x, 0, none⟩), .int .i64 d, .string s] w fun e w' => e = .returned (.int .i64 E) ∧ Hid (KS W w' x bm S base vb L) :=
  (get_any w x bm S h.out.ix d hd s).mono fun _ _ ⟨he, hk⟩ => ⟨by rw [← hE]; exact he, h.out.grown hk⟩
theorem ks_len {W w : World} {x bm : Nat} {S : List Rw} {base : Nat} {vb : Value} {L : List De} (h : Hid (KS W w x bm S base vb L)) (d : Int) (E : Int) (hE : ((S.filter (inDir d)).length : Int) = E) :
    Calls Try.prog 12 #[.pointer (some ⟨x, 0, none⟩), .int .i64 d] w fun e w' => e = .returned (.int .i64 E) ∧ Hid (KS W w' x bm S base vb L) :=
  (len_any w x bm S h.out.ix d (by have := h.out.few; omega)).mono fun _ _ ⟨he, hk⟩ => ⟨by rw [← hE]; exact he, h.out.grown hk⟩
theorem ks_links {W w : World} {x bm : Nat} {S : List Rw} {base : Nat} {vb : Value} {L : List De} (h : Hid (KS W w x bm S base vb L)) (d : Int) (E : Int) (hE : ((S.filter (toIno d)).length : Int) = E) :
    Calls Try.prog 14 #[.pointer (some ⟨x, 0, none⟩), .int .i64 d] w fun e w' => e = .returned (.int .i64 E) ∧ Hid (KS W w' x bm S base vb L) :=
  (links_any w x bm S h.out.ix d (by have := h.out.few; omega)).mono fun _ _ ⟨he, hk⟩ => ⟨by rw [← hE]; exact he, h.out.grown hk⟩
theorem ks_list {W w : World} {x bm : Nat} {S : List Rw} {base : Nat} {vb : Value} {L : List De} (h : Hid (KS W w x bm S base vb L)) (d : Int) (M : List De) (hM : lstS S d = M) :
    Calls Try.prog 11 #[.pointer (some ⟨x, 0, none⟩), .int .i64 d] w fun e w' => ∃ v, e = .returned v ∧ Hid (KS W w' x bm S base vb L) ∧ Hid (RowD w' w.heap.size v M) := by
  refine (list_any w x bm S h.out.ix d (by have := h.out.few; omega)).mono ?_
  rintro e w' ⟨v, rfl, H⟩
  subst hM
  exact ⟨v, rfl, h.out.grown H.out.2, H.out.1⟩
theorem ks_same {W w : World} {x bm : Nat} {S : List Rw} {base : Nat} {vb : Value} {L : List De} (h : Hid (KS W w x bm S base vb L)) {b : Nat} {v : Value} {M : List De} (hv : Hid (RowD w b v M)) (r : Bool) (hr : decide (M = L) = r) (hM : M.length < 4000000000000) :
    Calls Try.prog 19 #[v, vb] w fun e w' => e = .returned (.bool r) ∧ Hid (KS W w' x bm S base vb L) :=
  (same_any w v vb M L hv.out.dsl h.out.row.dsl (by omega)).mono fun _ _ ⟨he, hk⟩ => ⟨by rw [← hr]; exact he, h.out.grown hk⟩
theorem ks_put {W w : World} {x bm : Nat} {S : List Rw} {base : Nat} {vb : Value} {L : List De} (h : Hid (KS W w x bm S base vb L)) (d : Int) (s : ByteArray) (n : Int) (E : Int) (S' : List Rw) (hE : putE S d s n = E) (hS : putS S d s n = S') (hl : S'.length < 4000000000000) :
    Calls Try.prog 18 #[.pointer (some ⟨x, 0, none⟩), .int .i64 d, .string s, .int .i64 n] w fun e w' => e = .returned (.int .i64 E) ∧ Hid (KS W w' x bm S' base vb L) :=
  (put_any w x bm S h.out.ix d s n (by have := h.out.few; omega)).mono fun _ _ ⟨he, hk⟩ => ⟨by rw [← hE]; exact he, by
    have := hk.out.1
    rw [hS] at this
    exact h.out.on this hk.out.2 hl⟩
theorem ks_drop {W w : World} {x bm : Nat} {S : List Rw} {base : Nat} {vb : Value} {L : List De} (h : Hid (KS W w x bm S base vb L)) (d : Int) (hd : (Lit.int .i64 d).wf = true) (s : ByteArray) (n E : Int) (S' : List Rw) (hn : getS S d s = n) (hE : dropE S d s = E) (hS : delS S d s = S') :
    Calls Try.prog 21 #[.pointer (some ⟨x, 0, none⟩), .int .i64 d, .string s] w fun e w' => e = .returned (.tuple #[.int .i64 n, .int .i64 E]) ∧ Hid (KS W w' x bm S' base vb L) :=
  (drop_any w x bm S h.out.ix d hd s).mono fun _ _ ⟨he, hk⟩ => ⟨by rw [← hE, ← hn]; exact he, by
    have := hk.out.1
    rw [hS] at this
    refine h.out.on this hk.out.2 ?_
    have h1 := h.out.few
    have : S'.length ≤ S.length := by rw [← hS]; exact List.length_filter_le ..
    omega⟩

/-- The index and the first list of a law: nothing kept yet (an empty list stands in). -/
theorem ks_filled (w : World) (p : Option Addr) (cap : Nat) (l : List OpT) (hp : OpIn w p l) (hn : l.length < 3000000000000) :
    Calls Try.prog 10 #[.slice p l.length cap] w fun e w' => e = .returned (.pointer (some ⟨w.heap.size + 1, 0, none⟩)) ∧ Hid (KS w w' (w.heap.size + 1) w.heap.size (fillS l) (w.heap.size + 2) (.slice none 0 0) []) := by
  refine (filled_any w p cap l hp hn).mono ?_
  rintro e w' ⟨rfl, H⟩
  refine ⟨rfl, H.out.1, ⟨rfl, Or.inl ⟨rfl, rfl⟩⟩, by omega, H.out.2, Nat.le_refl _, ?_⟩
  have := fillS_len l
  omega
theorem ks_first {W w : World} {x bm : Nat} {S : List Rw} {base : Nat} {vb : Value} {L : List De} (h : Hid (KS W w x bm S base vb L)) :
    Calls Try.prog 9 #[] w fun e w' => e = .returned (.bool true) ∧ Hid (KS W w' x bm S base vb L) :=
  (first_any w).mono fun _ _ ⟨he, hk⟩ => ⟨he, h.out.grown hk⟩
theorem ks_copy {W w : World} {x bm : Nat} {S : List Rw} {base : Nat} {vb : Value} {L : List De} (h : Hid (KS W w x bm S base vb L)) {b : Nat} {v : Value} {M : List De} (hv : Hid (RowD w b v M)) (hM : M.length < 4000000000000) :
    Calls Try.prog 20 #[v] w fun e w' => ∃ v', e = .returned v' ∧ Hid (KS W w' x bm S w.heap.size v' M) := by
  refine (copy_any w v M hv.out.dsl (by omega)).mono ?_
  rintro e w' ⟨v', rfl, H⟩
  exact ⟨v', rfl, h.out.ix.keep H.out.2 (fun h => h) (fun h => h), H.out.1, h.out.ix.lt, h.out.keep.trans H.out.2, h.out.new, h.out.few⟩

end Go.Proofs.Ytendmohjodeelaa
