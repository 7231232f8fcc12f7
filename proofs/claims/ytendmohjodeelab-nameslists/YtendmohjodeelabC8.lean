import Derived.Test.YtendmohjodeelabC7
namespace Go.Proofs.Ytendmohjodeelab
open Go.RowKit Go.Maps Go.Great

theorem ref_ne {w : World} {i : Nat} {es : Array MapEntry} {cl : Nat} (h : w.heap[i]? = some (.map es cl)) (c : Array Value) (t : TypeId) (f : Nat × Nat) : w.heap[i]? ≠ some (.cells c t f) := by rw [h]; intro e; cases e

/-- Both indexes, and the step's cells, within a call of plays. -/
structure P2 (w0 w : World) (x bm y : Nat) (S1 S2 : List Rw) (N : Nat) (t : OpT) : Prop where
  ix : IxAt w x bm S1
  rf : RefAt w y S2
  keep : Keeps (fun k => k = bm ∨ k = y) w0 w
  op : w.heap[N]? = some (.cells (opCells t).toArray 39 (0, 0))
  few : S1.length < 3500000000000 ∧ S2.length < 3500000000000
  rise : Rise S2

theorem P2.cells {w0 w : World} {x bm y : Nat} {S1 S2 : List Rw} {N : Nat} {t : OpT} (h : P2 w0 w x bm y S1 S2 N t) : w.cell? ⟨N, 3, none⟩ = some (.int .i64 t.d) ∧ w.cell? ⟨N, 4, none⟩ = some (.string t.s) ∧ w.cell? ⟨N, 5, none⟩ = some (.int .i64 t.i) := by
  refine ⟨?_, ?_, ?_⟩
  · rw [cell_of_row _ _ 3 _ 39 (0, 0) h.op]; rfl
  · rw [cell_of_row _ _ 4 _ 39 (0, 0) h.op]; rfl
  · rw [cell_of_row _ _ 5 _ 39 (0, 0) h.op]; rfl
theorem P2.drewN {w0 w : World} {x bm y : Nat} {S1 S2 : List Rw} {N : Nat} {t : OpT} (h : P2 w0 w x bm y S1 S2 N t) (m : Nat) : P2 w0 (w.drewN m) x bm y S1 S2 N t :=
  ⟨h.ix.keep (Keeps.drewN (fun _ => False) w m) (fun h => h) (fun h => h), h.rf.grown (Keeps.drewN _ w m), h.keep.trans (Keeps.drewN _ w m), h.op, h.few, h.rise⟩
theorem P2.grown {w0 w w' : World} {x bm y : Nat} {S1 S2 : List Rw} {N : Nat} {t : OpT} (h : P2 w0 w x bm y S1 S2 N t) (k : Keeps (fun _ => False) w w') : P2 w0 w' x bm y S1 S2 N t :=
  ⟨h.ix.keep k (fun h => h) (fun h => h), h.rf.grown k, h.keep.trans (k.mono (fun _ _ h => h.elim)), k.at h.op (fun h => h), h.few, h.rise⟩
theorem P2.on1 {w0 w w' : World} {x bm y : Nat} {S1 S1' S2 : List Rw} {N : Nat} {t : OpT} (h : P2 w0 w x bm y S1 S2 N t) (hi : IxAt w' x bm S1') (k : Keeps (fun i => i = bm) w w') (hl : S1'.length < 3500000000000) : P2 w0 w' x bm y S1' S2 N t := by
  obtain ⟨D, ⟨es, cl, hb, _⟩, _⟩ := h.ix.map
  refine ⟨hi, h.rf.keep k ?_ (by rintro i rfl c f; exact ref_ne hb c 89 f), h.keep.trans (k.mono (fun _ _ e => Or.inl e)), k.at h.op (by rintro rfl; have := h.op; rw [hb] at this; cases this), ⟨hl, h.few.2⟩, h.rise⟩
  rintro rfl
  obtain ⟨v, hv, _⟩ := h.rf
  rw [hb] at hv; cases hv
theorem P2.on2 {w0 w w' : World} {x bm y : Nat} {S1 S2 S2' : List Rw} {N : Nat} {t : OpT} (h : P2 w0 w x bm y S1 S2 N t) (hi : RefAt w' y S2') (k : Keeps (fun i => i = y) w w') (hl : S2'.length < 3500000000000) (hr : Rise S2') : P2 w0 w' x bm y S1 S2' N t := by
  obtain ⟨v, hv, _⟩ := h.rf
  refine ⟨h.ix.keep k ?_ ?_, hi, h.keep.trans (k.mono (fun _ _ e => Or.inr e)), k.at h.op (by rintro rfl; have := h.op; rw [hv] at this; cases this), ⟨h.few.1, hl⟩, hr⟩
  · rintro rfl; have := h.ix.cell; rw [hv] at this; cases this
  · rintro rfl
    obtain ⟨D, ⟨es, cl, hb, _⟩, _⟩ := h.ix.map
    rw [hb] at hv; cases hv

theorem put_rise {S : List Rw} (h : Rise S) (d : Int) (s : ByteArray) (n : Int) : Rise (putS S d s n) := by
  unfold putS
  split
  · rename_i he
    have hh : hasS S d s = false := by
      cases hh : hasS S d s with
      | false => rfl
      | true =>
        unfold putE at he
        rw [hh] at he
        revert he
        cases (isIno d && isIno n) <;> cases valid s <;> simp
    exact ins_rise h hh
  · exact h
theorem clr_rise {S : List Rw} (h : Rise S) (d : Int) : Rise (clrS S d) := List.Pairwise.filter _ h
theorem clr_len (S : List Rw) (d : Int) : (clrS S d).length ≤ S.length := List.length_filter_le ..
theorem del_le (S : List Rw) (d : Int) (s : ByteArray) : (delS S d s).length ≤ S.length := List.length_filter_le ..

section
variable {w0 w : World} {x bm y : Nat} {S1 S2 : List Rw} {N : Nat} {t : OpT}

/-- What a call leaves: the state, and the step's cells once more. -/
def PX (w0 : World) (x bm y : Nat) (S1 S2 : List Rw) (N : Nat) (t : OpT) (w' : World) : Prop := P2 w0 w' x bm y S1 S2 N t

theorem p2_put1 (h : Hid (P2 w0 w x bm y S1 S2 N t)) (hl : S1.length < 3400000000000) : Calls Try.prog 19 #[.pointer (some ⟨x, 0, none⟩), .int .i64 t.d, .string t.s, .int .i64 t.i] w fun e w' => e = .returned (.int .i64 (putE S1 t.d t.s t.i)) ∧ Hid (P2 w0 w' x bm y (putS S1 t.d t.s t.i) S2 N t) ∧ w'.cell? ⟨N, 3, none⟩ = some (.int .i64 t.d) ∧ w'.cell? ⟨N, 4, none⟩ = some (.string t.s) ∧ w'.cell? ⟨N, 5, none⟩ = some (.int .i64 t.i) := by
  refine (put_any w x bm S1 h.out.ix t.d t.s t.i (by omega)).mono ?_
  rintro e w' ⟨rfl, H⟩
  have hp := h.out.on1 H.out.1 H.out.2 (by have := putS_len S1 t.d t.s t.i; omega)
  exact ⟨rfl, hp, hp.cells⟩
theorem p2_put2 (h : Hid (P2 w0 w x bm y S1 S2 N t)) (hl : S2.length < 3400000000000) : Calls Try.prog 39 #[.pointer (some ⟨y, 0, none⟩), .int .i64 t.d, .string t.s, .int .i64 t.i] w fun e w' => e = .returned (.int .i64 (putE S2 t.d t.s t.i)) ∧ Hid (P2 w0 w' x bm y S1 (putS S2 t.d t.s t.i) N t) ∧ w'.cell? ⟨N, 3, none⟩ = some (.int .i64 t.d) ∧ w'.cell? ⟨N, 4, none⟩ = some (.string t.s) ∧ w'.cell? ⟨N, 5, none⟩ = some (.int .i64 t.i) := by
  refine (ref_put w y S2 h.out.rf t.d t.s t.i (by omega)).mono ?_
  rintro e w' ⟨rfl, H⟩
  have hp := h.out.on2 H.out.1 H.out.2 (by have := putS_len S2 t.d t.s t.i; omega) (put_rise h.out.rise _ _ _)
  exact ⟨rfl, hp, hp.cells⟩
theorem p2_clear1 (h : Hid (P2 w0 w x bm y S1 S2 N t)) : Calls Try.prog 14 #[.pointer (some ⟨x, 0, none⟩), .int .i64 t.d] w fun e w' => e = .returned (.int .i64 ((S1.filter (inDir t.d)).length : Int)) ∧ Hid (P2 w0 w' x bm y (clrS S1 t.d) S2 N t) ∧ w'.cell? ⟨N, 3, none⟩ = some (.int .i64 t.d) := by
  refine (clear_any w x bm S1 h.out.ix t.d (by have := h.out.few; omega)).mono ?_
  rintro e w' ⟨rfl, H⟩
  have hp := h.out.on1 H.out.1 H.out.2 (by have := clr_len S1 t.d; have := h.out.few; omega)
  exact ⟨rfl, hp, hp.cells.1⟩
theorem p2_clear2 (h : Hid (P2 w0 w x bm y S1 S2 N t)) : Calls Try.prog 46 #[.pointer (some ⟨y, 0, none⟩), .int .i64 t.d] w fun e w' => e = .returned (.int .i64 ((S2.filter (inDir t.d)).length : Int)) ∧ Hid (P2 w0 w' x bm y S1 (clrS S2 t.d) N t) ∧ w'.cell? ⟨N, 3, none⟩ = some (.int .i64 t.d) := by
  refine (ref_clear w y S2 h.out.rf t.d (by have := h.out.few; omega)).mono ?_
  rintro e w' ⟨rfl, H⟩
  have hp := h.out.on2 H.out.1 H.out.2 (by have := clr_len S2 t.d; have := h.out.few; omega) (clr_rise h.out.rise _)
  exact ⟨rfl, hp, hp.cells.1⟩
theorem p2_drop1 (h : Hid (P2 w0 w x bm y S1 S2 N t)) (hd : (Lit.int .i64 t.d).wf = true) : Calls Try.prog 20 #[.pointer (some ⟨x, 0, none⟩), .int .i64 t.d, .string t.s] w fun e w' => e = .returned (.tuple #[.int .i64 (getS S1 t.d t.s), .int .i64 (dropE S1 t.d t.s)]) ∧ Hid (P2 w0 w' x bm y (delS S1 t.d t.s) S2 N t) ∧ w'.cell? ⟨N, 3, none⟩ = some (.int .i64 t.d) ∧ w'.cell? ⟨N, 4, none⟩ = some (.string t.s) := by
  refine (drop_any w x bm S1 h.out.ix t.d hd t.s).mono ?_
  rintro e w' ⟨rfl, H⟩
  have hp := h.out.on1 H.out.1 H.out.2 (by have := del_le S1 t.d t.s; have := h.out.few; omega)
  exact ⟨rfl, hp, hp.cells.1, hp.cells.2.1⟩
theorem p2_drop2 (h : Hid (P2 w0 w x bm y S1 S2 N t)) : Calls Try.prog 40 #[.pointer (some ⟨y, 0, none⟩), .int .i64 t.d, .string t.s] w fun e w' => e = .returned (.tuple #[.int .i64 (getS S2 t.d t.s), .int .i64 (dropE S2 t.d t.s)]) ∧ Hid (P2 w0 w' x bm y S1 (delS S2 t.d t.s) N t) := by
  refine (ref_drop w y S2 h.out.rf h.out.rise t.d t.s (by have := h.out.few; omega)).mono ?_
  rintro e w' ⟨rfl, H⟩
  exact ⟨rfl, h.out.on2 H.out.1 H.out.2 (by have := del_le S2 t.d t.s; have := h.out.few; omega) (del_rise h.out.rise _ _)⟩
end

end Go.Proofs.Ytendmohjodeelab
