import Derived.Test.YtendmohjodeelabC8
namespace Go.Proofs.Ytendmohjodeelab
open Go.RowKit Go.Maps Go.Great

/-- What a step makes of an index's names. -/
def opS (k : Int) (S : List Rw) (t : OpT) : List Rw := if k = 1 then putS S t.d t.s t.i else if k = 2 then delS S t.d t.s else if k = 8 then clrS S t.d else S

/-- What plays is handed and leaves. -/
structure PlIn (w : World) (x bm y : Nat) (S : List Rw) : Prop where
  ix : IxAt w x bm S
  rf : RefAt w y S
  few : S.length < 3300000000000

theorem pl_start {w : World} {x bm y : Nat} {S : List Rw} (h : PlIn w x bm y S) (hr : Rise S) (t : OpT) : P2 w (w.alloc (.cells (opCells t).toArray 39)) x bm y S S w.heap.size t :=
  have hk : Keeps (fun _ => False) w (w.alloc (.cells (opCells t).toArray 39)) := (Keeps.refl _ w).alloc _
  ⟨h.ix.keep hk (fun h => h) (fun h => h), h.rf.grown hk, hk.mono (fun _ _ h => h.elim), heap_alloc_last w _, ⟨by have := h.few; omega, by have := h.few; omega⟩, hr⟩
def opV (t : OpT) : Value := .agg (opCells t).toArray

theorem pl_end {w w' : World} {x bm y : Nat} {S : List Rw} {N : Nat} {t : OpT} (h : P2 w w' x bm y S S N t) (hl : S.length < 3300000000000) : PlIn w' x bm y S ∧ Keeps (fun k => k = bm ∨ k = y) w w' := ⟨⟨h.ix, h.rf, hl⟩, h.keep⟩

section
variable {w0 w : World} {x bm y : Nat} {S1 S2 : List Rw} {N : Nat} {t : OpT}
theorem p2_get1 (h : Hid (P2 w0 w x bm y S1 S2 N t)) (hd : (Lit.int .i64 t.d).wf = true) : Calls Try.prog 18 #[.pointer (some ⟨x, 0, none⟩), .int .i64 t.d, .string t.s] w fun e w' => e = .returned (.int .i64 (getS S1 t.d t.s)) ∧ Hid (P2 w0 w' x bm y S1 S2 N t) ∧ w'.cell? ⟨N, 3, none⟩ = some (.int .i64 t.d) ∧ w'.cell? ⟨N, 4, none⟩ = some (.string t.s) := by
  refine (get_any w x bm S1 h.out.ix t.d hd t.s).mono ?_
  rintro e w' ⟨rfl, H⟩
  have hp := h.out.grown H
  exact ⟨rfl, hp, hp.cells.1, hp.cells.2.1⟩
theorem p2_get2 (h : Hid (P2 w0 w x bm y S1 S2 N t)) : Calls Try.prog 41 #[.pointer (some ⟨y, 0, none⟩), .int .i64 t.d, .string t.s] w fun e w' => e = .returned (.int .i64 (getS S2 t.d t.s)) ∧ Hid (P2 w0 w' x bm y S1 S2 N t) ∧ w'.cell? ⟨N, 3, none⟩ = some (.int .i64 t.d) ∧ w'.cell? ⟨N, 4, none⟩ = some (.string t.s) := by
  refine (ref_get w y S2 h.out.rf h.out.rise t.d t.s (by have := h.out.few; omega)).mono ?_
  rintro e w' ⟨rfl, rfl⟩
  exact ⟨rfl, h, h.out.cells.1, h.out.cells.2.1⟩
theorem p2_len1 (h : Hid (P2 w0 w x bm y S1 S2 N t)) : Calls Try.prog 15 #[.pointer (some ⟨x, 0, none⟩), .int .i64 t.d] w fun e w' => e = .returned (.int .i64 ((S1.filter (inDir t.d)).length : Int)) ∧ Hid (P2 w0 w' x bm y S1 S2 N t) ∧ w'.cell? ⟨N, 3, none⟩ = some (.int .i64 t.d) := by
  refine (len_any w x bm S1 h.out.ix t.d (by have := h.out.few; omega)).mono ?_
  rintro e w' ⟨rfl, H⟩
  have hp := h.out.grown H
  exact ⟨rfl, hp, hp.cells.1⟩
theorem p2_len2 (h : Hid (P2 w0 w x bm y S1 S2 N t)) : Calls Try.prog 42 #[.pointer (some ⟨y, 0, none⟩), .int .i64 t.d] w fun e w' => e = .returned (.int .i64 ((S2.filter (inDir t.d)).length : Int)) ∧ Hid (P2 w0 w' x bm y S1 S2 N t) ∧ w'.cell? ⟨N, 3, none⟩ = some (.int .i64 t.d) := by
  refine (ref_len w y S2 h.out.rf t.d (by have := h.out.few; omega)).mono ?_
  rintro e w' ⟨rfl, H⟩
  have hp := h.out.grown H
  exact ⟨rfl, hp, hp.cells.1⟩
theorem p2_links1 (h : Hid (P2 w0 w x bm y S1 S2 N t)) : Calls Try.prog 17 #[.pointer (some ⟨x, 0, none⟩), .int .i64 t.i] w fun e w' => e = .returned (.int .i64 ((S1.filter (toIno t.i)).length : Int)) ∧ Hid (P2 w0 w' x bm y S1 S2 N t) ∧ w'.cell? ⟨N, 5, none⟩ = some (.int .i64 t.i) := by
  refine (links_any w x bm S1 h.out.ix t.i (by have := h.out.few; omega)).mono ?_
  rintro e w' ⟨rfl, H⟩
  have hp := h.out.grown H
  exact ⟨rfl, hp, hp.cells.2.2⟩
theorem p2_links2 (h : Hid (P2 w0 w x bm y S1 S2 N t)) : Calls Try.prog 43 #[.pointer (some ⟨y, 0, none⟩), .int .i64 t.i] w fun e w' => e = .returned (.int .i64 ((S2.filter (toIno t.i)).length : Int)) ∧ Hid (P2 w0 w' x bm y S1 S2 N t) ∧ w'.cell? ⟨N, 5, none⟩ = some (.int .i64 t.i) := by
  refine (ref_links w y S2 h.out.rf t.i (by have := h.out.few; omega)).mono ?_
  rintro e w' ⟨rfl, rfl⟩
  exact ⟨rfl, h, h.out.cells.2.2⟩
/-- Lists that were told, with the state. -/
theorem p2_list1 (h : Hid (P2 w0 w x bm y S1 S2 N t)) : Calls Try.prog 12 #[.pointer (some ⟨x, 0, none⟩), .int .i64 t.d] w fun e w' => ∃ v, e = .returned v ∧ Hid (P2 w0 w' x bm y S1 S2 N t) ∧ Hid (DSl w' v (lstS S1 t.d)) ∧ w'.cell? ⟨N, 3, none⟩ = some (.int .i64 t.d) := by
  refine (list_any w x bm S1 h.out.ix t.d (by have := h.out.few; omega)).mono ?_
  rintro e w' ⟨v, rfl, H⟩
  have hp := h.out.grown H.out.2
  exact ⟨v, rfl, hp, DSl.of_row H.out.1 rfl, hp.cells.1⟩
theorem p2_list2 (h : Hid (P2 w0 w x bm y S1 S2 N t)) {v1 : Value} {L1 : List De} (h1 : Hid (DSl w v1 L1)) : Calls Try.prog 44 #[.pointer (some ⟨y, 0, none⟩), .int .i64 t.d] w fun e w' => ∃ p c, e = .returned (.slice p (lstS S2 t.d).length c) ∧ Hid (P2 w0 w' x bm y S1 S2 N t) ∧ Hid (DSl w' (.slice p (lstS S2 t.d).length c) (lstS S2 t.d)) ∧ Hid (DSl w' v1 L1) ∧ w'.cell? ⟨N, 3, none⟩ = some (.int .i64 t.d) := by
  refine (ref_list w y S2 h.out.rf t.d (by have := h.out.few; omega)).mono ?_
  rintro e w' ⟨p, c, rfl, H⟩
  have hp := h.out.grown H.out.2
  exact ⟨p, c, rfl, hp, H.out.1.dsl, h1.out.grown H.out.2, hp.cells.1⟩
theorem p2_same (h : Hid (P2 w0 w x bm y S1 S2 N t)) {v1 v2 : Value} {L1 L2 : List De} (h1 : Hid (DSl w v1 L1)) (h2 : Hid (DSl w v2 L2)) (hl : L1.length < 4000000000000) (r : Bool) (hr : decide (L1 = L2) = r) : Calls Try.prog 16 #[v1, v2] w fun e w' => e = .returned (.bool r) ∧ Hid (P2 w0 w' x bm y S1 S2 N t) ∧ w'.cell? ⟨N, 3, none⟩ = some (.int .i64 t.d) := by
  refine (same_any w v1 v2 L1 L2 h1.out h2.out (by omega)).mono ?_
  rintro e w' ⟨rfl, H⟩
  have hp := h.out.grown H
  exact ⟨by rw [hr], hp, hp.cells.1⟩
end

set_option maxHeartbeats 4000000 in
set_option maxRecDepth 100000 in
theorem plays_put (w : World) (x bm y : Nat) (S : List Rw) (h : PlIn w x bm y S) (a b d : Int) (s : ByteArray) (i : Int) :
    Calls Try.prog 33 #[.pointer (some ⟨x, 0, none⟩), .pointer (some ⟨y, 0, none⟩), .agg #[.int .i64 1, .int .i64 a, .int .i64 b, .int .i64 d, .string s, .int .i64 i]] w fun e w' => e = .returned (.bool true) ∧ Hid (P2 w w' x bm y (putS S d s i) (putS S d s i) w.heap.size ⟨1, a, b, d, s, i⟩) := by
  obtain ⟨D, ht⟩ := h.ix.tie
  have HP : Hid (P2 w (w.alloc (.cells #[.int .i64 1, .int .i64 a, .int .i64 b, .int .i64 d, .string s, .int .i64 i] 39)) x bm y S S w.heap.size ⟨1, a, b, d, s, i⟩) := pl_start h ht.rise ⟨1, a, b, d, s, i⟩
  have HL : Hid (S.length < 3300000000000) := h.few
  obtain ⟨c3, c4, c5⟩ := HP.out.cells
  clear h ht
  go_enter Try.func33, Try.ntmps33
  go_wp2
  go_region_held3 (fun wx => wx.cell? ⟨w.heap.size, 3, none⟩ = some (.int .i64 d) ∧ wx.cell? ⟨w.heap.size, 4, none⟩ = some (.string s) ∧ wx.cell? ⟨w.heap.size, 5, none⟩ = some (.int .i64 i))
    (first | go_keep)
    (first
      | (go_at_call 19; (first | refine (p2_put1 HP (by have := HL.out; first | exact Nat.lt_of_lt_of_le this (by omega))).mono ?_ | refine (p2_put1 (Hid.mk' (HP.out.drewN _)) (by have := HL.out; first | exact Nat.lt_of_lt_of_le this (by omega))).mono ?_); clear HP; rintro e w2 ⟨rfl, HP, x1, x2, x3⟩)
      | (go_at_call 39; (first | refine (p2_put2 HP (by have := HL.out; first | exact Nat.lt_of_lt_of_le this (by omega))).mono ?_ | refine (p2_put2 (Hid.mk' (HP.out.drewN _)) (by have := HL.out; first | exact Nat.lt_of_lt_of_le this (by omega))).mono ?_); clear HP; rintro e w2 ⟨rfl, HP, x1, x2, x3⟩))
  all_goals
    go_wp2
    go_ret
    exact ⟨ret_bool (by simp), HP⟩

set_option maxHeartbeats 4000000 in
set_option maxRecDepth 100000 in
theorem plays_drop (w : World) (x bm y : Nat) (S : List Rw) (h : PlIn w x bm y S) (a b d : Int) (s : ByteArray) (i : Int) (hd : (Lit.int .i64 d).wf = true) :
    Calls Try.prog 33 #[.pointer (some ⟨x, 0, none⟩), .pointer (some ⟨y, 0, none⟩), .agg #[.int .i64 2, .int .i64 a, .int .i64 b, .int .i64 d, .string s, .int .i64 i]] w fun e w' => e = .returned (.bool true) ∧ Hid (P2 w w' x bm y (delS S d s) (delS S d s) w.heap.size ⟨2, a, b, d, s, i⟩) := by
  obtain ⟨D, ht⟩ := h.ix.tie
  have HP : Hid (P2 w (w.alloc (.cells #[.int .i64 2, .int .i64 a, .int .i64 b, .int .i64 d, .string s, .int .i64 i] 39)) x bm y S S w.heap.size ⟨2, a, b, d, s, i⟩) := pl_start h ht.rise ⟨2, a, b, d, s, i⟩
  have HL : Hid (S.length < 3300000000000) := h.few
  have hdw : (Lit.int .i64 (OpT.mk 2 a b d s i).d).wf = true := hd
  obtain ⟨c3, c4, c5⟩ := HP.out.cells
  clear h ht
  go_enter Try.func33, Try.ntmps33
  go_wp2_with (first
    | (go_at_call 40; refine (p2_drop2 HP).mono ?_; clear HP; rintro e w3 ⟨rfl, HP⟩)
    | (go_at_call 20; refine (p2_drop1 HP hdw).mono ?_; clear HP; rintro e w2 ⟨rfl, HP, c3, c4⟩))
  all_goals
    go_ret
    exact ⟨ret_bool (by simp), HP⟩

set_option maxHeartbeats 4000000 in
set_option maxRecDepth 100000 in
theorem plays_clear (w : World) (x bm y : Nat) (S : List Rw) (h : PlIn w x bm y S) (a b d : Int) (s : ByteArray) (i : Int) :
    Calls Try.prog 33 #[.pointer (some ⟨x, 0, none⟩), .pointer (some ⟨y, 0, none⟩), .agg #[.int .i64 8, .int .i64 a, .int .i64 b, .int .i64 d, .string s, .int .i64 i]] w fun e w' => e = .returned (.bool true) ∧ Hid (P2 w w' x bm y (clrS S d) (clrS S d) w.heap.size ⟨8, a, b, d, s, i⟩) := by
  obtain ⟨D, ht⟩ := h.ix.tie
  have HP : Hid (P2 w (w.alloc (.cells #[.int .i64 8, .int .i64 a, .int .i64 b, .int .i64 d, .string s, .int .i64 i] 39)) x bm y S S w.heap.size ⟨8, a, b, d, s, i⟩) := pl_start h ht.rise ⟨8, a, b, d, s, i⟩
  have HL : Hid (S.length < 3300000000000) := h.few
  obtain ⟨c3, c4, c5⟩ := HP.out.cells
  clear h ht
  go_enter Try.func33, Try.ntmps33
  go_wp2
  go_region_held3 (fun wx => wx.cell? ⟨w.heap.size, 3, none⟩ = some (.int .i64 d))
    (first | go_keep)
    (first
      | (go_at_call 14; (first | refine (p2_clear1 HP).mono ?_ | refine (p2_clear1 (Hid.mk' (HP.out.drewN _))).mono ?_); clear HP; rintro e w2 ⟨rfl, HP, x1⟩)
      | (go_at_call 46; (first | refine (p2_clear2 HP).mono ?_ | refine (p2_clear2 (Hid.mk' (HP.out.drewN _))).mono ?_); clear HP; rintro e w2 ⟨rfl, HP, x1⟩))
  all_goals
    go_wp2
    go_ret
    exact ⟨ret_bool (by simp), HP⟩

set_option maxHeartbeats 4000000 in
set_option maxRecDepth 100000 in
theorem plays_get (w : World) (x bm y : Nat) (S : List Rw) (h : PlIn w x bm y S) (a b d : Int) (s : ByteArray) (i : Int) (hd : (Lit.int .i64 d).wf = true) :
    Calls Try.prog 33 #[.pointer (some ⟨x, 0, none⟩), .pointer (some ⟨y, 0, none⟩), .agg #[.int .i64 3, .int .i64 a, .int .i64 b, .int .i64 d, .string s, .int .i64 i]] w fun e w' => e = .returned (.bool true) ∧ Hid (P2 w w' x bm y S S w.heap.size ⟨3, a, b, d, s, i⟩) := by
  obtain ⟨D, ht⟩ := h.ix.tie
  have HP : Hid (P2 w (w.alloc (.cells #[.int .i64 3, .int .i64 a, .int .i64 b, .int .i64 d, .string s, .int .i64 i] 39)) x bm y S S w.heap.size ⟨3, a, b, d, s, i⟩) := pl_start h ht.rise ⟨3, a, b, d, s, i⟩
  have HL : Hid (S.length < 3300000000000) := h.few
  have hdw : (Lit.int .i64 (OpT.mk 3 a b d s i).d).wf = true := hd
  obtain ⟨c3, c4, c5⟩ := HP.out.cells
  clear h ht
  go_enter Try.func33, Try.ntmps33
  go_wp2
  go_region_held3 (fun wx => wx.cell? ⟨w.heap.size, 3, none⟩ = some (.int .i64 d) ∧ wx.cell? ⟨w.heap.size, 4, none⟩ = some (.string s))
    (first | go_keep)
    (first
      | (go_at_call 18; (first | refine (p2_get1 HP hdw).mono ?_ | refine (p2_get1 (Hid.mk' (HP.out.drewN _)) hdw).mono ?_); clear HP; rintro e w2 ⟨rfl, HP, x1, x2⟩)
      | (go_at_call 41; (first | refine (p2_get2 HP).mono ?_ | refine (p2_get2 (Hid.mk' (HP.out.drewN _))).mono ?_); clear HP; rintro e w2 ⟨rfl, HP, x1, x2⟩))
  all_goals
    go_wp2
    go_ret
    exact ⟨ret_bool (by simp), HP⟩

set_option maxHeartbeats 4000000 in
set_option maxRecDepth 100000 in
theorem plays_len (w : World) (x bm y : Nat) (S : List Rw) (h : PlIn w x bm y S) (a b d : Int) (s : ByteArray) (i : Int) :
    Calls Try.prog 33 #[.pointer (some ⟨x, 0, none⟩), .pointer (some ⟨y, 0, none⟩), .agg #[.int .i64 4, .int .i64 a, .int .i64 b, .int .i64 d, .string s, .int .i64 i]] w fun e w' => e = .returned (.bool true) ∧ Hid (P2 w w' x bm y S S w.heap.size ⟨4, a, b, d, s, i⟩) := by
  obtain ⟨D, ht⟩ := h.ix.tie
  have HP : Hid (P2 w (w.alloc (.cells #[.int .i64 4, .int .i64 a, .int .i64 b, .int .i64 d, .string s, .int .i64 i] 39)) x bm y S S w.heap.size ⟨4, a, b, d, s, i⟩) := pl_start h ht.rise ⟨4, a, b, d, s, i⟩
  have HL : Hid (S.length < 3300000000000) := h.few
  obtain ⟨c3, c4, c5⟩ := HP.out.cells
  clear h ht
  go_enter Try.func33, Try.ntmps33
  go_wp2
  go_region_held3 (fun wx => wx.cell? ⟨w.heap.size, 3, none⟩ = some (.int .i64 d))
    (first | go_keep)
    (first
      | (go_at_call 15; (first | refine (p2_len1 HP).mono ?_ | refine (p2_len1 (Hid.mk' (HP.out.drewN _))).mono ?_); clear HP; rintro e w2 ⟨rfl, HP, x1⟩)
      | (go_at_call 42; (first | refine (p2_len2 HP).mono ?_ | refine (p2_len2 (Hid.mk' (HP.out.drewN _))).mono ?_); clear HP; rintro e w2 ⟨rfl, HP, x1⟩))
  all_goals
    go_wp2
    go_ret
    exact ⟨ret_bool (by simp), HP⟩

set_option maxHeartbeats 4000000 in
set_option maxRecDepth 100000 in
theorem plays_links (w : World) (x bm y : Nat) (S : List Rw) (h : PlIn w x bm y S) (a b d : Int) (s : ByteArray) (i : Int) :
    Calls Try.prog 33 #[.pointer (some ⟨x, 0, none⟩), .pointer (some ⟨y, 0, none⟩), .agg #[.int .i64 5, .int .i64 a, .int .i64 b, .int .i64 d, .string s, .int .i64 i]] w fun e w' => e = .returned (.bool true) ∧ Hid (P2 w w' x bm y S S w.heap.size ⟨5, a, b, d, s, i⟩) := by
  obtain ⟨D, ht⟩ := h.ix.tie
  have HP : Hid (P2 w (w.alloc (.cells #[.int .i64 5, .int .i64 a, .int .i64 b, .int .i64 d, .string s, .int .i64 i] 39)) x bm y S S w.heap.size ⟨5, a, b, d, s, i⟩) := pl_start h ht.rise ⟨5, a, b, d, s, i⟩
  have HL : Hid (S.length < 3300000000000) := h.few
  obtain ⟨c3, c4, c5⟩ := HP.out.cells
  clear h ht
  go_enter Try.func33, Try.ntmps33
  go_wp2
  go_region_held3 (fun wx => wx.cell? ⟨w.heap.size, 5, none⟩ = some (.int .i64 i))
    (first | go_keep)
    (first
      | (go_at_call 17; (first | refine (p2_links1 HP).mono ?_ | refine (p2_links1 (Hid.mk' (HP.out.drewN _))).mono ?_); clear HP; rintro e w2 ⟨rfl, HP, x1⟩)
      | (go_at_call 43; (first | refine (p2_links2 HP).mono ?_ | refine (p2_links2 (Hid.mk' (HP.out.drewN _))).mono ?_); clear HP; rintro e w2 ⟨rfl, HP, x1⟩))
  all_goals
    go_wp2
    go_ret
    exact ⟨ret_bool (by simp), HP⟩

set_option maxHeartbeats 4000000 in
set_option maxRecDepth 100000 in
theorem plays_list (w : World) (x bm y : Nat) (S : List Rw) (h : PlIn w x bm y S) (a b d : Int) (s : ByteArray) (i : Int) :
    Calls Try.prog 33 #[.pointer (some ⟨x, 0, none⟩), .pointer (some ⟨y, 0, none⟩), .agg #[.int .i64 6, .int .i64 a, .int .i64 b, .int .i64 d, .string s, .int .i64 i]] w fun e w' => e = .returned (.bool true) ∧ Hid (P2 w w' x bm y S S w.heap.size ⟨6, a, b, d, s, i⟩) := by
  obtain ⟨D, ht⟩ := h.ix.tie
  have HP : Hid (P2 w (w.alloc (.cells #[.int .i64 6, .int .i64 a, .int .i64 b, .int .i64 d, .string s, .int .i64 i] 39)) x bm y S S w.heap.size ⟨6, a, b, d, s, i⟩) := pl_start h ht.rise ⟨6, a, b, d, s, i⟩
  have HL : Hid (S.length < 3300000000000) := h.few
  have hLL : (lstS S d).length < 4000000000000 := by rw [lst_len]; have := filt_le S (inDir d); have := h.few; omega
  obtain ⟨c3, c4, c5⟩ := HP.out.cells
  clear h ht
  go_enter Try.func33, Try.ntmps33
  go_wp2
  go_region_held3 (fun wx => wx.cell? ⟨w.heap.size, 3, none⟩ = some (.int .i64 d))
    (first | go_keep)
    (first
      | (go_at_call 16; refine (p2_same HP D1 D2 hLL true (by simp)).mono ?_; clear HP D1 D2; rintro e w2 ⟨rfl, HP, x1⟩)
      | (go_at_call 12; (first | refine (p2_list1 HP).mono ?_ | refine (p2_list1 (Hid.mk' (HP.out.drewN _))).mono ?_); clear HP; rintro e w2 ⟨v1, rfl, HP, D1, x1⟩)
      | (go_at_call 44; refine (p2_list2 HP D1).mono ?_; clear HP D1; rintro e w2 ⟨p2, q2, rfl, HP, D2, D1, x1⟩))
  all_goals
    go_wp2
    go_ret
    exact ⟨ret_bool (by simp), HP⟩

end Go.Proofs.Ytendmohjodeelab
