import Derived.Test.YtdlhdompemkjfaaGreatDoorK12
namespace Go.Proofs.YtdlhdompemkjfaaGreatDoor
open Go.RowKit Go.Maps
set_option maxRecDepth 100000

def strs (l : List ByteArray) : List Value := l.map Value.string
theorem info9 : (Tryz.prog.info? 9).map (fun i => (i.zero, i.size, i.bytes)) = some (some (.string ⟨#[]⟩), 1, 16) := by kernel_rfl
/-- A list of texts of one's own, new since w. -/
def SR (w W : World) (v : Value) (l : List ByteArray) : Prop := W.ownsRow w.heap.size 9 1 v l.length (strs l) ∧ Keeps (fun _ => False) w W
theorem SR.nil (w : World) : SR w w (.slice none 0 0) [] := ⟨World.ownsRow_nil _ _ _ _, Keeps.refl _ _⟩
theorem SR.keep {w A B : World} {v : Value} {l : List ByteArray} (h : SR w A v l) (k : Keeps (fun _ => False) A B) : SR w B v l := ⟨own_grow h.1 k, h.2.trans k⟩
theorem wpList_apps {ops : Array Oper} {rest : List Oper} {o : Oper} {a : Act} {Q : Exit → Act → World → Prop} (hgd : o.guard = none) (s x : Operand)
    (ho : o.op = .call { callee := .builtin .append, args := #[s, x], argTypes := #[55, 55] }) (w W : World) (v : Value) (l : List ByteArray) (hs : a.eval s = v) (h : SR w W v l) (t : ByteArray)
    (hx : a.eval x = .slice (some ⟨W.heap.size, 0, none⟩) 1 1) (hl : l.length ≤ 1000000000)
    (K : ∀ v' W', SR w W' v' (l ++ [t]) → wpList Tryz.prog ops Q rest (a.put o.dst v') W') : wpList Tryz.prog ops Q (o :: rest) a (W.alloc (.cells #[.string t] 9)) := by
  obtain ⟨i0, hi, hz0, hz1, hz2⟩ := info_parts info9
  refine wpList_append_own_at _ hgd s x 55 ho w.heap.size 9 i0 (.string ⟨#[]⟩) 1 16 Tryz.underlying55 hi hz0 hz1 hz2 rfl (by decide) v l.length (strs l) hs (h.1.alloc _) ⟨W.heap.size, 0, none⟩ 1 1 [.string t] hx rfl (cell_one_new _ _ _) (by simp [Value.oneCell']) (by unfold maxLen; omega) (by omega) (by rw [World.size_alloc]; have := h.2.size; omega) ?_
  intro v' W' hown hgr _ _
  refine K v' W' ⟨?_, ?_⟩
  · have : strs (l ++ [t]) = strs l ++ [.string t] := by simp [strs]
    rw [this, List.length_append]; exact hown
  · exact (h.2.alloc _).step hgr (fun k hk => Or.inr ((h.1.lt k hk).1))
def nums10 (l : List Int) : List ByteArray := l.map fun n => mkB (Lib.itoa n)
theorem ints_get {l : List Int} {k : Nat} {n : Int} (h : l[k]? = some n) : (ints l)[k]? = some (.int .i64 n) := by
  simp [ints, h]
def OkI (l : List Int) : Prop := ∀ n ∈ l, -9223372036854775808 ≤ n ∧ n ≤ 9223372036854775807

set_option maxHeartbeats 2000000 in
theorem numerals_any (w : World) (hv : Vars w) (vl : Value) (l : List Int) (hr : Row w vl l.length (ints l)) (hl : l.length ≤ 1000000) (ho : OkI l) :
    Calls Tryz.prog 76 #[vl] w fun e w' => ∃ v, e = .returned v ∧ Hid (SR w w' v (nums10 l)) := by
  obtain ⟨p, c, rfl, hc, _⟩ := id hr
  have HR := Hid.mk' hr
  have HV := Hid.mk' hv
  have HO := Hid.mk' ho
  have HN := Hid.mk' (SR.nil w)
  clear hr hv ho
  go_enter Tryz.func76, Tryz.ntmps76
  go_wp2
  clear HN
  go_loopw [3, 8] (fun v i wr => ∃ k : Nat, k ≤ l.length ∧ i = .int .i64 k ∧ Hid (SR w wr v (nums10 (l.take k)))) (fun _ i _ => l.length - (intOf i).toNat)
  case atStart => exact ⟨0, Nat.zero_le _, rfl, SR.nil w⟩
  case round =>
    obtain ⟨k, hk, rfl, HB⟩ := hrel
    by_cases h1 : k < l.length
    · have h1' : (k : Int) < (l.length : Int) := by omega
      obtain ⟨n, hn⟩ : ∃ n, l[k]? = some n := ⟨l[k], by simp [h1]⟩
      obtain ⟨p', c', hpc, _, hcell⟩ := HR.out.keep HB.out.2
      injection hpc with e1 e2 e3
      subst e1
      obtain ⟨b, o, hp, hb, hc2⟩ := hcell (by omega)
      subst hp
      have hld := hc2 k _ (ints_get hn)
      have hbn := HO.out n (List.mem_of_getElem? hn)
      have HT : Hid (nums10 (l.take (k + 1)) = nums10 (l.take k) ++ [mkB (Lib.itoa n)]) := by
        show _ = _
        rw [List.take_add_one, hn]; simp [nums10]
      have HL : Hid ((nums10 (l.take k)).length ≤ 1000000) := by show _ ≤ _; simp [nums10]; omega
      clear hc2 hb hcell e2 e3 hn
      go_wp2_with (first
        | (go_at_call 98; refine (Tryz.strconv_Itoa n hbn.1 hbn.2 wr (HV.out.keep HB.out.2).tab).mono ?_; rintro e w2 ⟨rfl, hw2⟩; have HK2 : Hid (Keeps (fun _ => False) wr w2) := by (obtain ⟨k, os, rfl⟩ := hw2; exact Keeps.grow _ _ _)
           clear hw2; rw [itoa_str])
        | (at_builtin; go_must (refine wpList_apps rfl _ _ rfl w w2 u3 _ (by rfl) (HB.out.keep HK2.out) (mkB (Lib.itoa n)) (by rfl) (by have := HL.out; omega) ?_); intro v2 W2 hO; have HO2 := Hid.mk' hO; clear hO))
      go_roundw
      case rel => exact ⟨k + 1, by omega, by go_num, by rw [HT.out]; exact HO2.out⟩
      case measure => simp [intOf]; omega
    · have h1' : ¬ (k : Int) < (l.length : Int) := by omega
      have HE : Hid (l.take k = l) := List.take_of_length_le (by omega)
      go_wp2
      try rw [Exit.noGoto_ret]
      refine bodyPost_ret (v := u3) (by simp [results, Tryz.results76, go_sem]) rfl ?_
      exact ⟨_, rfl, by have := HB.out; rw [HE.out] at this; exact this⟩
end Go.Proofs.YtdlhdompemkjfaaGreatDoor

namespace Go.Proofs.YtdlhdompemkjfaaGreatDoor
open Go.RowKit Go.Maps
set_option maxRecDepth 100000

/-! What the arguments tell of a step. -/
def tlF (c : Ar) (t : St) : List ByteArray := match c with
  | .A => [mkB (quo t.a.data.toList)]
  | .B => [mkB (quo t.b.data.toList)]
  | .N => nums10 [t.n]
  | .M => nums10 [t.m]
  | .K => nums10 [t.k]
  | .L => nums10 t.l
/-- A step that the program holds: its numbers are Go's, its texts and its list are no longer than what is read. -/
structure OkS (t : St) : Prop where
  a : t.a.size ≤ 1000000
  b : t.b.size ≤ 1000000
  n : -9223372036854775808 ≤ t.n ∧ t.n ≤ 9223372036854775807
  m : -9223372036854775808 ≤ t.m ∧ t.m ≤ 9223372036854775807
  k : -9223372036854775808 ≤ t.k ∧ t.k ≤ 9223372036854775807
  l : t.l.length ≤ 1000000
  o : OkI t.l
theorem SR.one {w W : World} (k : Keeps (fun _ => False) w W) (x : ByteArray) : SR w (W.alloc (.cells #[.string x] 9)) (.slice (some ⟨W.heap.size, 0, none⟩) 1 1) [x] :=
  ⟨World.ownsRow_lit W #[.string x] 1 k.size (by decide) rfl, k.alloc _⟩
theorem SR.from {w W W' : World} {v : Value} {l : List ByteArray} (h : SR W W' v l) (k : Keeps (fun _ => False) w W) : SR w W' v l := ⟨own_base h.1 k.size, k.trans h.2⟩
theorem row_one (W : World) (n : Int) : Row (W.alloc (.cells #[.int .i64 n] 3)) (.slice (some ⟨W.heap.size, 0, none⟩) 1 1) [n].length (ints [n]) :=
  Row.of_own (World.ownsRow_lit (base := 0) (size := 1) W #[.int .i64 n] 1 (Nat.zero_le _) (by decide) rfl)
theorem okI_one {n : Int} (h : -9223372036854775808 ≤ n ∧ n ≤ 9223372036854775807) : OkI [n] := by
  intro x hx; rw [List.mem_singleton] at hx; subst hx; exact h

set_option maxHeartbeats 2000000 in
theorem tellA_any (w : World) (_hv : Vars w) (t : St) (v : Value) (hr : Row w v t.l.length (ints t.l)) (ho : OkS t) :
    Calls Tryz.prog 69 #[.agg (scell t v)] w fun e w' => ∃ v', e = .returned v' ∧ Hid (SR w w' v' (tlF .A t)) := by
  have hq := fun w => quote_any w t.a ho.a
  obtain ⟨p, c, rfl, _, _⟩ := id hr
  have HK0 := Hid.mk' ((Keeps.refl (fun _ => False) w).alloc (.cells (scell t (.slice p t.l.length c)) 24))
  clear hr
  unfold scell at HK0
  unfold scell
  go_enter Tryz.func69, Tryz.ntmps69
  go_wp2_with (first | (go_at_call 70; refine (hq _).mono ?_; clear hq; rintro e w1 ⟨rfl, hk1⟩; have HK1 := Hid.mk' hk1; clear hk1))
  go_ret
  exact ⟨_, rfl, SR.one (HK0.out.trans HK1.out) _⟩
set_option maxHeartbeats 2000000 in
theorem tellB_any (w : World) (_hv : Vars w) (t : St) (v : Value) (hr : Row w v t.l.length (ints t.l)) (ho : OkS t) :
    Calls Tryz.prog 72 #[.agg (scell t v)] w fun e w' => ∃ v', e = .returned v' ∧ Hid (SR w w' v' (tlF .B t)) := by
  have hq := fun w => quote_any w t.b ho.b
  obtain ⟨p, c, rfl, _, _⟩ := id hr
  have HK0 := Hid.mk' ((Keeps.refl (fun _ => False) w).alloc (.cells (scell t (.slice p t.l.length c)) 24))
  clear hr
  unfold scell at HK0
  unfold scell
  go_enter Tryz.func72, Tryz.ntmps72
  go_wp2_with (first | (go_at_call 70; refine (hq _).mono ?_; clear hq; rintro e w1 ⟨rfl, hk1⟩; have HK1 := Hid.mk' hk1; clear hk1))
  go_ret
  exact ⟨_, rfl, SR.one (HK0.out.trans HK1.out) _⟩
set_option maxHeartbeats 2000000 in
theorem tellN_any (w : World) (hv : Vars w) (t : St) (v : Value) (hr : Row w v t.l.length (ints t.l)) (ho : OkS t) :
    Calls Tryz.prog 75 #[.agg (scell t v)] w fun e w' => ∃ v', e = .returned v' ∧ Hid (SR w w' v' (tlF .N t)) := by
  obtain ⟨p, c, rfl, _, _⟩ := id hr
  have HK0 := Hid.mk' ((Keeps.refl (fun _ => False) w).alloc (.cells (scell t (.slice p t.l.length c)) 24))
  have HN := Hid.mk' ((HK0.out).alloc (.cells #[.int .i64 t.n] 3))
  have HR := Hid.mk' (row_one (w.alloc (.cells (scell t (.slice p t.l.length c)) 24)) t.n)
  have hq := numerals_any _ (hv.keep HN.out) _ [t.n] HR.out (by simp) (okI_one ho.n)
  rw [World.size_alloc] at hq
  unfold scell at HK0 HN hq
  clear HR hr
  unfold scell
  go_enter Tryz.func75, Tryz.ntmps75
  go_wp2_with (first | (go_at_call 76; refine hq.mono ?_; clear hq; rintro e w1 ⟨v1, rfl, h1⟩; have HK1 := Hid.mk' h1; clear h1))
  go_ret
  exact ⟨_, rfl, HK1.out.out.from HN.out⟩
set_option maxHeartbeats 2000000 in
theorem tellM_any (w : World) (hv : Vars w) (t : St) (v : Value) (hr : Row w v t.l.length (ints t.l)) (ho : OkS t) :
    Calls Tryz.prog 78 #[.agg (scell t v)] w fun e w' => ∃ v', e = .returned v' ∧ Hid (SR w w' v' (tlF .M t)) := by
  obtain ⟨p, c, rfl, _, _⟩ := id hr
  have HK0 := Hid.mk' ((Keeps.refl (fun _ => False) w).alloc (.cells (scell t (.slice p t.l.length c)) 24))
  have HN := Hid.mk' ((HK0.out).alloc (.cells #[.int .i64 t.m] 3))
  have HR := Hid.mk' (row_one (w.alloc (.cells (scell t (.slice p t.l.length c)) 24)) t.m)
  have hq := numerals_any _ (hv.keep HN.out) _ [t.m] HR.out (by simp) (okI_one ho.m)
  rw [World.size_alloc] at hq
  unfold scell at HK0 HN hq
  clear HR hr
  unfold scell
  go_enter Tryz.func78, Tryz.ntmps78
  go_wp2_with (first | (go_at_call 76; refine hq.mono ?_; clear hq; rintro e w1 ⟨v1, rfl, h1⟩; have HK1 := Hid.mk' h1; clear h1))
  go_ret
  exact ⟨_, rfl, HK1.out.out.from HN.out⟩
set_option maxHeartbeats 2000000 in
theorem tellK_any (w : World) (hv : Vars w) (t : St) (v : Value) (hr : Row w v t.l.length (ints t.l)) (ho : OkS t) :
    Calls Tryz.prog 80 #[.agg (scell t v)] w fun e w' => ∃ v', e = .returned v' ∧ Hid (SR w w' v' (tlF .K t)) := by
  obtain ⟨p, c, rfl, _, _⟩ := id hr
  have HK0 := Hid.mk' ((Keeps.refl (fun _ => False) w).alloc (.cells (scell t (.slice p t.l.length c)) 24))
  have HN := Hid.mk' ((HK0.out).alloc (.cells #[.int .i64 t.k] 3))
  have HR := Hid.mk' (row_one (w.alloc (.cells (scell t (.slice p t.l.length c)) 24)) t.k)
  have hq := numerals_any _ (hv.keep HN.out) _ [t.k] HR.out (by simp) (okI_one ho.k)
  rw [World.size_alloc] at hq
  unfold scell at HK0 HN hq
  clear HR hr
  unfold scell
  go_enter Tryz.func80, Tryz.ntmps80
  go_wp2_with (first | (go_at_call 76; refine hq.mono ?_; clear hq; rintro e w1 ⟨v1, rfl, h1⟩; have HK1 := Hid.mk' h1; clear h1))
  go_ret
  exact ⟨_, rfl, HK1.out.out.from HN.out⟩
set_option maxHeartbeats 2000000 in
theorem tellL_any (w : World) (hv : Vars w) (t : St) (v : Value) (hr : Row w v t.l.length (ints t.l)) (ho : OkS t) :
    Calls Tryz.prog 82 #[.agg (scell t v)] w fun e w' => ∃ v', e = .returned v' ∧ Hid (SR w w' v' (tlF .L t)) := by
  obtain ⟨p, c, rfl, _, _⟩ := id hr
  have HK0 := Hid.mk' ((Keeps.refl (fun _ => False) w).alloc (.cells (scell t (.slice p t.l.length c)) 24))
  have hq := numerals_any _ (hv.keep HK0.out) (.slice p t.l.length c) t.l (hr.keep HK0.out) ho.l ho.o
  clear hr
  unfold scell at HK0 hq
  unfold scell
  go_enter Tryz.func82, Tryz.ntmps82
  go_wp2_with (first | (go_at_call 76; refine hq.mono ?_; clear hq; rintro e w1 ⟨v1, rfl, h1⟩; have HK1 := Hid.mk' h1; clear h1))
  go_ret
  exact ⟨_, rfl, HK1.out.out.from HK0.out⟩
end Go.Proofs.YtdlhdompemkjfaaGreatDoor

namespace Go.Proofs.YtdlhdompemkjfaaGreatDoor
open Go.RowKit Go.Maps
set_option maxRecDepth 100000

/-! Two steps held against each other. -/
theorem row_ints {w : World} {p : Option Addr} {c : Nat} {xs : List Int} (hr : Row w (.slice p xs.length c) xs.length (ints xs)) (h : 0 < xs.length) : ∃ b o, p = some ⟨b, o, none⟩ ∧ ∀ j, j < xs.length → w.cell? ⟨b, o + j, none⟩ = some (.int .i64 (xs.getD j 0)) := by
  obtain ⟨p', c', hpc, _, hcell⟩ := hr
  injection hpc with e1 e2 e3
  subst e1
  obtain ⟨b, o, hp, _, hc⟩ := hcell h
  refine ⟨b, o, hp, fun j hj => hc j _ (ints_get ?_)⟩
  simp [List.getD_eq_getElem?_getD, hj]
theorem equal_any (w : World) (p p2 : Option Addr) (c c2 : Nat) (xs ys : List Int) (hr : Row w (.slice p xs.length c) xs.length (ints xs)) (hz : Row w (.slice p2 ys.length c2) ys.length (ints ys)) (hx : xs.length ≤ 1000000) (hy : ys.length ≤ 1000000) :
    Calls Tryz.prog 36 #[.slice p xs.length c, .slice p2 ys.length c2] w fun e w' => e = .returned (.bool (xs == ys)) ∧ Keeps (fun _ => False) w w' := by
  by_cases hn : xs.length = ys.length
  · by_cases h0 : xs.length = 0
    · have e1 : xs = [] := List.length_eq_zero_iff.1 h0
      have e2 : ys = [] := List.length_eq_zero_iff.1 (by omega)
      subst e1 e2
      refine (Tryz.slices_Equal_int_empty p p2 c 0 c2 w (by omega)).mono ?_
      rintro e w' ⟨rfl, rfl⟩
      exact ⟨rfl, Keeps.refl _ _⟩
    · obtain ⟨b, o, rfl, h1⟩ := row_ints hr (by omega)
      obtain ⟨b2, o2, rfl, h2⟩ := row_ints hz (by omega)
      refine (Tryz.slices_Equal_int b o xs.length c b2 o2 ys.length c2 xs ys w (Nat.le_refl _) (Nat.le_refl _) (by omega) (by omega) h1 h2).mono ?_
      rintro e w' ⟨rfl, q, rfl⟩
      rw [List.take_length, List.take_length]
      exact ⟨rfl, Keeps.drewN _ _ _⟩
  · refine (Tryz.slices_Equal_int_lens p p2 xs.length c ys.length c2 w hn).mono ?_
    rintro e w' ⟨rfl, rfl⟩
    refine ⟨?_, Keeps.refl _ _⟩
    have : (xs == ys) = false := beq_eq_false_iff_ne.2 (fun h => hn (by rw [h]))
    rw [this]
/-- Whether two steps are one. -/
def smF (t u : St) : Bool := t.kind == u.kind && (t.a.toList == u.a.toList && (t.b.toList == u.b.toList && (t.n == u.n && (t.m == u.m && (t.k == u.k && t.l == u.l)))))
set_option maxHeartbeats 4000000 in
theorem same_any (w : World) (t u : St) (v z : Value) (hr : Row w v t.l.length (ints t.l)) (hz : Row w z u.l.length (ints u.l)) (ht : t.l.length ≤ 1000000) (hu : u.l.length ≤ 1000000) :
    Calls Tryz.prog 19 #[.agg (scell t v), .agg (scell u z)] w fun e w' => e = .returned (.bool (smF t u)) ∧ Keeps (fun _ => False) w w' := by
  obtain ⟨p, c, rfl, _, _⟩ := id hr
  obtain ⟨p2, c2, rfl, _, _⟩ := id hz
  have HK0 := Hid.mk' (((Keeps.refl (fun _ => False) w).alloc (.cells (scell t (.slice p t.l.length c)) 24)).alloc (.cells (scell u (.slice p2 u.l.length c2)) 24))
  have hq := equal_any _ p p2 c c2 t.l u.l (hr.keep HK0.out) (hz.keep HK0.out) ht hu
  clear hr hz
  unfold scell at HK0 hq
  unfold scell
  unfold smF
  rcases Bool.eq_false_or_eq_true (t.kind == u.kind) with h0 | h0
  case inr =>
    rw [h0]
    clear hq
    go_enter Tryz.func19, Tryz.ntmps19
    go_wp2
    go_ret
    exact ⟨rfl, HK0.out⟩
  rcases Bool.eq_false_or_eq_true (t.a.toList == u.a.toList) with h1 | h1
  case inr =>
    rw [h0, h1]
    clear hq
    go_enter Tryz.func19, Tryz.ntmps19
    go_wp2
    go_ret
    exact ⟨rfl, HK0.out⟩
  rcases Bool.eq_false_or_eq_true (t.b.toList == u.b.toList) with h2 | h2
  case inr =>
    rw [h0, h1, h2]
    clear hq
    go_enter Tryz.func19, Tryz.ntmps19
    go_wp2
    go_ret
    exact ⟨rfl, HK0.out⟩
  rcases Bool.eq_false_or_eq_true (t.n == u.n) with h3 | h3
  case inr =>
    rw [h0, h1, h2, h3]
    clear hq
    go_enter Tryz.func19, Tryz.ntmps19
    go_wp2
    go_ret
    exact ⟨rfl, HK0.out⟩
  rcases Bool.eq_false_or_eq_true (t.m == u.m) with h4 | h4
  case inr =>
    rw [h0, h1, h2, h3, h4]
    clear hq
    go_enter Tryz.func19, Tryz.ntmps19
    go_wp2
    go_ret
    exact ⟨rfl, HK0.out⟩
  rcases Bool.eq_false_or_eq_true (t.k == u.k) with h5 | h5
  case inr =>
    rw [h0, h1, h2, h3, h4, h5]
    clear hq
    go_enter Tryz.func19, Tryz.ntmps19
    go_wp2
    go_ret
    exact ⟨rfl, HK0.out⟩
  rw [h0, h1, h2, h3, h4, h5]
  simp only [Bool.true_and]
  generalize (t.l == u.l) = Z at *
  go_enter Tryz.func19, Tryz.ntmps19
  go_wp2_with (first | (go_at_call 36; refine hq.mono ?_; clear hq; rintro e w1 ⟨rfl, hk1⟩; have HK1 := Hid.mk' hk1; clear hk1))
  go_ret
  exact ⟨rfl, HK0.out.trans HK1.out⟩
end Go.Proofs.YtdlhdompemkjfaaGreatDoor
