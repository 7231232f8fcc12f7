import Derived.Test.YtngoifbflpeapacGreatDoorH1
namespace Go.Proofs.YtngoifbflpeapacGreatDoor
open Go.RowKit Go.Maps
set_option maxRecDepth 100000

/-! What the arguments tell of a step. -/
def tlF (c : Ar) (t : St) : List ByteArray := match c with
  | .A => [mkB (quo t.a.data.toList)]
  | .B => [mkB (quo t.b.data.toList)]
  | .N => nums10 [t.n]
  | .M => nums10 [t.m]
  | .K => nums10 [t.k]
  | .L => nums10 t.l
/-- A step that the program holds: its numbers are Go's, its texts and its list are no longer than what is read. -/
structure OkS (t : St) : Prop where
  a : t.a.size ≤ 1000000
  b : t.b.size ≤ 1000000
  n : -9223372036854775808 ≤ t.n ∧ t.n ≤ 9223372036854775807
  m : -9223372036854775808 ≤ t.m ∧ t.m ≤ 9223372036854775807
  k : -9223372036854775808 ≤ t.k ∧ t.k ≤ 9223372036854775807
  l : t.l.length ≤ 1000000
  o : OkI t.l
theorem SR.one {w W : World} (k : Keeps (fun _ => False) w W) (x : ByteArray) : SR w (W.alloc (.cells #[.string x] 9)) (.slice (some ⟨W.heap.size, 0, none⟩) 1 1) [x] :=
  ⟨World.ownsRow_lit W #[.string x] 1 k.size (by decide) rfl, k.alloc _⟩
theorem SR.from {w W W' : World} {v : Value} {l : List ByteArray} (h : SR W W' v l) (k : Keeps (fun _ => False) w W) : SR w W' v l := ⟨own_base h.1 k.size, k.trans h.2⟩
theorem row_one (W : World) (n : Int) : Row (W.alloc (.cells #[.int .i64 n] 3)) (.slice (some ⟨W.heap.size, 0, none⟩) 1 1) [n].length (ints [n]) :=
  Row.of_own (World.ownsRow_lit (base := 0) (size := 1) W #[.int .i64 n] 1 (Nat.zero_le _) (by decide) rfl)
theorem okI_one {n : Int} (h : -9223372036854775808 ≤ n ∧ n ≤ 9223372036854775807) : OkI [n] := by
  intro x hx; rw [List.mem_singleton] at hx; subst hx; exact h

set_option maxHeartbeats 2000000 in
theorem tellA_any (w : World) (_hv : Vars w) (t : St) (v : Value) (hr : Row w v t.l.length (ints t.l)) (ho : OkS t) :
    Calls Tryz.prog 69 #[.agg (scell t v)] w fun e w' => ∃ v', e = .returned v' ∧ Hid (SR w w' v' (tlF .A t)) := by
  have hq := fun w => quote_any w t.a ho.a
  obtain ⟨p, c, rfl, _, _⟩ := id hr
  have HK0 := Hid.mk' ((Keeps.refl (fun _ => False) w).alloc (.cells (scell t (.slice p t.l.length c)) 25))
  clear hr
  unfold scell at HK0
  unfold scell
  go_enter Tryz.func69, Tryz.ntmps69
  go_wp2_with (first | (go_at_call 70; refine (hq _).mono ?_; clear hq; rintro e w1 ⟨rfl, hk1⟩; have HK1 := Hid.mk' hk1; clear hk1))
  go_ret
  exact ⟨_, rfl, SR.one (HK0.out.trans HK1.out) _⟩
set_option maxHeartbeats 2000000 in
theorem tellB_any (w : World) (_hv : Vars w) (t : St) (v : Value) (hr : Row w v t.l.length (ints t.l)) (ho : OkS t) :
    Calls Tryz.prog 72 #[.agg (scell t v)] w fun e w' => ∃ v', e = .returned v' ∧ Hid (SR w w' v' (tlF .B t)) := by
  have hq := fun w => quote_any w t.b ho.b
  obtain ⟨p, c, rfl, _, _⟩ := id hr
  have HK0 := Hid.mk' ((Keeps.refl (fun _ => False) w).alloc (.cells (scell t (.slice p t.l.length c)) 25))
  clear hr
  unfold scell at HK0
  unfold scell
  go_enter Tryz.func72, Tryz.ntmps72
  go_wp2_with (first | (go_at_call 70; refine (hq _).mono ?_; clear hq; rintro e w1 ⟨rfl, hk1⟩; have HK1 := Hid.mk' hk1; clear hk1))
  go_ret
  exact ⟨_, rfl, SR.one (HK0.out.trans HK1.out) _⟩
set_option maxHeartbeats 2000000 in
theorem tellN_any (w : World) (hv : Vars w) (t : St) (v : Value) (hr : Row w v t.l.length (ints t.l)) (ho : OkS t) :
    Calls Tryz.prog 75 #[.agg (scell t v)] w fun e w' => ∃ v', e = .returned v' ∧ Hid (SR w w' v' (tlF .N t)) := by
  obtain ⟨p, c, rfl, _, _⟩ := id hr
  have HK0 := Hid.mk' ((Keeps.refl (fun _ => False) w).alloc (.cells (scell t (.slice p t.l.length c)) 25))
  have HN := Hid.mk' ((HK0.out).alloc (.cells #[.int .i64 t.n] 3))
  have HR := Hid.mk' (row_one (w.alloc (.cells (scell t (.slice p t.l.length c)) 25)) t.n)
  have hq := numerals_any _ (hv.keep HN.out) _ [t.n] HR.out (by simp) (okI_one ho.n)
  rw [World.size_alloc] at hq
  unfold scell at HK0 HN hq
  clear HR hr
  unfold scell
  go_enter Tryz.func75, Tryz.ntmps75
  go_wp2_with (first | (go_at_call 76; refine hq.mono ?_; clear hq; rintro e w1 ⟨v1, rfl, h1⟩; have HK1 := Hid.mk' h1; clear h1))
  go_ret
  exact ⟨_, rfl, HK1.out.out.from HN.out⟩
set_option maxHeartbeats 2000000 in
theorem tellM_any (w : World) (hv : Vars w) (t : St) (v : Value) (hr : Row w v t.l.length (ints t.l)) (ho : OkS t) :
    Calls Tryz.prog 78 #[.agg (scell t v)] w fun e w' => ∃ v', e = .returned v' ∧ Hid (SR w w' v' (tlF .M t)) := by
  obtain ⟨p, c, rfl, _, _⟩ := id hr
  have HK0 := Hid.mk' ((Keeps.refl (fun _ => False) w).alloc (.cells (scell t (.slice p t.l.length c)) 25))
  have HN := Hid.mk' ((HK0.out).alloc (.cells #[.int .i64 t.m] 3))
  have HR := Hid.mk' (row_one (w.alloc (.cells (scell t (.slice p t.l.length c)) 25)) t.m)
  have hq := numerals_any _ (hv.keep HN.out) _ [t.m] HR.out (by simp) (okI_one ho.m)
  rw [World.size_alloc] at hq
  unfold scell at HK0 HN hq
  clear HR hr
  unfold scell
  go_enter Tryz.func78, Tryz.ntmps78
  go_wp2_with (first | (go_at_call 76; refine hq.mono ?_; clear hq; rintro e w1 ⟨v1, rfl, h1⟩; have HK1 := Hid.mk' h1; clear h1))
  go_ret
  exact ⟨_, rfl, HK1.out.out.from HN.out⟩
set_option maxHeartbeats 2000000 in
theorem tellK_any (w : World) (hv : Vars w) (t : St) (v : Value) (hr : Row w v t.l.length (ints t.l)) (ho : OkS t) :
    Calls Tryz.prog 80 #[.agg (scell t v)] w fun e w' => ∃ v', e = .returned v' ∧ Hid (SR w w' v' (tlF .K t)) := by
  obtain ⟨p, c, rfl, _, _⟩ := id hr
  have HK0 := Hid.mk' ((Keeps.refl (fun _ => False) w).alloc (.cells (scell t (.slice p t.l.length c)) 25))
  have HN := Hid.mk' ((HK0.out).alloc (.cells #[.int .i64 t.k] 3))
  have HR := Hid.mk' (row_one (w.alloc (.cells (scell t (.slice p t.l.length c)) 25)) t.k)
  have hq := numerals_any _ (hv.keep HN.out) _ [t.k] HR.out (by simp) (okI_one ho.k)
  rw [World.size_alloc] at hq
  unfold scell at HK0 HN hq
  clear HR hr
  unfold scell
  go_enter Tryz.func80, Tryz.ntmps80
  go_wp2_with (first | (go_at_call 76; refine hq.mono ?_; clear hq; rintro e w1 ⟨v1, rfl, h1⟩; have HK1 := Hid.mk' h1; clear h1))
  go_ret
  exact ⟨_, rfl, HK1.out.out.from HN.out⟩
set_option maxHeartbeats 2000000 in
theorem tellL_any (w : World) (hv : Vars w) (t : St) (v : Value) (hr : Row w v t.l.length (ints t.l)) (ho : OkS t) :
    Calls Tryz.prog 82 #[.agg (scell t v)] w fun e w' => ∃ v', e = .returned v' ∧ Hid (SR w w' v' (tlF .L t)) := by
  obtain ⟨p, c, rfl, _, _⟩ := id hr
  have HK0 := Hid.mk' ((Keeps.refl (fun _ => False) w).alloc (.cells (scell t (.slice p t.l.length c)) 25))
  have hq := numerals_any _ (hv.keep HK0.out) (.slice p t.l.length c) t.l (hr.keep HK0.out) ho.l ho.o
  clear hr
  unfold scell at HK0 hq
  unfold scell
  go_enter Tryz.func82, Tryz.ntmps82
  go_wp2_with (first | (go_at_call 76; refine hq.mono ?_; clear hq; rintro e w1 ⟨v1, rfl, h1⟩; have HK1 := Hid.mk' h1; clear h1))
  go_ret
  exact ⟨_, rfl, HK1.out.out.from HK0.out⟩
end Go.Proofs.YtngoifbflpeapacGreatDoor

