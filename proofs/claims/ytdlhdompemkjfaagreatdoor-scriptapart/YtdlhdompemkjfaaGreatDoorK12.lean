import Derived.Test.YtdlhdompemkjfaaGreatDoorK11
namespace Go.Proofs.YtdlhdompemkjfaaGreatDoor
open Go.RowKit Go.Maps
set_option maxRecDepth 100000

/-- A step. -/
structure St where
  kind : Int
  a : ByteArray
  b : ByteArray
  n : Int
  m : Int
  k : Int
  l : List Int
def scell (t : St) (v : Value) : Array Value := #[.int .i64 t.kind, .string t.a, .string t.b, .int .i64 t.n, .int .i64 t.m, .int .i64 t.k, v]
def ints (l : List Int) : List Value := l.map (Value.int .i64)
/-- A step in a block of its own. -/
structure SB (base : Nat) (W : World) (b : Nat) (t : St) (v : Value) : Prop where
  box : W.heap[b]? = some (.cells (scell t v) 24 (0, 0))
  row : W.ownsRow base 3 1 v t.l.length (ints t.l)
  le : base ≤ b
def rdF (c : Ar) (t : St) (x : Wd) : St × Bool := match c with
  | .A => ({ t with a := x.text }, true)
  | .B => ({ t with b := x.text }, true)
  | .N => ({ t with n := (num x.text.data.toList).getD 0 }, (num x.text.data.toList).isSome)
  | .M => ({ t with m := (num x.text.data.toList).getD 0 }, (num x.text.data.toList).isSome)
  | .K => ({ t with k := (num x.text.data.toList).getD 0 }, (num x.text.data.toList).isSome)
  | .L => ({ t with l := t.l ++ [(num x.text.data.toList).getD 0] }, (num x.text.data.toList).isSome)
theorem SB.ne {base : Nat} {W : World} {b : Nat} {t : St} {v : Value} (h : SB base W b t v) : ∀ g, v.ownBlock = some g → ¬ g = b := by
  rintro g hg rfl
  rcases h.row.2 with ⟨rfl, _⟩ | ⟨q, cap, cur, rfl, hq, hb, _⟩
  · cases hg
  · cases hg
    rw [h.box] at hb
    injection hb with hb
    injection hb with _ ht _
    exact absurd ht (by decide)
theorem SB.keep {base : Nat} {A B : World} {b : Nat} {t : St} {v : Value} (h : SB base A b t v) (k : Keeps (fun _ => False) A B) : SB base B b t v := ⟨k.at h.box id, own_grow h.row k, h.le⟩
theorem SB.cellA {base : Nat} {W : World} {b : Nat} {t : St} {v : Value} (h : SB base W b t v) (j : Nat) (u : Value) (hj : (scell t v)[j]? = some u) : W.cell? ⟨b, j, none⟩ = some u ∧ W.frozen? ⟨b, j, none⟩ = false := by
  simp only [World.cell?, World.frozen?, h.box]
  exact ⟨hj, by simp⟩
/-- One cell written. -/
theorem SB.set {base : Nat} {W : World} {b : Nat} {t t' : St} {v : Value} (h : SB base W b t v) (j : Nat) (u : Value) (hl : t'.l = t.l) (hc : (scell t v).setIfInBounds j u = scell t' v) : SB base (W.setCell ⟨b, j, none⟩ u) b t' v ∧ Keeps (fun k => base ≤ k) W (W.setCell ⟨b, j, none⟩ u) := by
  have k : Keeps (fun k => k = b) W (W.setCell ⟨b, j, none⟩ u) := Keeps.of (grownBy_setCell _ _ _) (fun k hk => Or.inl (by cases hk; rfl))
  refine ⟨⟨?_, ?_, h.le⟩, k.mono (fun i _ hi => by rw [hi]; exact h.le)⟩
  · have := setCell_block (a := ⟨b, j, none⟩) (v := u) h.box rfl
    rw [hc] at this
    exact this
  · rw [hl]
    exact own_keep h.row k h.ne

theorem info3 : (Tryz.prog.info? 3).map (fun i => (i.zero, i.size, i.bytes)) = some (some (.int .i64 0), 1, 8) := by kernel_rfl
theorem row_ne {base : Nat} {W : World} {b : Nat} {cs : Array Value} {v : Value} {n : Nat} {xs : List Value} (h : W.heap[b]? = some (.cells cs 24 (0, 0))) (hr : W.ownsRow base 3 1 v n xs) : ∀ g, v.ownBlock = some g → ¬ g = b := by
  rintro g hg rfl
  rcases hr.2 with ⟨rfl, _⟩ | ⟨q, cap, cur, rfl, hq, hb, _⟩
  · cases hg
  · cases hg
    rw [h] at hb
    injection hb with hb
    injection hb with _ ht _
    exact absurd ht (by decide)
/-- Behind an append to the step's list: the step's block stands, the new row is one's own. -/
theorem SB.after {base : Nat} {W W2 : World} {b : Nat} {t : St} {v v2 : Value} {n : Nat} {xs : List Value} {o : Obj} (h : SB base W b t v) (hown : W2.ownsRow base 3 1 v2 n xs) (hg : (W.alloc o).grownBy W2 v.ownBlock) :
    (W2.heap[b]? = some (.cells (scell t v) 24 (0, 0)) ∧ W2.ownsRow base 3 1 v2 n xs ∧ base ≤ b) ∧ W2.cell? ⟨b, 6, none⟩ = some v ∧ W2.frozen? ⟨b, 6, none⟩ = false ∧ Keeps (fun k => base ≤ k) W W2 := by
  have k1 : Keeps (fun k => v.ownBlock = some k) (W.alloc o) W2 := Keeps.of hg (fun k hk => Or.inl hk)
  have hb : (W.alloc o).heap[b]? = some (.cells (scell t v) 24 (0, 0)) := ((Keeps.refl (fun _ => False) W).alloc o).at h.box id
  have hb2 := k1.at hb (fun hh => h.ne b hh rfl)
  refine ⟨⟨hb2, hown, h.le⟩, ?_, ?_, ?_⟩
  · simp only [World.cell?, hb2]; rfl
  · simp only [World.frozen?, hb2]; simp
  · exact (((Keeps.refl (fun k => base ≤ k) W).alloc o)).trans (k1.mono (fun k _ hk => (h.row.lt k hk).1))
set_option maxHeartbeats 2000000 in
theorem readA_any (base : Nat) (W : World) (_hv : Vars W) (b : Nat) (t : St) (v : Value) (h : SB base W b t v) (x : Wd) (_hx : x.text.size ≤ 1000000) :
    Calls Tryz.prog 68 #[.pointer (some ⟨b, 0, none⟩), .agg (wcell x)] W fun e W' => e = .returned (.bool (rdF .A t x).2) ∧ ∃ v', Hid (SB base W' b (rdF .A t x).1 v' ∧ Keeps (fun k => base ≤ k) W W') := by
  have HK0 := Hid.mk' ((Keeps.refl (fun k => base ≤ k) W).alloc (.cells (wcell x) 92))
  have HS := Hid.mk' (h.keep ((Keeps.refl (fun _ => False) W).alloc (.cells (wcell x) 92)))
  obtain ⟨c1, f1⟩ := HS.out.cellA 1 (.string t.a) rfl
  unfold wcell at c1 f1
  unfold wcell
  go_enter Tryz.func68, Tryz.ntmps68
  go_wp2
  go_ret
  have hs := HS.out.set (t' := (rdF .A t x).1) 1 (.string x.text) rfl rfl
  exact ⟨rfl, v, hs.1, HK0.out.trans hs.2⟩
set_option maxHeartbeats 2000000 in
theorem readB_any (base : Nat) (W : World) (_hv : Vars W) (b : Nat) (t : St) (v : Value) (h : SB base W b t v) (x : Wd) (_hx : x.text.size ≤ 1000000) :
    Calls Tryz.prog 71 #[.pointer (some ⟨b, 0, none⟩), .agg (wcell x)] W fun e W' => e = .returned (.bool (rdF .B t x).2) ∧ ∃ v', Hid (SB base W' b (rdF .B t x).1 v' ∧ Keeps (fun k => base ≤ k) W W') := by
  have HK0 := Hid.mk' ((Keeps.refl (fun k => base ≤ k) W).alloc (.cells (wcell x) 92))
  have HS := Hid.mk' (h.keep ((Keeps.refl (fun _ => False) W).alloc (.cells (wcell x) 92)))
  obtain ⟨c1, f1⟩ := HS.out.cellA 2 (.string t.b) rfl
  unfold wcell at c1 f1
  unfold wcell
  go_enter Tryz.func71, Tryz.ntmps71
  go_wp2
  go_ret
  have hs := HS.out.set (t' := (rdF .B t x).1) 2 (.string x.text) rfl rfl
  exact ⟨rfl, v, hs.1, HK0.out.trans hs.2⟩
set_option maxHeartbeats 2000000 in
theorem readN_any (base : Nat) (W : World) (hv : Vars W) (b : Nat) (t : St) (v : Value) (h : SB base W b t v) (x : Wd) (hx : x.text.size ≤ 1000000) :
    Calls Tryz.prog 73 #[.pointer (some ⟨b, 0, none⟩), .agg (wcell x)] W fun e W' => e = .returned (.bool (rdF .N t x).2) ∧ ∃ v', Hid (SB base W' b (rdF .N t x).1 v' ∧ Keeps (fun k => base ≤ k) W W') := by
  have HK0 := Hid.mk' ((Keeps.refl (fun _ => False) W).alloc (.cells (wcell x) 92))
  have HS := Hid.mk' (h.keep HK0.out)
  have HV := Hid.mk' (hv.keep HK0.out)
  have h69 := fun w (h : Vars w) => number_any w h x.text hx
  unfold rdF
  generalize num x.text.data.toList = Z at *
  unfold wcell
  go_enter Tryz.func73, Tryz.ntmps73
  go_wp2_with (first | (go_at_call 74; refine (h69 _ HV.out).mono ?_; clear h69; rintro e w1 ⟨rfl, hk1⟩; have HS1 := Hid.mk' (HS.out.keep hk1); have HK1 := Hid.mk' (HK0.out.trans hk1); obtain ⟨c1, f1⟩ := HS1.out.cellA 3 (.int .i64 t.n) rfl; clear hk1))
  go_ret
  have hs := HS1.out.set (t' := { t with n := Z.getD 0 }) 3 (.int .i64 (Z.getD 0)) rfl rfl
  exact ⟨rfl, v, hs.1, (HK1.out.mono (fun _ _ h => h.elim)).trans hs.2⟩
set_option maxHeartbeats 2000000 in
theorem readM_any (base : Nat) (W : World) (hv : Vars W) (b : Nat) (t : St) (v : Value) (h : SB base W b t v) (x : Wd) (hx : x.text.size ≤ 1000000) :
    Calls Tryz.prog 77 #[.pointer (some ⟨b, 0, none⟩), .agg (wcell x)] W fun e W' => e = .returned (.bool (rdF .M t x).2) ∧ ∃ v', Hid (SB base W' b (rdF .M t x).1 v' ∧ Keeps (fun k => base ≤ k) W W') := by
  have HK0 := Hid.mk' ((Keeps.refl (fun _ => False) W).alloc (.cells (wcell x) 92))
  have HS := Hid.mk' (h.keep HK0.out)
  have HV := Hid.mk' (hv.keep HK0.out)
  have h69 := fun w (h : Vars w) => number_any w h x.text hx
  unfold rdF
  generalize num x.text.data.toList = Z at *
  unfold wcell
  go_enter Tryz.func77, Tryz.ntmps77
  go_wp2_with (first | (go_at_call 74; refine (h69 _ HV.out).mono ?_; clear h69; rintro e w1 ⟨rfl, hk1⟩; have HS1 := Hid.mk' (HS.out.keep hk1); have HK1 := Hid.mk' (HK0.out.trans hk1); obtain ⟨c1, f1⟩ := HS1.out.cellA 4 (.int .i64 t.m) rfl; clear hk1))
  go_ret
  have hs := HS1.out.set (t' := { t with m := Z.getD 0 }) 4 (.int .i64 (Z.getD 0)) rfl rfl
  exact ⟨rfl, v, hs.1, (HK1.out.mono (fun _ _ h => h.elim)).trans hs.2⟩
set_option maxHeartbeats 2000000 in
theorem readK_any (base : Nat) (W : World) (hv : Vars W) (b : Nat) (t : St) (v : Value) (h : SB base W b t v) (x : Wd) (hx : x.text.size ≤ 1000000) :
    Calls Tryz.prog 79 #[.pointer (some ⟨b, 0, none⟩), .agg (wcell x)] W fun e W' => e = .returned (.bool (rdF .K t x).2) ∧ ∃ v', Hid (SB base W' b (rdF .K t x).1 v' ∧ Keeps (fun k => base ≤ k) W W') := by
  have HK0 := Hid.mk' ((Keeps.refl (fun _ => False) W).alloc (.cells (wcell x) 92))
  have HS := Hid.mk' (h.keep HK0.out)
  have HV := Hid.mk' (hv.keep HK0.out)
  have h69 := fun w (h : Vars w) => number_any w h x.text hx
  unfold rdF
  generalize num x.text.data.toList = Z at *
  unfold wcell
  go_enter Tryz.func79, Tryz.ntmps79
  go_wp2_with (first | (go_at_call 74; refine (h69 _ HV.out).mono ?_; clear h69; rintro e w1 ⟨rfl, hk1⟩; have HS1 := Hid.mk' (HS.out.keep hk1); have HK1 := Hid.mk' (HK0.out.trans hk1); obtain ⟨c1, f1⟩ := HS1.out.cellA 5 (.int .i64 t.k) rfl; clear hk1))
  go_ret
  have hs := HS1.out.set (t' := { t with k := Z.getD 0 }) 5 (.int .i64 (Z.getD 0)) rfl rfl
  exact ⟨rfl, v, hs.1, (HK1.out.mono (fun _ _ h => h.elim)).trans hs.2⟩
set_option maxHeartbeats 2000000 in
theorem readL_any (base : Nat) (W : World) (hv : Vars W) (b : Nat) (t : St) (v : Value) (h : SB base W b t v) (x : Wd) (hlen : t.l.length ≤ 1000000) (hx : x.text.size ≤ 1000000) :
    Calls Tryz.prog 81 #[.pointer (some ⟨b, 0, none⟩), .agg (wcell x)] W fun e W' => e = .returned (.bool (rdF .L t x).2) ∧ ∃ v', Hid (SB base W' b (rdF .L t x).1 v' ∧ Keeps (fun k => base ≤ k) W W') := by
  have HK0 := Hid.mk' ((Keeps.refl (fun _ => False) W).alloc (.cells (wcell x) 92))
  have HS := Hid.mk' (h.keep HK0.out)
  have HV := Hid.mk' (hv.keep HK0.out)
  have h69 := fun w (h : Vars w) => number_any w h x.text hx
  unfold rdF
  generalize num x.text.data.toList = Z at *
  unfold wcell
  obtain ⟨va, vc, rfl, hvc, _⟩ := Row.of_own h.row
  obtain ⟨i0, hi, hz0, hz1, hz2⟩ := info_parts info3
  clear h
  go_enter Tryz.func81, Tryz.ntmps81
  go_wp2_with (first
    | (go_at_call 74; refine (h69 _ HV.out).mono ?_; clear h69; rintro e w1 ⟨rfl, hk1⟩; have HS1 := Hid.mk' (HS.out.keep hk1); have HK1 := Hid.mk' (HK0.out.trans hk1); obtain ⟨c1, f1⟩ := HS1.out.cellA 6 (.slice va t.l.length vc) rfl; clear hk1)
    | (at_builtin; go_must (refine wpList_append_own_at _ rfl _ _ 22 rfl base 3 i0 (.int .i64 0) 1 8 Tryz.underlying22 hi hz0 hz1 hz2 rfl (by decide) (.slice va t.l.length vc) t.l.length (ints t.l) (by rfl) (HS1.out.row.alloc _) ⟨w1.heap.size, 0, none⟩ 1 1 [.int .i64 (Z.getD 0)] (by rfl) rfl (cell_one_new _ _ _) (by simp [Value.oneCell']) (by unfold maxLen; omega) (by omega) (by rw [World.size_alloc]; have := HS1.out.le; have := heap_lt HS1.out.box; omega) ?_)
       intro v2 W2 hown hgr _ _
       have hA := HS1.out.after hown hgr
       obtain ⟨ra, rc, hr2, _⟩ := Row.of_own hown
       subst hr2
       have c2 := hA.2.1
       have f2 := hA.2.2.1
       have HA := Hid.mk' hA
       clear hown hgr hA))
  go_ret
  have hs := HA.out.1
  have hk2 := HA.out.2.2.2
  have hb2 := setCell_block (a := ⟨b, 6, none⟩) (v := .slice ra (t.l.length + 1) rc) hs.1 rfl
  have hk3 : Keeps (fun k => k = b) W2 (W2.setCell ⟨b, 6, none⟩ (.slice ra (t.l.length + 1) rc)) := Keeps.of (grownBy_setCell _ _ _) (fun k hk => Or.inl (by cases hk; rfl))
  refine ⟨rfl, .slice ra (t.l.length + 1) rc, ⟨hb2, ?_, hs.2.2⟩, ((HK1.out.mono (fun _ _ h => h.elim)).trans hk2).trans (hk3.mono (fun i _ hi => by rw [hi]; exact hs.2.2))⟩
  have hl : (t.l ++ [Z.getD 0]).length = t.l.length + 1 := by simp
  show World.ownsRow _ base 3 1 _ (t.l ++ [Z.getD 0]).length (ints (t.l ++ [Z.getD 0]))
  rw [hl, show ints (t.l ++ [Z.getD 0]) = ints t.l ++ [Value.int .i64 (Z.getD 0)] by simp [ints]]
  refine own_keep hs.2.1 hk3 ?_
  exact row_ne hs.1 hs.2.1
end Go.Proofs.YtdlhdompemkjfaaGreatDoor
