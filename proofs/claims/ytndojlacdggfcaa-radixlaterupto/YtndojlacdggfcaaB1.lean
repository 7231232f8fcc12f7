import Derived.Test.YtndojlacdggfcaaA6
namespace Go.Proofs.Ytndojlacdggfcaa
open Go.RowKit

/-- The tree behind block t holds f. -/
def TreeAt (W : World) (t : Nat) (f : Nat → Int) : Prop := ∃ p v, W.heap[t]? = some (.cells #[.pointer p, .int .i64 v] 73 (0, 0)) ∧ SlotAt W (fun _ => True) 3 p v f

theorem TreeAt.lt {W : World} {t : Nat} {f : Nat → Int} (h : TreeAt W t f) : t < W.heap.size := by obtain ⟨_, _, h, _⟩ := h; exact heap_lt h
theorem TreeAt.no_node {W : World} {t : Nat} {f : Nat → Int} (h : TreeAt W t f) (q : Nat → Option Addr) (u : Nat → Int) : ¬ NodeAt W t q u := by
  obtain ⟨p, v, h, _⟩ := h
  intro hn
  have := h.symm.trans hn
  simp at this
/-- A tree lies as it lay, if its block has not turned, nor a node. -/
theorem TreeAt.keepN {A B : World} {t : Nat} {f : Nat → Int} (h : TreeAt A t f) (hk : KeepN A B) (hb : B.heap[t]? = A.heap[t]?) : TreeAt B t f := by
  obtain ⟨p, v, h, hs⟩ := h
  exact ⟨p, v, hb.trans h, hs.keep hk⟩
theorem TreeAt.keep {A B : World} {t : Nat} {f : Nat → Int} (h : TreeAt A t f) (hk : Keeps (fun _ => False) A B) : TreeAt B t f := h.keepN hk.none_nodes (hk.block _ h.lt id)
/-- .. beside another tree that has. -/
theorem TreeAt.beside {A B : World} {t t' : Nat} {f g : Nat → Int} (h : TreeAt A t f) (h' : TreeAt A t' g) (hk : Keeps (fun c => c = t') A B) (hne : t ≠ t') : TreeAt B t f :=
  h.keepN (hk.nodes (by rintro b q u rfl; exact h'.no_node q u)) (hk.block _ h.lt hne)
theorem TreeAt.congr {W : World} {t : Nat} {f g : Nat → Int} (h : TreeAt W t f) (e : ∀ o, o < 512 → f o = g o) : TreeAt W t g := by
  obtain ⟨p, v, h, hs⟩ := h
  exact ⟨p, v, h, hs.congr e⟩

def isOff (x : Int) : Bool := decide (0 ≤ x ∧ x < 512)
def getF (f : Nat → Int) (x : Int) : Int := if isOff x then f x.toNat else 0
def errF (x : Int) : Int := if isOff x then 0 else 70
def setF (f : Nat → Int) (x v : Int) : Nat → Int := if isOff x then upd f x.toNat v else f

theorem isOff_nat {x : Int} (h : isOff x = true) : ∃ o : Nat, x = o ∧ o < 512 := by
  have h' : 0 ≤ x ∧ x < 512 := by simpa [isOff] using h
  obtain ⟨o, rfl⟩ := Int.eq_ofNat_of_zero_le h'.1
  exact ⟨o, rfl, by omega⟩
theorem isOff_of {o : Nat} (h : o < 512) : isOff (o : Int) = true := by simp [isOff]; omega

set_option maxRecDepth 100000 in
set_option maxHeartbeats 1000000 in
theorem get_any (w : World) (t : Nat) (f : Nat → Int) (x : Int) (h : TreeAt w t f) :
    Calls Try.prog 13 #[.pointer (some ⟨t, 0, none⟩), .int .i64 x] w fun e w' => e = .returned (.int .i64 (getF f x)) ∧ Keeps (fun _ => False) w w' := by
  have ho := isOff_any x w
  rw [show decide (0 ≤ x ∧ x < 512) = isOff x from rfl] at ho
  obtain ⟨b, hb⟩ : ∃ b, isOff x = b := ⟨_, rfl⟩
  rw [hb] at ho
  obtain ⟨p, v, ht, hs⟩ := h
  obtain ⟨c0, c1, cf⟩ := cells2' ht
  cases b with
  | false =>
    have HB := Hid.mk' hb
    clear hb hs
    go_enter Try.func13, Try.ntmps13
    go_wp2_with (first | (go_at_call 35; refine ho.mono ?_; rintro e w1 ⟨rfl, hw⟩; subst w1))
    go_ret
    exact ⟨ret_int (by rw [getF, HB.out]; rfl), Keeps.refl _ _⟩
  | true =>
    obtain ⟨o, rfl, hol⟩ := isOff_nat hb
    have hr := fun n => reach_any (w.drewN n)
    have ha : ∀ n, Calls Try.prog 37 #[.agg #[.pointer p, .int .i64 v], .int .i64 512, .int .i64 (o : Int)] (w.drewN n) fun e w' => e = .returned (.int .i64 (f o)) ∧ Hid (Keeps (fun _ => False) w w') ∧ w'.cell? ⟨t, 0, none⟩ = some (.pointer p) ∧ w'.cell? ⟨t, 1, none⟩ = some (.int .i64 v) := fun n => by
      have := at_any 3 p v f o (w.drewN n) _ (by decide) (hs.keep (Keeps.drewN (fun _ => False) w n).none_nodes) hol
      refine this.mono fun e w' ⟨he, hk⟩ => ⟨he, (Keeps.drewN _ _ n).trans hk, hk.cell c0 id, hk.cell c1 id⟩
    have HB := Hid.mk' hb
    clear hb hs
    go_enter Try.func13, Try.ntmps13
    go_wp2_with (first | (go_at_call 35; refine ho.mono ?_; rintro e w1 ⟨rfl, hw⟩; subst w1))
    go_region_held3 (fun wx => wx.cell? ⟨t, 0, none⟩ = some (.pointer p) ∧ wx.cell? ⟨t, 1, none⟩ = some (.int .i64 v))
      (first | go_keep)
      (first
        | (go_at_call 33; refine (hr _).mono ?_; rintro e w' ⟨rfl, hw⟩; subst w')
        | (go_at_call 37; refine (ha _).mono ?_; rintro e w' ⟨rfl, hk, x0, x1⟩))
    all_goals
      go_wp2
      go_ret
      exact ⟨ret_int (by rw [getF, HB.out]; simp), hk.out⟩

set_option maxRecDepth 100000 in
set_option maxHeartbeats 1000000 in
theorem set_any (w : World) (t : Nat) (f : Nat → Int) (x y : Int) (h : TreeAt w t f) :
    Calls Try.prog 12 #[.pointer (some ⟨t, 0, none⟩), .int .i64 x, .int .i64 y] w fun e w' => e = .returned (.tuple #[.int .i64 (getF f x), .int .i64 (errF x)]) ∧ Keeps (fun c => c = t) w w' ∧ TreeAt w' t (setF f x y) := by
  have ho := isOff_any x w
  rw [show decide (0 ≤ x ∧ x < 512) = isOff x from rfl] at ho
  obtain ⟨b, hb⟩ : ∃ b, isOff x = b := ⟨_, rfl⟩
  rw [hb] at ho
  have hg := get_any w t f x h
  have hT := h
  obtain ⟨p, v, ht, hs⟩ := h
  cases b with
  | false =>
    have HB := Hid.mk' hb
    have HT := Hid.mk' hT
    clear hb hs hT hg
    go_enter Try.func12, Try.ntmps12
    go_wp2_with (first | (go_at_call 35; refine ho.mono ?_; rintro e w1 ⟨rfl, hw⟩; subst w1))
    go_ret2
    have e1 : getF f x = 0 := by have hb := HB.out; simp [getF, hb]
    have e2 : errF x = 70 := by have hb := HB.out; simp [errF, hb]
    have e3 : setF f x y = f := by have hb := HB.out; simp [setF, hb]
    rw [e1, e2, e3]
    exact ⟨rfl, Keeps.refl _ _, HT.out⟩
  | true =>
    obtain ⟨o, rfl, hol⟩ := isOff_nat hb
    have hy : (y == 0) = false ∨ y = 0 := by by_cases h : y = 0 <;> simp [h]
    have hg' : Calls Try.prog 13 #[.pointer (some ⟨t, 0, none⟩), .int .i64 (o : Int)] w fun e w' => e = .returned (.int .i64 (getF f o)) ∧ ∃ w0, w' = w0 ∧ Hid (Keeps (fun _ => False) w w0) ∧ w0.cell? ⟨t, 0, none⟩ = some (.pointer p) ∧ w0.cell? ⟨t, 1, none⟩ = some (.int .i64 v) ∧ w0.frozen? ⟨t, 0, none⟩ = false ∧ w0.frozen? ⟨t, 1, none⟩ = false ∧
        (∀ n, Calls Try.prog 36 #[.agg #[.pointer p, .int .i64 v], .int .i64 512, .int .i64 (o : Int), .int .i64 y] (w0.drewN n) fun e w' => ∃ p' v', e = .returned (.agg #[.pointer p', .int .i64 v']) ∧ Hid (Keeps (fun _ => False) w0 w' ∧ SlotAt w' (fun _ => True) 3 p' v' (upd f o y)) ∧
          w'.cell? ⟨t, 0, none⟩ = some (.pointer p) ∧ w'.cell? ⟨t, 1, none⟩ = some (.int .i64 v) ∧ w'.frozen? ⟨t, 0, none⟩ = false ∧ w'.frozen? ⟨t, 1, none⟩ = false) := by
      refine hg.mono fun e w' ⟨he, hk⟩ => ⟨he, w', rfl, hk, ?_⟩
      have ht' := hk.at ht id
      obtain ⟨c0, c1, cf⟩ := cells2' ht'
      refine ⟨c0, c1, cf 0, cf 1, fun n => ?_⟩
      have hk2 := hk.trans (Keeps.drewN (fun _ => False) w' n)
      have := with_any 3 p v f o y (w'.drewN n) _ (by decide) (hs.keep hk2.none_nodes) hol
      refine this.mono fun e w'' ⟨p', v', he, hk'', hs'⟩ => ⟨p', v', he, ⟨(Keeps.drewN _ _ n).trans hk'', hs'.mono fun _ _ => trivial⟩, ?_⟩
      obtain ⟨d0, d1, df⟩ := cells2' (hk''.at (show (w'.drewN n).heap[t]? = _ from ht') id)
      exact ⟨d0, d1, df 0, df 1⟩
    have hr := fun (w : World) n => reach_any (w.drewN n)
    have HB := Hid.mk' hb
    have HT := Hid.mk' ht
    clear hb hs hT hg ht
    rcases hy with hy | rfl
    all_goals
      go_enter Try.func12, Try.ntmps12
      go_wp2_with (first
        | (go_at_call 35; refine ho.mono ?_; rintro e w1 ⟨rfl, hw⟩; subst w1)
        | (go_at_call 13; refine hg'.mono ?_; rintro e w1 ⟨rfl, w0, hw, hk0, c0, c1, f0, f1, hwi⟩; subst w1))
      go_region_with (first
        | (go_at_call 33; refine (hr _ _).mono ?_; rintro e w' ⟨rfl, hw⟩; subst w')
        | (go_at_call 36; refine (hwi _).mono ?_; rintro e w4 ⟨p', v', rfl, hx, x0, x1, x2, x3⟩))
      all_goals
        go_wp2
        go_ret2
        have hk4 := hk0.out.trans hx.out.1
        have hset := set_keeps w4 t 0 1 (.pointer p') (.int .i64 v')
        have ht4 := hk4.at HT.out id
        have e2 : errF (o : Int) = 0 := by have hb := HB.out; simp [errF, hb]
        rw [e2]
        refine ⟨rfl, (hk4.mono (fun _ _ h => h.elim)).trans hset, ?_⟩
        rw [setF, HB.out]
        refine ⟨p', v', set2b ht4 _ _, hx.out.2.keep (hset.nodes ?_)⟩
        rintro c q u rfl hn
        have := ht4.symm.trans hn
        simp at this

end Go.Proofs.Ytndojlacdggfcaa
