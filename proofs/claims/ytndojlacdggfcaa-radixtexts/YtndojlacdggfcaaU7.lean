import Derived.Test.YtndojlacdggfcaaU6
namespace Go.Proofs.Ytndojlacdggfcaa
open Go.RowKit

/-- The tree behind block t holds f. -/
def TreeAtS (W : World) (t : Nat) (f : Nat → ByteArray) : Prop := ∃ p v, W.heap[t]? = some (.cells #[.pointer p, .string v] 92 (0, 0)) ∧ SlotAtS W (fun _ => True) 3 p v f

theorem TreeAtS.lt {W : World} {t : Nat} {f : Nat → ByteArray} (h : TreeAtS W t f) : t < W.heap.size := by obtain ⟨_, _, h, _⟩ := h; exact heap_lt h
theorem TreeAtS.no_node {W : World} {t : Nat} {f : Nat → ByteArray} (h : TreeAtS W t f) (q : Nat → Option Addr) (u : Nat → ByteArray) : ¬ NodeAtS W t q u := by
  obtain ⟨p, v, h, _⟩ := h
  intro hn
  have := h.symm.trans hn
  simp at this
/-- A tree lies as it lay, if its block has not turned, nor a node. -/
theorem TreeAtS.keepN {A B : World} {t : Nat} {f : Nat → ByteArray} (h : TreeAtS A t f) (hk : KeepNS A B) (hb : B.heap[t]? = A.heap[t]?) : TreeAtS B t f := by
  obtain ⟨p, v, h, hs⟩ := h
  exact ⟨p, v, hb.trans h, hs.keep hk⟩
theorem TreeAtS.keep {A B : World} {t : Nat} {f : Nat → ByteArray} (h : TreeAtS A t f) (hk : Keeps (fun _ => False) A B) : TreeAtS B t f := h.keepN hk.none_nodesS (hk.block _ h.lt id)
/-- .. beside another tree that has. -/
theorem TreeAtS.beside {A B : World} {t t' : Nat} {f g : Nat → ByteArray} (h : TreeAtS A t f) (h' : TreeAtS A t' g) (hk : Keeps (fun c => c = t') A B) (hne : t ≠ t') : TreeAtS B t f :=
  h.keepN (hk.nodesS (by rintro b q u rfl; exact h'.no_node q u)) (hk.block _ h.lt hne)
theorem TreeAtS.congr {W : World} {t : Nat} {f g : Nat → ByteArray} (h : TreeAtS W t f) (e : ∀ o, o < 512 → f o = g o) : TreeAtS W t g := by
  obtain ⟨p, v, h, hs⟩ := h
  exact ⟨p, v, h, hs.congr e⟩

def getFS (f : Nat → ByteArray) (x : Int) : ByteArray := if isOff x then f x.toNat else ⟨#[]⟩
def setFS (f : Nat → ByteArray) (x : Int) (v : ByteArray) : Nat → ByteArray := if isOff x then updS f x.toNat v else f

set_option maxRecDepth 100000 in
set_option maxHeartbeats 1000000 in
theorem get_anyS (w : World) (t : Nat) (f : Nat → ByteArray) (x : Int) (h : TreeAtS w t f) :
    Calls Try.prog 27 #[.pointer (some ⟨t, 0, none⟩), .int .i64 x] w fun e w' => e = .returned (.string (getFS f x)) ∧ Keeps (fun _ => False) w w' := by
  have ho := isOff_any x w
  rw [show decide (0 ≤ x ∧ x < 512) = isOff x from rfl] at ho
  obtain ⟨b, hb⟩ : ∃ b, isOff x = b := ⟨_, rfl⟩
  rw [hb] at ho
  obtain ⟨p, v, ht, hs⟩ := h
  obtain ⟨c0, c1, cf⟩ := cells2' ht
  cases b with
  | false =>
    have HB := Hid.mk' hb
    clear hb hs
    go_enter Try.func27, Try.ntmps27
    go_wp2_with (first | (go_at_call 35; refine ho.mono ?_; rintro e w1 ⟨rfl, hw⟩; subst w1))
    go_ret
    exact ⟨ret_string (by rw [getFS, HB.out]; rfl), Keeps.refl _ _⟩
  | true =>
    obtain ⟨o, rfl, hol⟩ := isOff_nat hb
    have hr := fun n => reach_any (w.drewN n)
    have ha : ∀ n, Calls Try.prog 45 #[.agg #[.pointer p, .string v], .int .i64 512, .int .i64 (o : Int)] (w.drewN n) fun e w' => e = .returned (.string (f o)) ∧ Hid (Keeps (fun _ => False) w w') ∧ w'.cell? ⟨t, 0, none⟩ = some (.pointer p) ∧ w'.cell? ⟨t, 1, none⟩ = some (.string v) := fun n => by
      have := at_anyS 3 p v f o (w.drewN n) _ (by decide) (hs.keep (Keeps.drewN (fun _ => False) w n).none_nodesS) hol
      refine this.mono fun e w' ⟨he, hk⟩ => ⟨he, (Keeps.drewN _ _ n).trans hk, hk.cell c0 id, hk.cell c1 id⟩
    have HB := Hid.mk' hb
    clear hb hs
    go_enter Try.func27, Try.ntmps27
    go_wp2_with (first | (go_at_call 35; refine ho.mono ?_; rintro e w1 ⟨rfl, hw⟩; subst w1))
    go_region_held3 (fun wx => wx.cell? ⟨t, 0, none⟩ = some (.pointer p) ∧ wx.cell? ⟨t, 1, none⟩ = some (.string v))
      (first | go_keep)
      (first
        | (go_at_call 33; refine (hr _).mono ?_; rintro e w' ⟨rfl, hw⟩; subst w')
        | (go_at_call 45; refine (ha _).mono ?_; rintro e w' ⟨rfl, hk, x0, x1⟩))
    all_goals
      go_wp2
      go_ret
      exact ⟨ret_string (by rw [getFS, HB.out]; simp), hk.out⟩

set_option maxRecDepth 100000 in
set_option maxHeartbeats 1000000 in
theorem set_anyS (w : World) (t : Nat) (f : Nat → ByteArray) (x : Int) (y : ByteArray) (h : TreeAtS w t f) :
    Calls Try.prog 24 #[.pointer (some ⟨t, 0, none⟩), .int .i64 x, .string y] w fun e w' => e = .returned (.tuple #[.string (getFS f x), .int .i64 (errF x)]) ∧ Keeps (fun c => c = t) w w' ∧ TreeAtS w' t (setFS f x y) := by
  have ho := isOff_any x w
  rw [show decide (0 ≤ x ∧ x < 512) = isOff x from rfl] at ho
  obtain ⟨b, hb⟩ : ∃ b, isOff x = b := ⟨_, rfl⟩
  rw [hb] at ho
  have hg := get_anyS w t f x h
  have hT := h
  obtain ⟨p, v, ht, hs⟩ := h
  cases b with
  | false =>
    have HB := Hid.mk' hb
    have HT := Hid.mk' hT
    clear hb hs hT hg
    go_enter Try.func24, Try.ntmps24
    go_wp2_with (first | (go_at_call 35; refine ho.mono ?_; rintro e w1 ⟨rfl, hw⟩; subst w1))
    go_ret2
    have e1 : getFS f x = ⟨#[]⟩ := by have hb := HB.out; simp [getFS, hb]
    have e2 : errF x = 70 := by have hb := HB.out; simp [errF, hb]
    have e3 : setFS f x y = f := by have hb := HB.out; simp [setFS, hb]
    rw [e1, e2, e3]
    exact ⟨rfl, Keeps.refl _ _, HT.out⟩
  | true =>
    obtain ⟨o, rfl, hol⟩ := isOff_nat hb
    have hy : y.toList.isEmpty = false ∨ y = (⟨#[]⟩ : ByteArray) := by
      cases hb : y.toList.isEmpty
      · exact .inl rfl
      · exact .inr (empty_of hb)
    have hg' : Calls Try.prog 27 #[.pointer (some ⟨t, 0, none⟩), .int .i64 (o : Int)] w fun e w' => e = .returned (.string (getFS f o)) ∧ ∃ w0, w' = w0 ∧ Hid (Keeps (fun _ => False) w w0) ∧ w0.cell? ⟨t, 0, none⟩ = some (.pointer p) ∧ w0.cell? ⟨t, 1, none⟩ = some (.string v) ∧ w0.frozen? ⟨t, 0, none⟩ = false ∧ w0.frozen? ⟨t, 1, none⟩ = false ∧
        (∀ n, Calls Try.prog 42 #[.agg #[.pointer p, .string v], .int .i64 512, .int .i64 (o : Int), .string y] (w0.drewN n) fun e w' => ∃ p' v', e = .returned (.agg #[.pointer p', .string v']) ∧ Hid (Keeps (fun _ => False) w0 w' ∧ SlotAtS w' (fun _ => True) 3 p' v' (updS f o y)) ∧
          w'.cell? ⟨t, 0, none⟩ = some (.pointer p) ∧ w'.cell? ⟨t, 1, none⟩ = some (.string v) ∧ w'.frozen? ⟨t, 0, none⟩ = false ∧ w'.frozen? ⟨t, 1, none⟩ = false) := by
      refine hg.mono fun e w' ⟨he, hk⟩ => ⟨he, w', rfl, hk, ?_⟩
      have ht' := hk.at ht id
      obtain ⟨c0, c1, cf⟩ := cells2' ht'
      refine ⟨c0, c1, cf 0, cf 1, fun n => ?_⟩
      have hk2 := hk.trans (Keeps.drewN (fun _ => False) w' n)
      have := with_anyS 3 p v f o y (w'.drewN n) _ (by decide) (hs.keep hk2.none_nodesS) hol
      refine this.mono fun e w'' ⟨p', v', he, hk'', hs'⟩ => ⟨p', v', he, ⟨(Keeps.drewN _ _ n).trans hk'', hs'.mono fun _ _ => trivial⟩, ?_⟩
      obtain ⟨d0, d1, df⟩ := cells2' (hk''.at (show (w'.drewN n).heap[t]? = _ from ht') id)
      exact ⟨d0, d1, df 0, df 1⟩
    have hr := fun (w : World) n => reach_any (w.drewN n)
    have HB := Hid.mk' hb
    have HT := Hid.mk' ht
    clear hb hs hT hg ht
    rcases hy with hy | rfl
    all_goals
      go_enter Try.func24, Try.ntmps24
      go_wp2_with (first
        | (go_at_call 35; refine ho.mono ?_; rintro e w1 ⟨rfl, hw⟩; subst w1)
        | (go_at_call 27; refine hg'.mono ?_; rintro e w1 ⟨rfl, w0, hw, hk0, c0, c1, f0, f1, hwi⟩; subst w1))
      go_region_with (first
        | (go_at_call 33; refine (hr _ _).mono ?_; rintro e w' ⟨rfl, hw⟩; subst w')
        | (go_at_call 42; refine (hwi _).mono ?_; rintro e w4 ⟨p', v', rfl, hx, x0, x1, x2, x3⟩))
      all_goals
        go_wp2
        go_ret2
        have hk4 := hk0.out.trans hx.out.1
        have hset := set_keeps w4 t 0 1 (.pointer p') (.string v')
        have ht4 := hk4.at HT.out id
        have e2 : errF (o : Int) = 0 := by have hb := HB.out; simp [errF, hb]
        rw [e2]
        refine ⟨rfl, (hk4.mono (fun _ _ h => h.elim)).trans hset, ?_⟩
        rw [setFS, HB.out]
        refine ⟨p', v', set2b ht4 _ _, hx.out.2.keep (hset.nodesS ?_)⟩
        rintro c q u rfl hn
        have := ht4.symm.trans hn
        simp at this

end Go.Proofs.Ytndojlacdggfcaa
