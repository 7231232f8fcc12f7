import Derived.Test.YtndojlacdggfcaaW6
namespace Go.Proofs.Ytndojlacdggfcaa
open Go.RowKit

/-- The tree behind block t holds f. -/
def TreeAtP (W : World) (t : Nat) (f : Nat → Sp) : Prop := ∃ p v, W.heap[t]? = some (.cells #[.pointer p, .int .i64 v.1, .int .i64 v.2] 81 (0, 0)) ∧ SlotAtP W (fun _ => True) 3 p v f

theorem TreeAtP.lt {W : World} {t : Nat} {f : Nat → Sp} (h : TreeAtP W t f) : t < W.heap.size := by obtain ⟨_, _, h, _⟩ := h; exact heap_lt h
theorem TreeAtP.no_node {W : World} {t : Nat} {f : Nat → Sp} (h : TreeAtP W t f) (q : Nat → Option Addr) (u : Nat → Sp) : ¬ NodeAtP W t q u := by
  obtain ⟨p, v, h, _⟩ := h
  intro hn
  have := h.symm.trans hn
  simp at this
/-- A tree lies as it lay, if its block has not turned, nor a node. -/
theorem TreeAtP.keepN {A B : World} {t : Nat} {f : Nat → Sp} (h : TreeAtP A t f) (hk : KeepNP A B) (hb : B.heap[t]? = A.heap[t]?) : TreeAtP B t f := by
  obtain ⟨p, v, h, hs⟩ := h
  exact ⟨p, v, hb.trans h, hs.keep hk⟩
theorem TreeAtP.keep {A B : World} {t : Nat} {f : Nat → Sp} (h : TreeAtP A t f) (hk : Keeps (fun _ => False) A B) : TreeAtP B t f := h.keepN hk.none_nodesP (hk.block _ h.lt id)
/-- .. beside another tree that has. -/
theorem TreeAtP.beside {A B : World} {t t' : Nat} {f g : Nat → Sp} (h : TreeAtP A t f) (h' : TreeAtP A t' g) (hk : Keeps (fun c => c = t') A B) (hne : t ≠ t') : TreeAtP B t f :=
  h.keepN (hk.nodesP (by rintro b q u rfl; exact h'.no_node q u)) (hk.block _ h.lt hne)
theorem TreeAtP.congr {W : World} {t : Nat} {f g : Nat → Sp} (h : TreeAtP W t f) (e : ∀ o, o < 512 → f o = g o) : TreeAtP W t g := by
  obtain ⟨p, v, h, hs⟩ := h
  exact ⟨p, v, h, hs.congr e⟩

def getFP (f : Nat → Sp) (x : Int) : Sp := if isOff x then f x.toNat else (0, 0)
def setFP (f : Nat → Sp) (x : Int) (v : Sp) : Nat → Sp := if isOff x then updP f x.toNat v else f

set_option maxRecDepth 100000 in
set_option maxHeartbeats 1000000 in
theorem get_anyP (w : World) (t : Nat) (f : Nat → Sp) (x : Int) (h : TreeAtP w t f) :
    Calls Try.prog 17 #[.pointer (some ⟨t, 0, none⟩), .int .i64 x] w fun e w' => e = .returned (.agg #[.int .i64 (getFP f x).1, .int .i64 (getFP f x).2]) ∧ Keeps (fun _ => False) w w' := by
  have ho := fun W => isOff_any x W
  simp only [show decide (0 ≤ x ∧ x < 512) = isOff x from rfl] at ho
  obtain ⟨b, hb⟩ : ∃ b, isOff x = b := ⟨_, rfl⟩
  rw [hb] at ho
  obtain ⟨p, v, ht, hs⟩ := h
  obtain ⟨c0, c1, c2, cf⟩ := cells3' ht
  cases b with
  | false =>
    have HB := Hid.mk' hb
    clear hb hs
    go_enter Try.func17, Try.ntmps17
    go_wp2_with (first | (go_at_call 35; refine (ho _).mono ?_; rintro e w1 ⟨rfl, hw⟩; subst w1))
    refine bodyPost_ret (results_cell_row rfl _ _ w.heap.size 42 _ (0, 0) _ rfl (heap_alloc2_old w _ _) Try.underlying42 rfl (by kernel_rfl)) rfl ?_
    exact ⟨ret_span (a := (0, 0)) (by rw [getFP, HB.out]; rfl), (Keeps.new w _).trans (Keeps.new _ _)⟩
  | true =>
    obtain ⟨o, rfl, hol⟩ := isOff_nat hb
    have hK := (Keeps.new w (.cells #[.int .i64 0, .int .i64 0] 42)).trans (Keeps.new _ (.cells #[.int .i64 0, .int .i64 0] 42))
    have hRS : ((w.alloc (.cells #[.int .i64 0, .int .i64 0] 42)).alloc (.cells #[.int .i64 0, .int .i64 0] 42)).heap[w.heap.size]? = some (.cells #[.int .i64 0, .int .i64 0] 42 (0, 0)) := heap_alloc2_old w _ _
    obtain ⟨e0, e1, e2, _⟩ := cells3' (hK.at ht id)
    have hr := fun n => reach_any (((w.alloc (.cells #[.int .i64 0, .int .i64 0] 42)).alloc (.cells #[.int .i64 0, .int .i64 0] 42)).drewN n)
    have ha : ∀ n, Calls Try.prog 38 #[.agg #[.pointer p, .int .i64 v.1, .int .i64 v.2], .int .i64 512, .int .i64 (o : Int)] (((w.alloc (.cells #[.int .i64 0, .int .i64 0] 42)).alloc (.cells #[.int .i64 0, .int .i64 0] 42)).drewN n) fun e w' => e = .returned (.agg #[.int .i64 (f o).1, .int .i64 (f o).2]) ∧ Hid (Keeps (fun _ => False) w w' ∧ w'.heap[w.heap.size]? = some (.cells #[.int .i64 0, .int .i64 0] 42 (0, 0))) ∧ w'.cell? ⟨w.heap.size, 0, none⟩ = some (.int .i64 0) ∧ w'.cell? ⟨w.heap.size, 1, none⟩ = some (.int .i64 0) ∧ w'.frozen? ⟨w.heap.size, 0, none⟩ = false ∧ w'.frozen? ⟨w.heap.size, 1, none⟩ = false ∧ w'.cell? ⟨t, 0, none⟩ = some (.pointer p) ∧ w'.cell? ⟨t, 1, none⟩ = some (.int .i64 v.1) ∧ w'.cell? ⟨t, 2, none⟩ = some (.int .i64 v.2) := fun n => by
      have hkn := hK.trans (Keeps.drewN (fun _ => False) _ n)
      have := at_anyP 3 p v f o (((w.alloc (.cells #[.int .i64 0, .int .i64 0] 42)).alloc (.cells #[.int .i64 0, .int .i64 0] 42)).drewN n) _ (by decide) (hs.keep hkn.none_nodesP) hol
      refine this.mono fun e w' ⟨he, hk⟩ => ?_
      have hR' := hk.at (show (World.drewN _ n).heap[_]? = _ from hRS) id
      obtain ⟨r0, r1, rf⟩ := cells2' hR'
      obtain ⟨d0, d1, d2, _⟩ := cells3' ((hkn.trans hk).at ht id)
      exact ⟨he, ⟨hkn.trans hk, hR'⟩, r0, r1, rf 0, rf 1, d0, d1, d2⟩
    have htl : t < w.heap.size := heap_lt ht
    have htn : ¬ t = w.heap.size := by omega
    have htn' : ¬ w.heap.size = t := by omega
    have HB := Hid.mk' hb
    clear hb hs hK hRS
    go_enter Try.func17, Try.ntmps17
    go_wp2_with (first | (go_at_call 35; refine (ho _).mono ?_; rintro e w1 ⟨rfl, hw⟩; subst w1))
    go_region_held3 (fun wx => wx.cell? ⟨t, 0, none⟩ = some (.pointer p) ∧ wx.cell? ⟨t, 1, none⟩ = some (.int .i64 v.1) ∧ wx.cell? ⟨t, 2, none⟩ = some (.int .i64 v.2))
      (first | go_keep)
      (first
        | (go_at_call 33; refine (hr _).mono ?_; rintro e w' ⟨rfl, hw⟩; subst w')
        | (go_at_call 38; refine (ha _).mono ?_; rintro e w' ⟨rfl, hk, r0, r1, rf0, rf1, x0, x1, x2⟩))
    all_goals
      go_wp2
      have hset := set_keeps w' w.heap.size 0 1 (.int .i64 (f o).1) (.int .i64 (f o).2)
      refine bodyPost_ret (results_cell_row rfl _ _ w.heap.size 42 _ (0, 0) _ rfl (set2b hk.out.2 _ _) Try.underlying42 rfl (by kernel_rfl)) rfl ?_
      exact ⟨ret_span (by rw [getFP, HB.out]; simp), hk.out.1.then hset (by rintro c rfl; right; omega)⟩

set_option maxRecDepth 100000 in
set_option maxHeartbeats 1000000 in
theorem set_anyP (w : World) (t : Nat) (f : Nat → Sp) (x : Int) (y : Sp) (h : TreeAtP w t f) :
    Calls Try.prog 18 #[.pointer (some ⟨t, 0, none⟩), .int .i64 x, .agg #[.int .i64 y.1, .int .i64 y.2]] w fun e w' => e = .returned (.tuple #[.agg #[.int .i64 (getFP f x).1, .int .i64 (getFP f x).2], .int .i64 (errF x)]) ∧ Keeps (fun c => c = t) w w' ∧ TreeAtP w' t (setFP f x y) := by
  have ho := fun W => isOff_any x W
  simp only [show decide (0 ≤ x ∧ x < 512) = isOff x from rfl] at ho
  obtain ⟨b, hb⟩ : ∃ b, isOff x = b := ⟨_, rfl⟩
  rw [hb] at ho
  have heq := fun (W : World) => span_eqlP 9998 y (0, 0) W
  cases b with
  | false =>
    go_enter Try.func18, Try.ntmps18
    go_wp2_with (first | (go_at_call 35; refine (ho _).mono ?_; rintro e w1 ⟨rfl, hw⟩; subst w1))
    have h3 := three_new w (.cells #[.int .i64 y.1, .int .i64 y.2] 42) (.cells #[.int .i64 0, .int .i64 0] 42) (.cells #[.int .i64 0, .int .i64 0] 42)
    obtain ⟨r0, r1, _⟩ := cells2' h3.2.1
    refine bodyPost_ret (v := .tuple #[.agg #[.int .i64 0, .int .i64 0], .int .i64 70]) ?_ rfl ?_
    · simp [results, Try.results18, go_sem, r0, r1]
    · have e1 : getFP f x = (0, 0) := by simp [getFP, hb]
      have e2 : errF x = 70 := by simp [errF, hb]
      have e3 : setFP f x y = f := by simp [setFP, hb]
      rw [e1, e2, e3]
      exact ⟨rfl, h3.2.2.2.2.mono (fun _ _ h => h.elim), h.keep h3.2.2.2.2⟩
  | true =>
    obtain ⟨o, rfl, hol⟩ := isOff_nat hb
    have h3 := three_new w (.cells #[.int .i64 y.1, .int .i64 y.2] 42) (.cells #[.int .i64 0, .int .i64 0] 42) (.cells #[.int .i64 0, .int .i64 0] 42)
    have hgo : getFP f (o : Int) = f o := by simp [getFP, hb]
    have heo : errF (o : Int) = 0 := by simp [errF, hb]
    have hso : setFP f (o : Int) y = updP f o y := by simp [setFP, hb]
    rw [hgo, heo, hso]
    have hK3 := h3.2.2.2.2
    have htl : t < w.heap.size := h.lt
    have hg' : Calls Try.prog 17 #[.pointer (some ⟨t, 0, none⟩), .int .i64 (o : Int)] (((w.alloc (.cells #[.int .i64 y.1, .int .i64 y.2] 42)).alloc (.cells #[.int .i64 0, .int .i64 0] 42)).alloc (.cells #[.int .i64 0, .int .i64 0] 42)) fun e w' => e = .returned (.agg #[.int .i64 (f o).1, .int .i64 (f o).2]) ∧ ∃ w0, w' = w0 ∧ ∃ (p : Option Addr) (v : Sp), Hid (Keeps (fun _ => False) w w0 ∧ w0.heap[t]? = some (.cells #[.pointer p, .int .i64 v.1, .int .i64 v.2] 81 (0, 0))) ∧ w.heap.size + 3 ≤ w0.heap.size ∧
        ((w0.alloc (.cells #[.int .i64 (f o).1, .int .i64 (f o).2] 42)).cell? ⟨t, 0, none⟩ = some (.pointer p) ∧ (w0.alloc (.cells #[.int .i64 (f o).1, .int .i64 (f o).2] 42)).cell? ⟨t, 1, none⟩ = some (.int .i64 v.1) ∧ (w0.alloc (.cells #[.int .i64 (f o).1, .int .i64 (f o).2] 42)).cell? ⟨t, 2, none⟩ = some (.int .i64 v.2) ∧ (w0.alloc (.cells #[.int .i64 (f o).1, .int .i64 (f o).2] 42)).cell? ⟨w.heap.size, 0, none⟩ = some (.int .i64 y.1) ∧ (w0.alloc (.cells #[.int .i64 (f o).1, .int .i64 (f o).2] 42)).cell? ⟨w.heap.size, 1, none⟩ = some (.int .i64 y.2)) ∧
        (∀ n, Calls Try.prog 39 #[.agg #[.pointer p, .int .i64 v.1, .int .i64 v.2], .int .i64 512, .int .i64 (o : Int), .agg #[.int .i64 y.1, .int .i64 y.2]] ((w0.alloc (.cells #[.int .i64 (f o).1, .int .i64 (f o).2] 42)).drewN n) fun e w' => ∃ (p' : Option Addr) (v' : Sp), e = .returned (.agg #[.pointer p', .int .i64 v'.1, .int .i64 v'.2]) ∧ Hid (Keeps (fun _ => False) (w0.alloc (.cells #[.int .i64 (f o).1, .int .i64 (f o).2] 42)) w' ∧ SlotAtP w' (fun _ => True) 3 p' v' (updP f o y) ∧ w'.heap[w.heap.size + 1]? = some (.cells #[.int .i64 0, .int .i64 0] 42 (0, 0))) ∧
          (w'.cell? ⟨t, 0, none⟩ = some (.pointer p) ∧ w'.cell? ⟨t, 1, none⟩ = some (.int .i64 v.1) ∧ w'.cell? ⟨t, 2, none⟩ = some (.int .i64 v.2) ∧ w'.frozen? ⟨t, 0, none⟩ = false ∧ w'.frozen? ⟨t, 1, none⟩ = false ∧ w'.frozen? ⟨t, 2, none⟩ = false) ∧
          (w'.cell? ⟨w0.heap.size, 0, none⟩ = some (.int .i64 (f o).1) ∧ w'.cell? ⟨w0.heap.size, 1, none⟩ = some (.int .i64 (f o).2) ∧ w'.cell? ⟨w.heap.size + 1, 0, none⟩ = some (.int .i64 0) ∧ w'.cell? ⟨w.heap.size + 1, 1, none⟩ = some (.int .i64 0) ∧ w'.frozen? ⟨w.heap.size + 1, 0, none⟩ = false ∧ w'.frozen? ⟨w.heap.size + 1, 1, none⟩ = false)) := by
      have hg := get_anyP _ t f (o : Int) (h.keep hK3)
      rw [hgo] at hg
      refine hg.mono fun e w' ⟨he, hk⟩ => ⟨he, w', rfl, ?_⟩
      obtain ⟨p, v, ht, hs⟩ := h
      have hkw := hK3.trans hk
      have kA := Keeps.new w' (.cells #[.int .i64 (f o).1, .int .i64 (f o).2] 42)
      have hkA := hkw.trans kA
      have tA := hkA.at ht id
      have vA := (hk.trans kA).at h3.1 id
      have rA := (hk.trans kA).at h3.2.1 id
      have wA := (MapKept.heap_alloc w' (.cells #[.int .i64 (f o).1, .int .i64 (f o).2] 42)).1
      obtain ⟨a0, a1, a2, _⟩ := cells3' tA
      obtain ⟨v0, v1, _⟩ := cells2' vA
      refine ⟨p, v, ⟨hkw, hkw.at ht id⟩, by have := hk.size; have := h3.2.2.2.1; omega, ⟨a0, a1, a2, v0, v1⟩, fun n => ?_⟩
      have kn := Keeps.drewN (fun _ => False) (w'.alloc (.cells #[.int .i64 (f o).1, .int .i64 (f o).2] 42)) n
      refine (with_anyP 3 p v f o y _ _ (by decide) (hs.keep (hkA.trans kn).none_nodesP) hol).mono fun e w'' ⟨p', v', he, hk', hs'⟩ => ⟨p', v', he, ⟨kn.trans hk', hs'.mono fun _ _ => trivial, (kn.trans hk').at rA id⟩, ?_, ?_⟩
      · obtain ⟨d0, d1, d2, df⟩ := cells3' ((kn.trans hk').at tA id)
        exact ⟨d0, d1, d2, df 0, df 1, df 2⟩
      · obtain ⟨d0, d1, _⟩ := cells2' ((kn.trans hk').at wA id)
        obtain ⟨r0, r1, rf⟩ := cells2' ((kn.trans hk').at rA id)
        exact ⟨d0, d1, r0, r1, rf 0, rf 1⟩
    have hr := fun (W : World) n => reach_any (W.drewN n)
    have HH := Hid.mk' h3
    clear hK3 h3 hb hgo heo hso
    obtain hy | hy : (y.1 == 0 && y.2 == 0) = false ∨ y = (0, 0) := by
      by_cases h1 : y.1 = 0
      · by_cases h2 : y.2 = 0
        · exact .inr (Prod.ext h1 h2)
        · left; simp [h2]
      · left; simp [h1]
    · have heq' : ∀ W : World, (Op.equalIn 10000 42 (.agg #[.int .i64 y.1, .int .i64 y.2]) (.agg #[.int .i64 0, .int .i64 0])).run Try.prog W = .ok false W := fun W => by have := heq W; simp only [] at this; rw [hy] at this; exact this
      have HT := Hid.mk' h
      clear heq hy h
      go_enter Try.func18, Try.ntmps18
      go_wp2_with (first
        | (go_at_call 35; refine (ho _).mono ?_; rintro e w1 ⟨rfl, hw⟩; subst w1)
        | (go_at_call 17; refine hg'.mono ?_; rintro e w1 ⟨rfl, w0, hw, p, v, hk0, hsz, ⟨a0, a1, a2, v0, v1⟩, hwi⟩; subst w1))
      have hne1 : ¬ t = w0.heap.size := by omega
      have hne2 : ¬ w0.heap.size = t := by omega
      have hne3 : ¬ t = w.heap.size + 1 := by omega
      have hne4 : ¬ w.heap.size + 1 = t := by omega
      have hne5 : ¬ w0.heap.size = w.heap.size + 1 := by omega
      have hne6 : ¬ w.heap.size + 1 = w0.heap.size := by omega
      go_region_with (first
        | (go_at_call 33; refine (hr _ _).mono ?_; rintro e w' ⟨rfl, hw⟩; subst w')
        | (go_at_call 39; refine (hwi _).mono ?_; rintro e w4 ⟨p', v', rfl, hx, ⟨x0, x1, x2, x3, x4, x5⟩, ⟨z0, z1, z2, z3, z4, z5⟩⟩))
      all_goals
        go_wp2
        have ks3 := set_keeps3 w4 t 0 1 2 (.pointer p') (.int .i64 v'.1) (.int .i64 v'.2)
        have kA := Keeps.new w0 (.cells #[.int .i64 (f o).1, .int .i64 (f o).2] 42)
        have hk4 := (hk0.out.1.trans kA).trans hx.out.1
        have ht4 := (kA.trans hx.out.1).at hk0.out.2 id
        have ht5 := set3b ht4 (.pointer p') (.int .i64 v'.1) (.int .i64 v'.2)
        have hr5 := ks3.at hx.out.2.2 (show ¬ w.heap.size + 1 = t by omega)
        have hs5 := hx.out.2.1.keep (ks3.nodesP (by rintro c q u rfl hn; have := ht4.symm.trans hn; simp at this))
        have hk5 := (hk4.mono (Y := fun c => c = t) (fun _ _ h => h.elim)).trans ks3
        generalize ((w4.setCell ⟨t, 0, none⟩ (.pointer p')).setCell ⟨t, 1, none⟩ (.int .i64 v'.1)).setCell ⟨t, 2, none⟩ (.int .i64 v'.2) = w5 at *
        have ks2 := set_keeps w5 (w.heap.size + 1) 0 1 (.int .i64 (f o).1) (.int .i64 (f o).2)
        have hr6 := set2b hr5 (.int .i64 (f o).1) (.int .i64 (f o).2)
        have ht6 := ks2.at ht5 (show ¬ t = w.heap.size + 1 by omega)
        have hs6 := hs5.keep (ks2.nodesP (by rintro c q u rfl hn; have := hr5.symm.trans hn; simp at this))
        have hk6 := hk5.then ks2 (by rintro c rfl; right; omega)
        generalize (w5.setCell ⟨w.heap.size + 1, 0, none⟩ (.int .i64 (f o).1)).setCell ⟨w.heap.size + 1, 1, none⟩ (.int .i64 (f o).2) = w6 at *
        obtain ⟨q0, q1, _⟩ := cells2' hr6
        refine bodyPost_ret (v := .tuple #[.agg #[.int .i64 (f o).1, .int .i64 (f o).2], .int .i64 0]) ?_ rfl ?_
        · simp [results, Try.results18, go_sem, q0, q1]
        · exact ⟨rfl, hk6, p', v', ht6, hs6⟩
    · subst hy
      have heq' : ∀ W : World, (Op.equalIn 10000 42 (.agg #[.int .i64 0, .int .i64 0]) (.agg #[.int .i64 0, .int .i64 0])).run Try.prog W = .ok true W := fun W => heq W
      have HT := Hid.mk' h
      clear heq h
      go_enter Try.func18, Try.ntmps18
      go_wp2_with (first
        | (go_at_call 35; refine (ho _).mono ?_; rintro e w1 ⟨rfl, hw⟩; subst w1)
        | (go_at_call 17; refine hg'.mono ?_; rintro e w1 ⟨rfl, w0, hw, p, v, hk0, hsz, ⟨a0, a1, a2, v0, v1⟩, hwi⟩; subst w1))
      have hne1 : ¬ t = w0.heap.size := by omega
      have hne2 : ¬ w0.heap.size = t := by omega
      have hne3 : ¬ t = w.heap.size + 1 := by omega
      have hne4 : ¬ w.heap.size + 1 = t := by omega
      have hne5 : ¬ w0.heap.size = w.heap.size + 1 := by omega
      have hne6 : ¬ w.heap.size + 1 = w0.heap.size := by omega
      go_region_with (first
        | (go_at_call 33; refine (hr _ _).mono ?_; rintro e w' ⟨rfl, hw⟩; subst w')
        | (go_at_call 39; refine (hwi _).mono ?_; rintro e w4 ⟨p', v', rfl, hx, ⟨x0, x1, x2, x3, x4, x5⟩, ⟨z0, z1, z2, z3, z4, z5⟩⟩))
      all_goals
        go_wp2
        have ks3 := set_keeps3 w4 t 0 1 2 (.pointer p') (.int .i64 v'.1) (.int .i64 v'.2)
        have kA := Keeps.new w0 (.cells #[.int .i64 (f o).1, .int .i64 (f o).2] 42)
        have hk4 := (hk0.out.1.trans kA).trans hx.out.1
        have ht4 := (kA.trans hx.out.1).at hk0.out.2 id
        have ht5 := set3b ht4 (.pointer p') (.int .i64 v'.1) (.int .i64 v'.2)
        have hr5 := ks3.at hx.out.2.2 (show ¬ w.heap.size + 1 = t by omega)
        have hs5 := hx.out.2.1.keep (ks3.nodesP (by rintro c q u rfl hn; have := ht4.symm.trans hn; simp at this))
        have hk5 := (hk4.mono (Y := fun c => c = t) (fun _ _ h => h.elim)).trans ks3
        generalize ((w4.setCell ⟨t, 0, none⟩ (.pointer p')).setCell ⟨t, 1, none⟩ (.int .i64 v'.1)).setCell ⟨t, 2, none⟩ (.int .i64 v'.2) = w5 at *
        have ks2 := set_keeps w5 (w.heap.size + 1) 0 1 (.int .i64 (f o).1) (.int .i64 (f o).2)
        have hr6 := set2b hr5 (.int .i64 (f o).1) (.int .i64 (f o).2)
        have ht6 := ks2.at ht5 (show ¬ t = w.heap.size + 1 by omega)
        have hs6 := hs5.keep (ks2.nodesP (by rintro c q u rfl hn; have := hr5.symm.trans hn; simp at this))
        have hk6 := hk5.then ks2 (by rintro c rfl; right; omega)
        generalize (w5.setCell ⟨w.heap.size + 1, 0, none⟩ (.int .i64 (f o).1)).setCell ⟨w.heap.size + 1, 1, none⟩ (.int .i64 (f o).2) = w6 at *
        obtain ⟨q0, q1, _⟩ := cells2' hr6
        refine bodyPost_ret (v := .tuple #[.agg #[.int .i64 (f o).1, .int .i64 (f o).2], .int .i64 0]) ?_ rfl ?_
        · simp [results, Try.results18, go_sem, q0, q1]
        · exact ⟨rfl, hk6, p', v', ht6, hs6⟩

end Go.Proofs.Ytndojlacdggfcaa
