import Derived.Test.YtnafocbgapianabA7
namespace Go.Proofs.Ytnafocbgapianab
open Go.RowKit

/-- A shape. -/
structure Sh where
  pages : Nat
  inodes : Nat
  cores : Nat
  data : Nat

def Sh.Good (s : Sh) : Prop := 24 ≤ s.pages ∧ s.pages ≤ 1024 ∧ 8 ≤ s.inodes ∧ s.inodes ≤ 256 ∧ s.inodes % 8 = 0 ∧ 1 ≤ s.cores ∧ s.cores ≤ 8 ∧ s.data = 4 + s.inodes / 8 ∧ s.data + 8 ≤ s.pages
def Sh.agg (s : Sh) : Value := .agg #[.int .i64 s.pages, .int .i64 s.inodes, .int .i64 s.cores, .int .i64 s.data]
def Sh.rest (s : Sh) : List Value := [.int .i64 s.pages, .int .i64 s.inodes, .int .i64 s.cores, .int .i64 s.data]

/-- A pool in memory. -/
structure PoolAt (w : World) (d : Nat) (s : Sh) (S : Nat → Bool) : Prop where
  at_ : w.heap[d]? = some (mkObj s.pages S s.rest 89)
  good : s.Good
  sup : ∀ i, S i = true → s.data ≤ i ∧ i < s.pages

theorem PoolAt.kept {X : Nat → Prop} {w w' : World} {d : Nat} {s : Sh} {S : Nat → Bool} (h : PoolAt w d s S) (k : Keeps X w w') (hx : ¬ X d) : PoolAt w' d s S := ⟨k.at h.at_ hx, h.good, h.sup⟩

theorem PoolAt.cells {w : World} {d : Nat} {s : Sh} {S : Nat → Bool} (h : PoolAt w d s S) :
    w.cell? ⟨d, 17, none⟩ = some (.int .i64 s.pages) ∧ w.cell? ⟨d, 19, none⟩ = some (.int .i64 s.cores) ∧ w.cell? ⟨d, 20, none⟩ = some (.int .i64 s.data) :=
  ⟨mk_rest h.at_ 0 _ rfl, mk_rest h.at_ 2 _ rfl, mk_rest h.at_ 3 _ rfl⟩

/-- The first page of a core's area. -/
def bord (s : Sh) (c : Nat) : Nat := s.data + c * (s.pages - s.data) / s.cores

theorem bord_zero (s : Sh) : bord s 0 = s.data := by simp [bord]
theorem bord_all {s : Sh} (h : s.Good) : bord s s.cores = s.pages := by
  obtain ⟨h1, h2, h3, h4, h5, h6, h7, h8, h9⟩ := h
  unfold bord
  rw [Nat.mul_div_cancel_left _ (by omega)]; omega
theorem bord_lt {s : Sh} (h : s.Good) (c : Nat) : bord s c < bord s (c + 1) := by
  obtain ⟨h1, h2, h3, h4, h5, h6, h7, h8, h9⟩ := h
  unfold bord
  have : c * (s.pages - s.data) / s.cores + 1 ≤ (c + 1) * (s.pages - s.data) / s.cores := by
    rw [Nat.le_div_iff_mul_le (by omega), Nat.add_mul, Nat.add_mul]
    have := Nat.div_mul_le_self (c * (s.pages - s.data)) s.cores
    omega
  omega
theorem bord_mono {s : Sh} (h : s.Good) {a b : Nat} (hab : a ≤ b) : bord s a ≤ bord s b := by
  obtain ⟨k, rfl⟩ : ∃ k, b = a + k := ⟨b - a, by omega⟩
  induction k with
  | zero => exact Nat.le_refl _
  | succ k ih => exact Nat.le_trans (ih (by omega)) (Nat.le_of_lt (bord_lt h _))
theorem bord_ge (s : Sh) (c : Nat) : s.data ≤ bord s c := Nat.le_add_right _ _
theorem bord_le {s : Sh} (h : s.Good) {c : Nat} (hc : c ≤ s.cores) : bord s c ≤ s.pages := by rw [← bord_all h]; exact bord_mono h hc

set_option maxHeartbeats 2000000 in
theorem border_any (w : World) (d : Nat) (s : Sh) (S : Nat → Bool) (h : PoolAt w d s S) (c : Nat) (hc : c ≤ 9) :
    Calls Try.prog 48 #[.pointer (some ⟨d, 0, none⟩), .int .i64 c] w fun e w' => e = .returned (.int .i64 (bord s c)) ∧ ∃ m, w' = w.drewN m := by
  obtain ⟨c0, c1, c2⟩ := h.cells
  have hg := h.good
  obtain ⟨h1, h2, h3, h4, h5, h6, h7, h8, h9⟩ := hg
  have hsub : (s.pages : Int) - (s.data : Int) = ((s.pages - s.data : Nat) : Int) := by omega
  have hle : c * (s.pages - s.data) ≤ 9 * 1024 := Nat.mul_le_mul hc (by omega)
  have hmul : (c : Int) * ((s.pages - s.data : Nat) : Int) = ((c * (s.pages - s.data) : Nat) : Int) := by push_cast; rfl
  have hdiv : (((c * (s.pages - s.data) : Nat) : Int)).tdiv (s.cores : Int) = ((c * (s.pages - s.data) / s.cores : Nat) : Int) := by
    rw [Int.tdiv_eq_ediv_of_nonneg (by omega)]; rfl
  have hdl : c * (s.pages - s.data) / s.cores ≤ 9 * 1024 := Nat.le_trans (Nat.div_le_self _ _) hle
  have hB : bord s c = s.data + c * (s.pages - s.data) / s.cores := rfl
  generalize bord s c = B at *
  generalize hX : c * (s.pages - s.data) / s.cores = X at *
  generalize hM : c * (s.pages - s.data) = M at *
  generalize hD : s.pages - s.data = D at *
  have hw1 : IntKind.i64.wrap ((s.pages : Int) - (s.data : Int)) = (D : Int) := by rw [hsub]; exact i64_id (by omega) (by omega)
  have hw2 : IntKind.i64.wrap ((c : Int) * (D : Int)) = (M : Int) := by rw [hmul]; exact i64_id (by omega) (by omega)
  have hw3 : IntKind.i64.wrap (X : Int) = (X : Int) := i64_id (by omega) (by omega)
  have hw4 : IntKind.i64.wrap ((s.data : Int) + (X : Int)) = (B : Int) := by rw [hB]; exact i64_id (by omega) (by omega)
  have hw5 : ¬ (s.cores : Int) = 0 := by omega
  have hw6 : ¬ s.cores = 0 := by omega
  have HF : Hid (wrap64 ((s.data : Int) + wrap64 ((wrap64 (M : Int)).tdiv (s.cores : Int))) = (B : Int)) := by
    show _ = _
    rw [wrap64_id (x := (M : Int)) (by omega) (by omega), hdiv, wrap64_id (x := (X : Int)) (by omega) (by omega), wrap64_id (by omega) (by omega), hB]
    omega
  clear hX hM hD hB h3 h4 h5 h8 h9 hle hdl h
  go_enter Try.func48, Try.ntmps48
  go_wp2
  go_quiet (fail)
  go_wp2
  go_ret
  exact ⟨ret_int HF.out, nq, rfl⟩

/-- Whether a number is a core. -/
def isC (s : Sh) (c : Int) : Bool := decide (0 ≤ c ∧ c < s.cores)
theorem isC_yes {s : Sh} {c : Int} (h : 0 ≤ c ∧ c < s.cores) : isC s c = true := by simp [isC, h]
theorem isC_no {s : Sh} {c : Int} (h : ¬ (0 ≤ c ∧ c < s.cores)) : isC s c = false := by unfold isC; exact decide_eq_false h

set_option maxHeartbeats 2000000 in
theorem isCore_any (w : World) (d : Nat) (s : Sh) (S : Nat → Bool) (h : PoolAt w d s S) (c : Int) :
    Calls Try.prog 45 #[.pointer (some ⟨d, 0, none⟩), .int .i64 c] w fun e w' => e = .returned (.bool (isC s c)) ∧ w' = w := by
  obtain ⟨c0, c1, c2⟩ := h.cells
  go_enter Try.func45, Try.ntmps45
  go_wp2
  all_goals
    go_ret
    refine ⟨ret_bool ?_, rfl⟩
    first
      | (rw [isC_no (by omega)])
      | (by_cases hc : c < (s.cores : Int)
         · rw [decide_eq_true hc, isC_yes (by omega)]
         · rw [decide_eq_false hc, isC_no (by omega)])

/-- A core's area, as a value: the zero span for what is no core. -/
def areaF (s : Sh) (c : Int) : Nat := if 0 ≤ c ∧ c < s.cores then bord s c.toNat else 0
def areaC (s : Sh) (c : Int) : Nat := if 0 ≤ c ∧ c < s.cores then bord s (c.toNat + 1) - bord s c.toNat else 0
def areaV (s : Sh) (c : Int) : Value := .agg #[.int .i64 (areaF s c), .int .i64 (areaC s c)]

theorem area_in {s : Sh} {c : Nat} (h : c < s.cores) : areaF s c = bord s c ∧ areaC s c = bord s (c + 1) - bord s c := by
  have : (0 : Int) ≤ (c : Int) ∧ (c : Int) < (s.cores : Int) := by omega
  simp [areaF, areaC, this]
theorem area_out {s : Sh} {c : Int} (h : ¬ (0 ≤ c ∧ c < s.cores)) : areaF s c = 0 ∧ areaC s c = 0 := by simp [areaF, areaC, h]

set_option maxHeartbeats 2000000 in
theorem area_no (w : World) (d : Nat) (s : Sh) (S : Nat → Bool) (h : PoolAt w d s S) (c : Int) (hc : ¬ (0 ≤ c ∧ c < s.cores)) :
    Calls Try.prog 20 #[.pointer (some ⟨d, 0, none⟩), .int .i64 c] w fun e w' => e = .returned (.agg #[.int .i64 0, .int .i64 0]) ∧ Keeps (fun k => w.heap.size ≤ k) w w' := by
  have g0 : Keeps (fun k => w.heap.size ≤ k) w (w.alloc (.cells #[.int .i64 0, .int .i64 0] 46)) := Keeps.of (World.grownBy_alloc w _ none) (by simp)
  have hR := (MapKept.heap_alloc w (.cells #[.int .i64 0, .int .i64 0] 46)).1
  have hd := heap_lt h.at_
  have hi := isCore_any _ d s S (h.kept g0 (by omega)) c
  rw [isC_no hc] at hi
  clear h hc hR
  go_enter Try.func20, Try.ntmps20
  go_wp2_with (first | (go_at_call 45; refine hi.mono ?_; rintro e w1 ⟨rfl, hw⟩; subst w1))
  refine bodyPost_ret (v := .agg #[.int .i64 0, .int .i64 0]) (by simp [results, Try.results20, go_sem]) rfl ?_
  exact ⟨rfl, g0⟩

set_option maxHeartbeats 2000000 in
theorem area_yes (w : World) (d : Nat) (s : Sh) (S : Nat → Bool) (h : PoolAt w d s S) (c : Nat) (hc : c < s.cores) :
    Calls Try.prog 20 #[.pointer (some ⟨d, 0, none⟩), .int .i64 c] w fun e w' => e = .returned (.agg #[.int .i64 (bord s c), .int .i64 ((bord s (c + 1) - bord s c : Nat) : Int)]) ∧ Keeps (fun k => w.heap.size ≤ k) w w' := by
  have g0 : Keeps (fun k => w.heap.size ≤ k) w (w.alloc (.cells #[.int .i64 0, .int .i64 0] 46)) := Keeps.of (World.grownBy_alloc w _ none) (by simp)
  have hR := (MapKept.heap_alloc w (.cells #[.int .i64 0, .int .i64 0] 46)).1
  have hd := heap_lt h.at_
  have h1 := h.kept g0 (by omega)
  have hg := h.good
  have hi := isCore_any _ d s S h1 c
  rw [isC_yes (by omega)] at hi
  have h8 : s.cores ≤ 8 := hg.2.2.2.2.2.2.1
  have hb := border_any _ d s S h1 c (by omega)
  have hb2 := fun m => border_any _ d s S (h1.kept (Keeps.drewN (fun _ => False) _ m) (by simp)) (c + 1) (by omega)
  rw [Int.natCast_add] at hb2
  have hlt := bord_lt hg c
  have hle := bord_le hg (show c + 1 ≤ s.cores by omega)
  have hpg : s.pages ≤ 1024 := hg.2.1
  generalize bord s (c + 1) = y at *
  generalize bord s c = x at *
  obtain ⟨w1, hw1⟩ : ∃ w1, w1 = w.alloc (.cells #[.int .i64 0, .int .i64 0] 46) := ⟨_, rfl⟩
  obtain ⟨e0, e1, ef⟩ := cells2 hR
  have hyx : IntKind.i64.wrap ((y : Int) - (x : Int)) = ((y - x : Nat) : Int) := by rw [i64_id (by omega) (by omega)]; omega
  have hyx2 : ((y : Int) - (x : Int)) = ((y - x : Nat) : Int) := by omega
  go_enter Try.func20, Try.ntmps20
  go_wp2_with (first
    | (go_at_call 45; refine hi.mono ?_; clear hi; rintro e w1 ⟨rfl, hw⟩; subst w1)
    | (go_at_call 48; refine hb.mono ?_; clear hb; rintro e w1 ⟨rfl, m, hw⟩; subst w1)
    | (go_at_call 48; refine (hb2 _).mono ?_; clear hb2; rintro e w1 ⟨rfl, m2, hw⟩; subst w1))
  refine bodyPost_ret (v := .agg #[.int .i64 x, .int .i64 ((y - x : Nat) : Int)]) (by simp [results, Try.results20, go_sem]) rfl ?_
  refine ⟨rfl, ?_⟩
  exact (g0.trans (Keeps.drewN _ _ (m + m2))).then (set2 (w := (w.alloc (.cells #[.int .i64 0, .int .i64 0] 46)).drewN (m + m2)) hR (.int .i64 x) (.int .i64 ((y - x : Nat) : Int))).2 (by intro k hk; right; omega)

theorem area_any (w : World) (d : Nat) (s : Sh) (S : Nat → Bool) (h : PoolAt w d s S) (c : Int) :
    Calls Try.prog 20 #[.pointer (some ⟨d, 0, none⟩), .int .i64 c] w fun e w' => e = .returned (.agg #[.int .i64 (areaF s c), .int .i64 (areaC s c)]) ∧ Keeps (fun k => w.heap.size ≤ k) w w' := by
  by_cases hc : 0 ≤ c ∧ c < s.cores
  · obtain ⟨k, rfl⟩ := Int.eq_ofNat_of_zero_le hc.1
    rw [(area_in (show k < s.cores by omega)).1, (area_in (show k < s.cores by omega)).2]
    exact area_yes w d s S h k (by omega)
  · rw [(area_out hc).1, (area_out hc).2]
    exact area_no w d s S h c hc

set_option maxHeartbeats 2000000 in
theorem free_any (w : World) (d : Nat) (s : Sh) (S : Nat → Bool) (h : PoolAt w d s S) :
    Calls Try.prog 23 #[.pointer (some ⟨d, 0, none⟩)] w fun e w' => e = .returned (.int .i64 (cn S s.pages)) ∧ w' = w := by
  have hc := count_any w d s.pages S s.rest 89 h.at_
  rw [cn_beyond (fun i hi => (h.sup i hi).2) h.good.2.1] at hc
  clear h
  go_enter Try.func23, Try.ntmps23
  go_wp2_with (first | (go_at_call 46; refine hc.mono ?_; rintro e w1 ⟨rfl, hw⟩; subst w1))
  go_ret
  exact ⟨rfl, rfl⟩

set_option maxHeartbeats 2000000 in
theorem phas_any (w : World) (d : Nat) (s : Sh) (S : Nat → Bool) (h : PoolAt w d s S) (i : Int) :
    Calls Try.prog 50 #[.pointer (some ⟨d, 0, none⟩), .int .i64 i] w fun e w' => e = .returned (.bool (hasI s.pages S i)) ∧ ∃ m, w' = w.drewN m := by
  have hc := has_any w d s.pages i S s.rest 89 h.at_ h.good.2.1
  clear h
  go_enter Try.func50, Try.ntmps50
  go_wp2_with (first | (go_at_call 51; refine hc.mono ?_; rintro e w1 ⟨rfl, m, hw⟩; subst w1))
  go_ret
  exact ⟨rfl, m, rfl⟩

theorem SpAt.mono {w : World} {B B' : Nat} {v : Value} {l : List (Nat × Nat)} (h : SpAt w B v l) (hb : B' ≤ B) : SpAt w B' v l := by
  obtain ⟨h1, h2⟩ := h
  refine ⟨h1, ?_⟩
  rcases h2 with h2 | ⟨g, cap, cur, hv, hg, r⟩
  · exact Or.inl h2
  · exact Or.inr ⟨g, cap, cur, hv, Nat.le_trans hb hg, r⟩
theorem eq_true_fun (S : Nat → Bool) : (fun j => S j == true) = S := by funext j; cases S j <;> rfl

set_option maxHeartbeats 2000000 in
theorem pspans_any (w : World) (d : Nat) (s : Sh) (S : Nat → Bool) (h : PoolAt w d s S) :
    Calls Try.prog 14 #[.pointer (some ⟨d, 0, none⟩)] w fun e w' => ∃ v, e = .returned v ∧ SpAt w' w.heap.size v (sp S 0 s.pages) ∧ Keeps (fun k => w.heap.size ≤ k) w w' := by
  have h0 := mk_len h.at_
  have hc := fun m => spans_any (w.drewN m) d s.pages 0 s.pages true S s.rest 89 h.at_ h.good.2.1
  rw [eq_true_fun, show clamp s.pages 0 = 0 from clamp_in (Nat.zero_le _), clamp_in (Nat.le_refl _), Nat.sub_zero] at hc
  clear h
  go_enter Try.func14, Try.ntmps14
  go_wp2
  go_region_with ((go_at_call 44; refine (hc _).mono ?_; rintro e w1 ⟨v, rfl, hx⟩; have HX := Hid.mk' hx; clear hx))
  all_goals
    go_wp2
    go_ret
    exact ⟨_, rfl, HX.out.1, (Keeps.drewN _ w 1).trans HX.out.2⟩

set_option maxHeartbeats 2000000 in
theorem pcore_any (w : World) (d : Nat) (s : Sh) (S : Nat → Bool) (h : PoolAt w d s S) (c : Int) :
    Calls Try.prog 19 #[.pointer (some ⟨d, 0, none⟩), .int .i64 c] w fun e w' => ∃ v, e = .returned v ∧ SpAt w' w.heap.size v (sp S (areaF s c) (areaC s c)) ∧ Keeps (fun k => w.heap.size ≤ k) w w' := by
  have ha := area_any w d s S h c
  have hbd : areaF s c + areaC s c ≤ s.pages := by
    by_cases hc : 0 ≤ c ∧ c < s.cores
    · obtain ⟨k, rfl⟩ := Int.eq_ofNat_of_zero_le hc.1
      have h1 := bord_lt h.good k
      have h2 := bord_le h.good (show k + 1 ≤ s.cores by omega)
      rw [(area_in (show k < s.cores by omega)).1, (area_in (show k < s.cores by omega)).2]; omega
    · rw [(area_out hc).1, (area_out hc).2]; omega
  have hpg : s.pages ≤ 1024 := h.good.2.1
  have HP := Hid.mk' h
  have hdl := heap_lt h.at_
  generalize areaF s c = F at *
  generalize areaC s c = C at *
  clear h
  go_enter Try.func19, Try.ntmps19
  go_wp2_with (first
    | (go_at_call 20; refine ha.mono ?_; rintro e w1 ⟨rfl, hk⟩
       have HK1 := Hid.mk' (hk.then (X := fun k => w.heap.size ≤ k) (Keeps.of (X := fun k => w.heap.size ≤ k) (World.grownBy_alloc w1 (.cells #[.int .i64 (F : Int), .int .i64 (C : Int)] 46) none) (by simp)) (fun k hk => Or.inl hk))
       have hR := (MapKept.heap_alloc w1 (.cells #[.int .i64 (F : Int), .int .i64 (C : Int)] 46)).1
       have hc := fun m => spans_any ((w1.alloc (.cells #[.int .i64 (F : Int), .int .i64 (C : Int)] 46)).drewN m) d s.pages F ((F + C : Nat) : Int) true S s.rest 89 (HK1.out.at HP.out.at_ (by omega)) hpg
       rw [eq_true_fun, clamp_in (show F ≤ s.pages by omega), clamp_in (show F + C ≤ s.pages by omega), Nat.add_sub_cancel_left, Int.natCast_add] at hc
       have hsz := hk.size
       clear hk hR))
  have hs : IntKind.i64.wrap ((F : Int) + (C : Int)) = (F : Int) + (C : Int) := i64_id (by omega) (by omega)
  go_region_with ((go_at_call 44; refine (hc _).mono ?_; rintro e w2 ⟨v, rfl, hx⟩; have HX := Hid.mk' hx; clear hx))
  all_goals
    go_wp2
    go_ret
    refine ⟨_, rfl, HX.out.1.mono (by simp; omega), ?_⟩
    exact (HK1.out.trans (Keeps.drewN _ _ 1)).then HX.out.2 (by intro k hk; right; simp at hk; omega)

end Go.Proofs.Ytnafocbgapianab
