import Derived.Test.YtdlhdompemkjfaaGreatDoorKW8
namespace Go.Proofs.YtdlhdompemkjfaaGreatDoor
open Go.RowKit Go.Maps
set_option maxRecDepth 100000

/-! Lists that are each their own. -/
theorem ints_set (xs : List Int) (i : Nat) (y : Int) : ints (xs.set i y) = (ints xs).set i (.int .i64 y) := by simp [ints, List.map_set]
/-- What ScriptApart holds: the step, the two steps that Parse told, the one that Line told. -/
structure AX (w W : World) (B3 B8 : Nat) (M : List Int) (vl z0 z1 z8 zS : Value) (x0 x8 : List Int) : Prop where
  k : Keeps (fun _ => False) w W
  b3 : W.heap[B3]? = some (.cells (scell (csS M) zS) 24 (0, 0))
  b8 : W.heap[B8]? = some (.cells (scell (csS M) z8) 24 (0, 0))
  rl : W.ownsRow w.heap.size 24 7 vl 2 (pcells [(csS M, z0), (csS M, z1)])
  r0 : W.ownsRow w.heap.size 3 1 z0 x0.length (ints x0)
  r1 : W.ownsRow w.heap.size 3 1 z1 M.length (ints M)
  r8 : W.ownsRow w.heap.size 3 1 z8 x8.length (ints x8)
  rS : W.ownsRow w.heap.size 3 1 zS M.length (ints M)
  a01 : Ap z0 z1
  a08 : Ap z0 z8
  a0S : Ap z0 zS
  a18 : Ap z1 z8
  a1S : Ap z1 zS
  a8S : Ap z8 zS
  l0 : x0.length = M.length
  l8 : x8.length = M.length
theorem AX.keep {w A B : World} {B3 B8 : Nat} {M : List Int} {vl z0 z1 z8 zS : Value} {x0 x8 : List Int} (h : AX w A B3 B8 M vl z0 z1 z8 zS x0 x8) (k : Keeps (fun _ => False) A B) : AX w B B3 B8 M vl z0 z1 z8 zS x0 x8 :=
  ⟨h.k.trans k, k.at h.b3 id, k.at h.b8 id, own_grow h.rl k, own_grow h.r0 k, own_grow h.r1 k, own_grow h.r8 k, own_grow h.rS k, h.a01, h.a08, h.a0S, h.a18, h.a1S, h.a8S, h.l0, h.l8⟩
theorem int_row {W : World} {base : Nat} {v : Value} {n : Nat} {xs : List Value} (h : W.ownsRow base 3 1 v n xs) (h0 : 0 < n) : ∃ g c cur, v = .slice (some ⟨g, 0, none⟩) n c ∧ n ≤ c ∧ base ≤ g ∧ W.heap[g]? = some (.cells cur 3 (0, 0)) := by
  rcases h.2 with ⟨rfl, h1⟩ | ⟨g, cap, cur, rfl, hg, hb, h1, _⟩
  · omega
  · exact ⟨g, cap, cur, rfl, h1, hg, hb⟩
theorem AX.write0 {w W : World} {B3 B8 : Nat} {M : List Int} {vl z0 z1 z8 zS : Value} {x0 x8 : List Int} (h : AX w W B3 B8 M vl z0 z1 z8 zS x0 x8) {i : Nat} (hi : i < M.length) : ∃ g c x, z0 = .slice (some ⟨g, 0, none⟩) M.length c ∧ M.length ≤ c ∧ W.cell? ⟨g, i, none⟩ = some (.int .i64 x) ∧ W.frozen? ⟨g, i, none⟩ = false ∧ ∀ y, AX w (W.setCell ⟨g, i, none⟩ (.int .i64 y)) B3 B8 M vl z0 z1 z8 zS (x0.set i y) x8 := by
  have hr := h.r0
  rw [h.l0] at hr
  obtain ⟨g, c, cur, e, hc, hg, hb⟩ := int_row hr (by omega)
  subst e
  have hx : x0[i]? = some (x0[i]'(by have := h.l0; omega)) := List.getElem?_eq_getElem _
  refine ⟨g, c, _, rfl, hc, own_cell hr (g := g) rfl (ints_get hx), by simp only [World.frozen?, hb]; simp, fun y => ?_⟩
  have k1 : Keeps (fun j => j = g) W (W.setCell ⟨g, i, none⟩ (.int .i64 y)) := Keeps.of (grownBy_setCell _ _ _) (fun j hj => Or.inl (by cases hj; rfl))
  have hne : ∀ B cs, W.heap[B]? = some (.cells cs 24 (0, 0)) → ¬ B = g := by
    rintro B cs hB rfl
    rw [hb] at hB
    injection hB with hB
    injection hB with _ hB _
    exact absurd hB (by decide)
  have hap : ∀ v, Ap (.slice (some ⟨g, 0, none⟩) M.length c) v → ∀ q, v.ownBlock = some q → ¬ q = g := fun v ha q hq e => ha g rfl (by rw [← e]; exact hq)
  exact ⟨h.k.then k1 (fun j hj => Or.inr (by rw [hj]; exact hg)), k1.at h.b3 (hne _ _ h.b3), k1.at h.b8 (hne _ _ h.b8),
    own_keep h.rl k1 (fun q hq e => own_types h.rl h.r0 (by decide) q hq (by rw [e]; rfl)),
    by rw [List.length_set, ints_set]; exact ownsRow_set h.r0 (g := g) rfl i _, own_keep h.r1 k1 (hap _ h.a01), own_keep h.r8 k1 (hap _ h.a08), own_keep h.rS k1 (hap _ h.a0S),
    h.a01, h.a08, h.a0S, h.a18, h.a1S, h.a8S, by rw [List.length_set]; exact h.l0, h.l8⟩
/-- .. behind the first append. -/
structure AY (w W : World) (B3 B8 : Nat) (M : List Int) (vl z0 z1 z8 zS vg : Value) (x0 x8 : List Int) : Prop where
  k : Keeps (fun _ => False) w W
  b3 : W.heap[B3]? = some (.cells (scell (csS M) zS) 24 (0, 0))
  b8 : W.heap[B8]? = some (.cells (scell (csS M) z8) 24 (0, 0))
  rl : W.ownsRow w.heap.size 24 7 vl 2 (pcells [(csS M, z0), (csS M, z1)])
  r0 : Row W z0 M.length (ints x0)
  rg : Row W vg (M.length + 3) (ints (x0 ++ [70, 71, 72]))
  r1 : W.ownsRow w.heap.size 3 1 z1 M.length (ints M)
  r8 : W.ownsRow w.heap.size 3 1 z8 x8.length (ints x8)
  rS : W.ownsRow w.heap.size 3 1 zS M.length (ints M)
  a01 : Ap z0 z1
  a08 : Ap z0 z8
  ag1 : Ap vg z1
  ag8 : Ap vg z8
  a18 : Ap z1 z8
  a1S : Ap z1 zS
  a8S : Ap z8 zS
  l0 : x0.length = M.length
  l8 : x8.length = M.length
theorem AY.keep {w A B : World} {B3 B8 : Nat} {M : List Int} {vl z0 z1 z8 zS vg : Value} {x0 x8 : List Int} (h : AY w A B3 B8 M vl z0 z1 z8 zS vg x0 x8) (k : Keeps (fun _ => False) A B) : AY w B B3 B8 M vl z0 z1 z8 zS vg x0 x8 :=
  ⟨h.k.trans k, k.at h.b3 id, k.at h.b8 id, own_grow h.rl k, h.r0.keep k, h.rg.keep k, own_grow h.r1 k, own_grow h.r8 k, own_grow h.rS k, h.a01, h.a08, h.ag1, h.ag8, h.a18, h.a1S, h.a8S, h.l0, h.l8⟩
/-- A step's box is no list of numbers. -/
theorem box_ne {W : World} {base B : Nat} {cs : Array Value} {v : Value} {n : Nat} {xs : List Value} (hb : W.heap[B]? = some (.cells cs 24 (0, 0))) (h : W.ownsRow base 3 1 v n xs) : ¬ v.ownBlock = some B := by
  intro hv
  obtain ⟨cur, hc⟩ := row_obj h hv
  rw [hb] at hc
  injection hc with hc
  injection hc with _ hc _
  exact absurd hc (by decide)
theorem AX.app {w W W' : World} {B3 B8 : Nat} {M : List Int} {vl z0 z1 z8 zS : Value} {x0 x8 : List Int} (h : AX w W B3 B8 M vl z0 z1 z8 zS x0 x8) {g cap : Nat}
    (h1 : W'.ownsRow w.heap.size 3 1 (.slice (some ⟨g, 0, none⟩) (x0.length + 3) cap) (x0.length + 3) (ints (x0 ++ [70, 71, 72]))) (hk : Keeps (fun k => z0.ownBlock = some k) W W') (hw : z0.ownBlock = some g ∨ (g = W.heap.size + 1 ∧ Keeps (fun _ => False) W W')) (hst : ∀ (b j : Nat) (u : Value), z0.ownBlock = some b → (ints x0)[j]? = some u → W'.cell? ⟨b, j, none⟩ = some u) :
    AY w W' B3 B8 M vl z0 z1 z8 zS (.slice (some ⟨g, 0, none⟩) (M.length + 3) cap) x0 x8 := by
  have hrow := Row.of_own h1
  rw [h.l0] at hrow
  have hr0 := row_stay h.r0 hk.size hst
  rw [h.l0] at hr0
  have hap : ∀ v n xs, Ap z0 v → W.ownsRow w.heap.size 3 1 v n xs → Ap (.slice (some ⟨g, 0, none⟩) (M.length + 3) cap) v := by
    intro v n xs ha ho q hq hv
    obtain rfl : g = q := by simpa [Value.ownBlock] using hq
    rcases hw with e | ⟨e, _⟩
    · exact ha g e hv
    · have := (ho.lt g hv).2; omega
  exact ⟨h.k.then hk (fun j hj => Or.inr ((h.r0.lt j hj).1)), hk.at h.b3 (box_ne h.b3 h.r0), hk.at h.b8 (box_ne h.b8 h.r0), own_keep h.rl hk (fun q hq e => own_types h.rl h.r0 (by decide) q hq e), hr0, hrow,
    own_keep h.r1 hk (fun q hq e => h.a01 q e hq), own_keep h.r8 hk (fun q hq e => h.a08 q e hq), own_keep h.rS hk (fun q hq e => h.a0S q e hq), h.a01, h.a08, hap _ _ _ h.a01 h.r1, hap _ _ _ h.a08 h.r8, h.a18, h.a1S, h.a8S, h.l0, h.l8⟩
theorem AY.write8 {w W : World} {B3 B8 : Nat} {M : List Int} {vl z0 z1 z8 zS vg : Value} {x0 x8 : List Int} (h : AY w W B3 B8 M vl z0 z1 z8 zS vg x0 x8) {i : Nat} (hi : i < M.length) : ∃ g c x, z8 = .slice (some ⟨g, 0, none⟩) M.length c ∧ M.length ≤ c ∧ W.cell? ⟨g, i, none⟩ = some (.int .i64 x) ∧ W.frozen? ⟨g, i, none⟩ = false ∧ ∀ y, AY w (W.setCell ⟨g, i, none⟩ (.int .i64 y)) B3 B8 M vl z0 z1 z8 zS vg x0 (x8.set i y) := by
  have hr := h.r8
  rw [h.l8] at hr
  obtain ⟨g, c, cur, e, hc, hg, hb⟩ := int_row hr (by omega)
  subst e
  have hx : x8[i]? = some (x8[i]'(by have := h.l8; omega)) := List.getElem?_eq_getElem _
  refine ⟨g, c, _, rfl, hc, own_cell hr (g := g) rfl (ints_get hx), by simp only [World.frozen?, hb]; simp, fun y => ?_⟩
  have k1 : Keeps (fun j => j = g) W (W.setCell ⟨g, i, none⟩ (.int .i64 y)) := Keeps.of (grownBy_setCell _ _ _) (fun j hj => Or.inl (by cases hj; rfl))
  have hne : ∀ B cs, W.heap[B]? = some (.cells cs 24 (0, 0)) → ¬ B = g := fun B cs hB e => box_ne hB h.r8 (by rw [e]; rfl)
  have hap : ∀ v, Ap v (.slice (some ⟨g, 0, none⟩) M.length c) → ∀ q, v.ownBlock = some q → ¬ q = g := fun v ha q hq e => ha q hq (by rw [e]; rfl)
  exact ⟨h.k.then k1 (fun j hj => Or.inr (by rw [hj]; exact hg)), k1.at h.b3 (hne _ _ h.b3), k1.at h.b8 (hne _ _ h.b8),
    own_keep h.rl k1 (fun q hq e => own_types h.rl h.r8 (by decide) q hq (by rw [e]; rfl)), h.r0.keepX k1 (hap _ h.a08), h.rg.keepX k1 (hap _ h.ag8), own_keep h.r1 k1 (hap _ h.a18),
    by rw [List.length_set, ints_set]; exact ownsRow_set h.r8 (g := g) rfl i _, own_keep h.rS k1 (hap _ h.a8S.symm), h.a01, h.a08, h.ag1, h.ag8, h.a18, h.a1S, h.a8S, h.l0, by rw [List.length_set]; exact h.l8⟩
/-- .. behind the second one: all is read. -/
structure AZ (w W : World) (B3 B8 : Nat) (M : List Int) (vl z0 z1 z8 zS vg vh : Value) (x0 x8 : List Int) : Prop where
  k : Keeps (fun _ => False) w W
  b3 : W.heap[B3]? = some (.cells (scell (csS M) zS) 24 (0, 0))
  b8 : W.heap[B8]? = some (.cells (scell (csS M) z8) 24 (0, 0))
  rl : W.ownsRow w.heap.size 24 7 vl 2 (pcells [(csS M, z0), (csS M, z1)])
  r0 : Row W z0 M.length (ints x0)
  rg : Row W vg (M.length + 3) (ints (x0 ++ [70, 71, 72]))
  r8 : Row W z8 M.length (ints x8)
  rh : Row W vh (M.length + 3) (ints (M ++ [80, 81, 82]))
  rS : W.ownsRow w.heap.size 3 1 zS M.length (ints M)
theorem AZ.keep {w A B : World} {B3 B8 : Nat} {M : List Int} {vl z0 z1 z8 zS vg vh : Value} {x0 x8 : List Int} (h : AZ w A B3 B8 M vl z0 z1 z8 zS vg vh x0 x8) (k : Keeps (fun _ => False) A B) : AZ w B B3 B8 M vl z0 z1 z8 zS vg vh x0 x8 :=
  ⟨h.k.trans k, k.at h.b3 id, k.at h.b8 id, own_grow h.rl k, h.r0.keep k, h.rg.keep k, h.r8.keep k, h.rh.keep k, own_grow h.rS k⟩
theorem AY.app {w W W' : World} {B3 B8 : Nat} {M : List Int} {vl z0 z1 z8 zS vg : Value} {x0 x8 : List Int} (h : AY w W B3 B8 M vl z0 z1 z8 zS vg x0 x8) {g cap : Nat}
    (h1 : W'.ownsRow w.heap.size 3 1 (.slice (some ⟨g, 0, none⟩) (M.length + 3) cap) (M.length + 3) (ints (M ++ [80, 81, 82]))) (hk : Keeps (fun k => z1.ownBlock = some k) W W') :
    AZ w W' B3 B8 M vl z0 z1 z8 zS vg (.slice (some ⟨g, 0, none⟩) (M.length + 3) cap) x0 x8 := by
  have h8 := Row.of_own h.r8
  rw [h.l8] at h8
  exact ⟨h.k.then hk (fun j hj => Or.inr ((h.r1.lt j hj).1)), hk.at h.b3 (box_ne h.b3 h.r1), hk.at h.b8 (box_ne h.b8 h.r1), own_keep h.rl hk (fun q hq e => own_types h.rl h.r1 (by decide) q hq e),
    h.r0.keepX hk (fun q hq e => h.a01 q hq e), h.rg.keepX hk (fun q hq e => h.ag1 q hq e), h8.keepX hk (fun q hq e => h.a18 q e hq), Row.of_own h1, own_keep h.rS hk (fun q hq e => h.a1S q e hq)⟩
/-- Two steps in a list of one's own. -/
theorem two_get {W : World} {base : Nat} {vl z0 z1 : Value} {t : St} (h : W.ownsRow base 24 7 vl 2 (pcells [(t, z0), (t, z1)])) : ∃ g c, vl = .slice (some ⟨g, 0, none⟩) 2 c ∧ 2 ≤ c ∧ W.rangeAt g 0 (scell t z0).toList ∧ W.rangeAt g 7 (scell t z1).toList := by
  rcases h.2 with ⟨_, h1⟩ | ⟨g, cap, cur, rfl, _, hb, h1, _⟩
  · omega
  · have hc : ∀ j u, (pcells [(t, z0), (t, z1)])[j]? = some u → W.cell? ⟨g, j, none⟩ = some u := fun j u hj => own_cell h (g := g) rfl hj
    refine ⟨g, cap, rfl, h1, fun j u hj => ?_, fun j u hj => ?_⟩
    · rw [Nat.zero_add]; have := pcells_at [(t, z0), (t, z1)] 0 (t, z0) rfl j u hj; rw [Nat.zero_mul, Nat.zero_add] at this; exact hc _ _ this
    · exact hc _ _ (pcells_at [(t, z0), (t, z1)] 1 (t, z1) rfl j u hj)
/-- The first k are what they should be. -/
def UpF (f : Nat → Int) (xs : List Int) (k : Nat) : Prop := ∀ i, i < k → xs[i]? = some (f i)
theorem UpF.next {f : Nat → Int} {xs : List Int} {k : Nat} (h : UpF f xs k) (hk : k < xs.length) (y : Int) (hy : y = f k) : UpF f (xs.set k y) (k + 1) := by
  intro i hi
  rw [List.getElem?_set]
  by_cases e : k = i
  · subst e; simp [hk, hy]
  · rw [if_neg e]; exact h i (by omega)
theorem row_get {W : World} {v : Value} {n : Nat} {xs : List Int} (h : Row W v n (ints xs)) {i : Nat} {x : Int} (hn : 0 < n) (hx : xs[i]? = some x) : ∃ b o c, v = .slice (some ⟨b, o, none⟩) n c ∧ n ≤ c ∧ W.cell? ⟨b, o + i, none⟩ = some (.int .i64 x) := by
  obtain ⟨a, c, rfl, hc, hr⟩ := h
  obtain ⟨b, o, rfl, _, hcell⟩ := hr hn
  exact ⟨b, o, c, rfl, hc, hcell i _ (ints_get hx)⟩
end Go.Proofs.YtdlhdompemkjfaaGreatDoor
