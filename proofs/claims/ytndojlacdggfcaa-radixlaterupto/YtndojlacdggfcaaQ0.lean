import Derived.Test.YtndojlacdggfcaaE1
import Derived.Test.YtndojlacdggfcaaH5
namespace Go.Proofs.Ytndojlacdggfcaa
open Go.RowKit Go.Shelf

theorem els_facts (g : Nat → Int) (lo : Int) : ∀ k, k ≤ 512 → (∀ x ∈ els g lo 0 k, x.1.val < k ∧ lo ≤ (x.1.val : Int) ∧ x.2 = g x.1.val ∧ x.2 ≠ 0) ∧ (els g lo 0 k).Pairwise (fun a b => a.1.val < b.1.val)
  | 0, _ => ⟨by simp [els_zero], by simp [els_zero]⟩
  | k + 1, hk => by
    obtain ⟨h1, h2⟩ := els_facts g lo k (by omega)
    rw [els_snoc g lo k (by omega)]
    split
    · rename_i h
      constructor
      · intro x hx
        rcases List.mem_append.1 hx with hx | hx
        · have := h1 x hx
          exact ⟨by omega, this.2⟩
        · rw [List.mem_singleton.1 hx]
          exact ⟨by simp, h.1, rfl, h.2⟩
      · rw [List.pairwise_append]
        refine ⟨h2, by simp, fun a ha b hb => ?_⟩
        rw [List.mem_singleton.1 hb]
        exact (h1 a ha).1
    · rw [List.append_nil]
      exact ⟨fun x hx => ⟨by have := (h1 x hx).1; omega, (h1 x hx).2⟩, h2⟩

/-- The last offset that came. -/
def lastO (pre : List El) : Int := pre.foldl (fun _ x => (x.1.val : Int)) (-1)
theorem lastO_snoc (pre : List El) (x : El) : lastO (pre ++ [x]) = (x.1.val : Int) := by simp [lastO]
theorem lastO_bd (pre : List El) : -1 ≤ lastO pre ∧ lastO pre < 512 := by
  rcases List.eq_nil_or_concat pre with rfl | ⟨q, x, rfl⟩
  · exact ⟨by simp [lastO], by simp [lastO]⟩
  · rw [List.concat_eq_append, lastO_snoc]
    have := x.1.isLt
    omega
theorem lastO_lt {g : Nat → Int} {lo : Int} {pre : List El} {x : El} (h : pre ++ [x] <+: els g lo 0 512) : lastO pre < (x.1.val : Int) ∧ lo ≤ (x.1.val : Int) ∧ x.2 = g x.1.val ∧ x.2 ≠ 0 := by
  obtain ⟨h1, h2⟩ := els_facts g lo 512 (by omega)
  obtain ⟨tl, htl⟩ := h
  rw [← htl] at h1 h2
  have hx := h1 x (by simp)
  refine ⟨?_, hx.2⟩
  rcases List.eq_nil_or_concat pre with rfl | ⟨q, y, rfl⟩
  · simp [lastO]; omega
  · rw [List.concat_eq_append, lastO_snoc]
    rw [List.concat_eq_append] at h2
    have h3 := (List.pairwise_append.1 h2).1
    have h4 := (List.pairwise_append.1 h3).2.2 y (by simp) x (by simp)
    omega

theorem four_new (w : World) (o1 o2 o3 o4 : Obj) : ∀ W, (((w.alloc o1).alloc o2).alloc o3).alloc o4 = W → W.heap[w.heap.size]? = some o1 ∧ W.heap[w.heap.size + 1]? = some o2 ∧ W.heap[w.heap.size + 2]? = some o3 ∧ W.heap[w.heap.size + 3]? = some o4 ∧ W.heap.size = w.heap.size + 4 ∧ Keeps (fun _ => False) w W := by
  rintro W rfl
  obtain ⟨b1, b2, b3, hsz, hk⟩ := three_new w o1 o2 o3
  have k4 := Keeps.new (((w.alloc o1).alloc o2).alloc o3) o4
  have b4 := (MapKept.heap_alloc (((w.alloc o1).alloc o2).alloc o3) o4).1
  rw [hsz] at b4
  exact ⟨k4.at b1 id, k4.at b2 id, k4.at b3 id, b4, by simp, hk.trans k4⟩
theorem six_new (w : World) (o1 o2 o3 o4 o5 o6 : Obj) : ∀ W, (((((w.alloc o1).alloc o2).alloc o3).alloc o4).alloc o5).alloc o6 = W → W.heap[w.heap.size]? = some o1 ∧ W.heap[w.heap.size + 1]? = some o2 ∧ W.heap[w.heap.size + 2]? = some o3 ∧ W.heap[w.heap.size + 3]? = some o4 ∧ W.heap[w.heap.size + 4]? = some o5 ∧ W.heap[w.heap.size + 5]? = some o6 ∧ Keeps (fun _ => False) w W := by
  rintro W rfl
  obtain ⟨b1, b2, b3, b4, hsz, hk⟩ := four_new w o1 o2 o3 o4 _ rfl
  generalize (((w.alloc o1).alloc o2).alloc o3).alloc o4 = W4 at *
  have k5 := Keeps.new W4 o5
  have k6 := Keeps.new (W4.alloc o5) o6
  have b5 := (MapKept.heap_alloc W4 o5).1
  have b6 := (MapKept.heap_alloc (W4.alloc o5) o6).1
  rw [World.size_alloc] at b6
  rw [hsz] at b5 b6
  have k := k5.trans k6
  exact ⟨k.at b1 id, k.at b2 id, k.at b3 id, k.at b4 id, k6.at b5 id, b6, hk.trans k⟩
theorem one_keeps' (W : World) (b k : Nat) (v : Value) : Keeps (fun c => c = b) W (W.setCell ⟨b, k, none⟩ v) := Keeps.of (grownBy_setCell W ⟨b, k, none⟩ v) (by rintro c hc; cases hc; exact .inl rfl)

/-- The boxes of RadixAmid. -/
structure AmAt (W : World) (B D : Nat) (s : Value) (fr ct vv V : Int) (t : Nat) (at_ : Int) (n : Nat) : Prop where
  x : W.heap[B]? = some (.cells #[s, .int .i64 fr, .int .i64 ct, .int .i64 vv] 52 (0, 0))
  r : Boxed W (B + 1) 4 (.bool false)
  s : Boxed W (B + 2) 22 s
  f : Boxed W (B + 3) 3 (.int .i64 fr)
  t : Boxed W D 23 (.pointer (some ⟨t, 0, none⟩))
  v : Boxed W (D + 1) 3 (.int .i64 V)
  a : Boxed W (D + 2) 3 (.int .i64 at_)
  n : Boxed W (D + 3) 3 (.int .i64 (n : Int))
theorem AmAt.keep {W W' : World} {B D : Nat} {s : Value} {fr ct vv V : Int} {t : Nat} {at_ : Int} {n : Nat} (h : AmAt W B D s fr ct vv V t at_ n) (hk : Keeps (fun c => c = t) W W') (ht : ∀ c, c = B ∨ c = B + 1 ∨ c = B + 2 ∨ c = B + 3 ∨ c = D ∨ c = D + 1 ∨ c = D + 2 ∨ c = D + 3 → c ≠ t) : AmAt W' B D s fr ct vv V t at_ n :=
  ⟨hk.at h.x (ht _ (by simp)), hk.at h.r (ht _ (by simp)), hk.at h.s (ht _ (by simp)), hk.at h.f (ht _ (by simp)), hk.at h.t (ht _ (by simp)), hk.at h.v (ht _ (by simp)), hk.at h.a (ht _ (by simp)), hk.at h.n (ht _ (by simp))⟩
theorem AmAt.kept {W W' : World} {B D : Nat} {s : Value} {fr ct vv V : Int} {t : Nat} {at_ : Int} {n : Nat} (h : AmAt W B D s fr ct vv V t at_ n) (hk : Keeps (fun _ => False) W W') : AmAt W' B D s fr ct vv V t at_ n :=
  ⟨hk.at h.x id, hk.at h.r id, hk.at h.s id, hk.at h.f id, hk.at h.t id, hk.at h.v id, hk.at h.a id, hk.at h.n id⟩
theorem AmAt.own {β : Type} {B D : Nat} {s : Value} {fr ct vv V : Int} {t : Nat} {a : β → Int} {n : β → Nat} {E : Nat} : OwnFrom E (fun (z : β) W => AmAt W B D s fr ct vv V t (a z) (n z)) := fun z X Y row hs hg hr => by
  have hk : Keeps (fun c => some c = row) X Y := Keeps.of hg (by rintro k rfl; exact .inl rfl)
  have no : ∀ {b : Nat} {c : Array Value} {t : TypeId}, X.heap[b]? = some (.cells c t (0, 0)) → ¬ some b = row := fun {b c t} hb e => by
    obtain ⟨_, o, ho, hc⟩ := hr b e.symm
    rw [hb] at ho; cases ho; cases hc
  exact ⟨hk.at hs.x (no hs.x), hk.at hs.r (no hs.r), hk.at hs.s (no hs.s), hk.at hs.f (no hs.f), hk.at hs.t (no hs.t), hk.at hs.v (no hs.v), hk.at hs.a (no hs.a), hk.at hs.n (no hs.n)⟩
/-- The boxes, once at and n are set. -/
theorem AmAt.next {W : World} {B D : Nat} {s : Value} {fr ct vv V : Int} {t : Nat} {at_ : Int} {n : Nat} (h : AmAt W B D s fr ct vv V t at_ n) (hB : B + 4 ≤ D) (o : Int) (m : Nat) :
    AmAt ((W.setCell ⟨D + 2, 0, none⟩ (.int .i64 o)).setCell ⟨D + 3, 0, none⟩ (.int .i64 (m : Int))) B D s fr ct vv V t o m := by
  have k1 := one_keeps' W (D + 2) 0 (.int .i64 o)
  have k2 := one_keeps' (W.setCell ⟨D + 2, 0, none⟩ (.int .i64 o)) (D + 3) 0 (.int .i64 (m : Int))
  have go : ∀ {b : Nat} {u : Obj}, W.heap[b]? = some u → b ≠ D + 2 → b ≠ D + 3 → ((W.setCell ⟨D + 2, 0, none⟩ (.int .i64 o)).setCell ⟨D + 3, 0, none⟩ (.int .i64 (m : Int))).heap[b]? = some u := fun hb h1 h2 => k2.at (k1.at hb h1) h2
  exact ⟨go h.x (by omega) (by omega), go h.r (by omega) (by omega), go h.s (by omega) (by omega), go h.f (by omega) (by omega), go h.t (by omega) (by omega), go h.v (by omega) (by omega), k2.at (Boxed.set _ h.a) (by omega), Boxed.set _ (k1.at h.n (by omega))⟩

def AmI (w : World) (B D : Nat) (s : Value) (fr ct vv V : Int) (t : Nat) (pre : List El) (W : World) : Prop :=
  AmAt W B D s fr ct vv V t (lastO pre) pre.length ∧ (∃ f, TreeAt W t f ∧ (0 < pre.length → f (plc (lastO pre + 1) 512) = V)) ∧ Keeps (fun _ => False) w W
def AmX (L : List El) (c : Code) (pre : List El) (_ : World) : Prop := c = .ret ∧ ¬ pre <+: L
theorem AmI.own {w : World} {B D : Nat} {s : Value} {fr ct vv V : Int} {t E : Nat} (hE : w.heap.size ≤ E) : OwnFrom E (AmI w B D s fr ct vv V t) := fun z X Y row hs hg hr =>
  ⟨AmAt.own (β := List El) (a := lastO) (n := List.length) z X Y row hs.1 hg hr, by obtain ⟨f, hT, hf⟩ := hs.2.1; exact ⟨f, ownTree (β := List El) (f := fun _ => f) z X Y row hT hg hr, hf⟩, ownKeeps (β := List El) hE z X Y row hs.2.2 hg hr⟩

/-- What stands inside a round of RadixAmid's loop. -/
def AmG (W0 : World) (B D : Nat) (s : Value) (fr ct vv V : Int) (t : Nat) (o : Int) (m : Nat) (f : Nat → Int) (W : World) : Prop :=
  AmAt W B D s fr ct vv V t o m ∧ TreeAt W t f ∧ Keeps (fun c => c = t ∨ c = D + 2 ∨ c = D + 3) W0 W
section
variable {W0 A C : World} {B D : Nat} {s : Value} {fr ct vv V : Int} {t : Nat} {o : Int} {m : Nat} {f f' : Nat → Int}
theorem AmG.turn (h : AmG W0 B D s fr ct vv V t o m f A) (h1 : B + 4 ≤ t) (h2 : t < D) (hk : Keeps (fun c => c = t) A C) (hT : TreeAt C t f') : AmG W0 B D s fr ct vv V t o m f' C :=
  ⟨h.1.keep hk (by intro c hc; omega), hT, h.2.2.trans (hk.mono fun _ _ h => .inl h)⟩
theorem AmG.same (h : AmG W0 B D s fr ct vv V t o m f A) (hk : Keeps (fun _ => False) A C) : AmG W0 B D s fr ct vv V t o m f C :=
  ⟨h.1.kept hk, h.2.1.keep hk, h.2.2.trans (hk.mono fun _ _ h => h.elim)⟩
theorem AmG.first {a : Int} {n : Nat} (h : AmAt A B D s fr ct vv V t a n) (hT : TreeAt A t f) (h0 : B + 4 ≤ D) (h2 : t < D) : AmG A B D s fr ct vv V t o m f ((A.setCell ⟨D + 2, 0, none⟩ (.int .i64 o)).setCell ⟨D + 3, 0, none⟩ (.int .i64 (m : Int))) := by
  have k1 := one_keeps' A (D + 2) 0 (.int .i64 o)
  have k2 := one_keeps' (A.setCell ⟨D + 2, 0, none⟩ (.int .i64 o)) (D + 3) 0 (.int .i64 (m : Int))
  have k : Keeps (fun c => c = D + 2 ∨ c = D + 3) A ((A.setCell ⟨D + 2, 0, none⟩ (.int .i64 o)).setCell ⟨D + 3, 0, none⟩ (.int .i64 (m : Int))) := (k1.mono fun _ _ h => .inl h).trans (k2.mono fun _ _ h => .inr h)
  refine ⟨h.next h0 o m, ?_, k.mono fun _ _ h => .inr h⟩
  refine hT.keepN (k.nodes fun b q u hb hn => ?_) (k.block _ hT.lt (by omega))
  rcases hb with rfl | rfl
  · have := (show A.heap[D + 2]? = _ from h.a).symm.trans hn
    simp at this
  · have := (show A.heap[D + 3]? = _ from h.n).symm.trans hn
    simp at this
theorem AmAt.cells {a : Int} {n : Nat} (h : AmAt A B D s fr ct vv V t a n) : A.cell? ⟨D, 0, none⟩ = some (.pointer (some ⟨t, 0, none⟩)) ∧ A.cell? ⟨D + 1, 0, none⟩ = some (.int .i64 V) ∧ A.cell? ⟨B, 2, none⟩ = some (.int .i64 ct) ∧ A.cell? ⟨B + 2, 0, none⟩ = some s ∧ A.cell? ⟨B + 3, 0, none⟩ = some (.int .i64 fr) ∧ A.cell? ⟨D + 2, 0, none⟩ = some (.int .i64 a) ∧ A.cell? ⟨D + 3, 0, none⟩ = some (.int .i64 (n : Int)) ∧ A.frozen? ⟨B + 1, 0, none⟩ = false ∧ A.frozen? ⟨D + 2, 0, none⟩ = false ∧ A.cell? ⟨B + 1, 0, none⟩ = some (.bool false) :=
  ⟨h.t.cell, h.v.cell, by simp [World.cell?, h.x], h.s.cell, h.f.cell, h.a.cell, h.n.cell, h.r.frozen, h.a.frozen, h.r.cell⟩
/-- What the loop asks of a round. -/
theorem AmG.post {w : World} {pre : List El} {x : El} {E a : _} {n : Nat} (h0 : AmAt W0 B D s fr ct vv V t a n) (hT : ∃ f, TreeAt W0 t f) (hw : Keeps (fun _ => False) w W0) (h : AmG W0 B D s fr ct vv V t (x.1.val : Int) (pre.length + 1) f A) (hb : w.heap.size ≤ t ∧ w.heap.size ≤ D) (hf : f (plc ((x.1.val : Int) + 1) 512) = V) :
    KeepsFrom E W0 A ∧ KeepS W0 A ∧ AmI w B D s fr ct vv V t (pre ++ [x]) A := by
  obtain ⟨f0, p0, v0, ht0, _⟩ := hT
  obtain ⟨h1, h2, h3⟩ := h
  refine ⟨⟨h3.size, fun k o _ hk ho => h3.at hk ?_⟩, h3.slots ?_, ?_, ⟨f, h2, fun _ => ?_⟩, hw.then h3 ?_⟩
  · rintro (rfl | rfl | rfl)
    · rw [ht0] at hk; cases hk; cases ho
    · rw [show W0.heap[D + 2]? = _ from h0.a] at hk; cases hk; cases ho
    · rw [show W0.heap[D + 3]? = _ from h0.n] at hk; cases hk; cases ho
  · rintro b c ty (rfl | rfl | rfl) hty hk
    · rw [ht0] at hk; cases hk; simp at hty
    · rw [show W0.heap[D + 2]? = _ from h0.a] at hk; cases hk; simp at hty
    · rw [show W0.heap[D + 3]? = _ from h0.n] at hk; cases hk; simp at hty
  · rw [lastO_snoc, List.length_append]; exact h1
  · rw [lastO_snoc]; exact hf
  · intro k hk; right; omega
end

end Go.Proofs.Ytndojlacdggfcaa
