import Derived.Test.YtfekgfimbkgkfabC1
namespace Go.Proofs.Ytfekgfimbkgkfab
open Go.RowKit Go.Maps

/-- A table at block x, its map at block bm: what its names stand for; n bounds its entries. -/
structure TabAt (w : World) (x bm n : Nat) (F : Dr) : Prop where
  cell : w.heap[x]? = some (.cells #[.map (some bm)] 59 (0, 0))
  map : ∃ D : DataW Unit, w.ownsMap Try.prog 64 endElem bm n D ∧ Tie D F
theorem TabAt.keep {w w' : World} {x bm n : Nat} {F : Dr} {X : Nat → Prop} (h : TabAt w x bm n F) (k : Keeps X w w') (hx : ¬ X x) (hm : ¬ X bm) : TabAt w' x bm n F := by
  obtain ⟨D, ho, ht⟩ := h.map
  refine ⟨k.at h.cell hx, D, ?_, ht⟩
  obtain ⟨es, clock, hb, hr⟩ := ho
  exact ⟨es, clock, k.at hb hm, hr⟩
theorem TabAt.grow {w w' : World} {x bm n : Nat} {F : Dr} (h : TabAt w x bm n F) (k : Keeps (fun _ => False) w w') : TabAt w' x bm n F := h.keep k id id
theorem TabAt.lt {w : World} {x bm n : Nat} {F : Dr} (h : TabAt w x bm n F) : x < w.heap.size ∧ bm < w.heap.size := by
  obtain ⟨D, ho, _⟩ := h.map; exact ⟨heap_lt h.cell, ho.lt⟩
theorem TabAt.ne {w : World} {x bm n : Nat} {F : Dr} (h : TabAt w x bm n F) : x ≠ bm := by
  rintro rfl
  obtain ⟨D, ⟨es, clock, hb, _⟩, _⟩ := h.map
  have := h.cell
  rw [hb] at this
  cases this
theorem cell0 {w : World} {x bm : Nat} (h : w.heap[x]? = some (.cells #[.map (some bm)] 59 (0, 0))) : w.cell? ⟨x, 0, none⟩ = some (.map (some bm)) := by
  simp [World.cell?, h]
theorem zero61 (w : World) : (zeroValue 61).run Try.prog w = .ok (.agg #[.int .i64 0, .bool false]) w := by kernel_rfl

theorem TabAt.look {w : World} {x bm n : Nat} {F : Dr} (h : TabAt w x bm n F) (d : Int) (s : ByteArray) (hd : (Lit.int .i64 d).wf = true) (hs : s.size ≤ maxLen) :
    (Instr.lookup 57 (.map (some bm)) (.agg #[.int .i64 d, .string s]) false).run Try.prog w = .ok (.agg #[.int .i64 (F d s).1, .bool (F d s).2]) w := by
  obtain ⟨D, ho, ht⟩ := h.map
  obtain ⟨v, ps, hrun, hat⟩ := ho.lookup keyLaw Try.underlying57 (zero61 _) (endElem_mk 0 false) (key := .agg (kcells d s)) (kl := kL d s) (keyOf_mk d s hd hs)
  have h1 := ht.at_ d s hd hs
  rw [show (DataW.agg [.lit (.int .i64 0), .lit (.bool false)] : DataW Unit) = endD (0, false) from rfl, h1] at hat
  obtain rfl := endElem_inv hat
  exact hrun

set_option maxHeartbeats 1000000 in
theorem look_any (w : World) (x bm n : Nat) (F : Dr) (h : TabAt w x bm n F) (d : Int) (s : ByteArray) (hd : (Lit.int .i64 d).wf = true) (hs : s.size ≤ maxLen) :
    Calls Try.prog 16 #[.pointer (some ⟨x, 0, none⟩), .int .i64 d, .string s] w fun e w' => e = .returned (.tuple #[.int .i64 (F d s).1, .bool (F d s).2]) ∧ Keeps (fun _ => False) w w' := by
  have hl := h.look d s hd hs
  have c0 := cell0 h.cell
  clear hd hs h
  go_enter Try.func16, Try.ntmps16
  go_wp2
  go_region
  all_goals
    go_wp2
    go_ret2
    exact ⟨rfl, ((Keeps.refl _ w).alloc _).trans (Keeps.drewN _ _ 1)⟩

/-! Edges. -/
def ez : Ed := (0, ⟨#[]⟩, 0, false)
def ecell (e : Ed) : List Value := [.int .i64 e.1, .string e.2.1, .int .i64 e.2.2.1, .bool e.2.2.2]
def ecells (l : List Ed) : List Value := l.flatMap ecell
theorem ecells_len (l : List Ed) : (ecells l).length = l.length * 4 := by
  induction l with
  | nil => rfl
  | cons e l ih => simp only [ecells, List.flatMap_cons, List.length_append, List.length_cons] at ih ⊢; rw [ih]; simp [ecell]; omega
theorem ecells_get : ∀ (l : List Ed) (k : Nat), k < l.length → ∀ j u, (ecell (l.getD k ez))[j]? = some u → (ecells l)[k * 4 + j]? = some u
  | [], k, h, _, _, _ => by simp at h
  | e :: l, 0, _, j, u, hj => by
    have hl : j < (ecell e).length := (List.getElem?_eq_some_iff.1 hj).1
    simp only [ecells, List.flatMap_cons, Nat.zero_mul, Nat.zero_add]
    rw [List.getElem?_append_left hl]; exact hj
  | e :: l, k + 1, h, j, u, hj => by
    have h4 : (ecell e).length = 4 := rfl
    simp only [ecells, List.flatMap_cons]
    rw [List.getElem?_append_right (by rw [h4]; omega), h4, show (k + 1) * 4 + j - 4 = k * 4 + j by omega]
    exact ecells_get l k (by simpa using h) j u hj
/-- What is known of an edge. -/
def EdOk (e : Ed) : Prop := (Lit.int .i64 e.1).wf = true ∧ (Lit.int .i64 e.2.2.1).wf = true ∧ e.2.1.size ≤ 140737488355328
theorem put1_at {w : World} {x bm n : Nat} {F : Dr} (h : TabAt w x bm n F) (hn : n < maxLen) (d : Int) (s : ByteArray) (e : En) (hd : (Lit.int .i64 d).wf = true) (hs : s.size ≤ maxLen) :
    ∃ w', (Instr.mapUpdate 57 (.map (some bm)) (.agg #[.int .i64 d, .string s]) (.agg #[.int .i64 e.1, .bool e.2])).run Try.prog w = .ok () w' ∧ TabAt w' x bm (n + 1) (fun d' s' => if d' = d ∧ s' = s then e else F d' s') ∧ w.grownBy w' (some bm) := by
  obtain ⟨D, ho, ht⟩ := h.map
  obtain ⟨w', h1, h2, h3⟩ := ho.update keyLaw Try.underlying57 hn (key := .agg (kcells d s)) (kl := kL d s) (keyOf_mk d s hd hs) (endElem_mk e.1 e.2)
  refine ⟨w', h1, ⟨?_, _, h2, ht.put (ho.tidy keyLaw) hd hs e⟩, h3⟩
  rw [h3.block x (heap_lt h.cell) (by have := h.ne; simpa using this)]
  exact h.cell
end Go.Proofs.Ytfekgfimbkgkfab
