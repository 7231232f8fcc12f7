import Derived.Test.YtngoifbflpeapacGreatDoorC1
namespace Go.Proofs.YtngoifbflpeapacGreatDoor
open Go.RowKit Go.Maps
set_option maxRecDepth 100000

/-- A kind: its number, its word, what stands behind it. -/
structure Kd where
  num : Int
  word : ByteArray
  args : List Ar
def kds : List Kd := [
  ⟨1, ⟨#[109, 107, 102, 115]⟩, [.N, .M, .K]⟩,
  ⟨2, ⟨#[109, 111, 117, 110, 116]⟩, [.N, .L]⟩,
  ⟨3, ⟨#[117, 110, 109, 111, 117, 110, 116]⟩, []⟩,
  ⟨4, ⟨#[99, 114, 101, 97, 116, 101]⟩, [.A]⟩,
  ⟨5, ⟨#[109, 107, 100, 105, 114]⟩, [.A]⟩,
  ⟨6, ⟨#[117, 110, 108, 105, 110, 107]⟩, [.A]⟩,
  ⟨7, ⟨#[114, 109, 100, 105, 114]⟩, [.A]⟩,
  ⟨8, ⟨#[114, 101, 110, 97, 109, 101]⟩, [.A, .B]⟩,
  ⟨9, ⟨#[108, 105, 110, 107]⟩, [.A, .B]⟩,
  ⟨10, ⟨#[114, 101, 97, 100]⟩, [.A, .N, .M]⟩,
  ⟨11, ⟨#[119, 114, 105, 116, 101]⟩, [.A, .N, .B]⟩,
  ⟨12, ⟨#[116, 114, 117, 110, 99, 97, 116, 101]⟩, [.A, .N]⟩,
  ⟨13, ⟨#[115, 116, 97, 116]⟩, [.A]⟩,
  ⟨14, ⟨#[108, 105, 115, 116]⟩, [.A]⟩,
  ⟨15, ⟨#[119, 97, 108, 107]⟩, []⟩,
  ⟨16, ⟨#[105, 110, 102, 111]⟩, []⟩,
  ⟨17, ⟨#[97, 114, 109]⟩, [.N]⟩,
  ⟨18, ⟨#[99, 114, 97, 115, 104]⟩, [.L]⟩,
  ⟨19, ⟨#[112, 111, 107, 101]⟩, [.N, .M]⟩,
  ⟨20, ⟨#[115, 116, 97, 116, 101]⟩, []⟩,
  ⟨21, ⟨#[115, 99, 97, 110]⟩, [.N, .L]⟩]
def acells (l : List Ar) : List Value := l.flatMap fun a => (acell a).toList
/-- A list of arguments in memory. -/
def ArgsAt (W : World) (v : Value) (l : List Ar) : Prop := Row W v l.length (acells l)
theorem ArgsAt.keep {A B : World} {v : Value} {l : List Ar} (h : ArgsAt A v l) (k : Keeps (fun _ => False) A B) : ArgsAt B v l := Row.keep h k
theorem ArgsAt.nil (W : World) : ArgsAt W (.slice none 0 0) [] := ⟨none, 0, rfl, Nat.le_refl _, fun h => absurd h (by decide)⟩

theorem Keeps.setRow {X : Nat → Prop} {a b : World} (h : Keeps X a b) (g : Nat) (cs : Array Value) (hg : a.heap.size ≤ g ∨ X g) : Keeps X a (b.setRow g cs) :=
  ⟨h.os, h.tape, h.output, by simp [h.size], fun k hk hx => by
    rw [setRow_other _ _ _ _ (by rintro rfl; rcases hg with hg | hg; omega; exact hx hg)]; exact h.block k hk hx⟩
theorem wpList_store_a {ops : Array Oper} {rest : List Oper} {o : Oper} {a : Act} {W : World} {Q : Exit → Act → World → Prop} (hgd : o.guard = none) (x y : Operand) (ho : o.op = .store 69 x y)
    (g : Nat) (b : Ar) (hx : a.eval x = .pointer (some ⟨g, 0, none⟩)) (hy : a.eval y = .agg (acell b)) (hg : W.heap[g]? = some (.cells azero 69 (0, 0)))
    (h : ∀ W' : World, W'.heap[g]? = some (.cells (acell b) 69 (0, 0)) → Keeps (fun k => k = g) W W' → wpList Tryz.prog ops Q rest (a.put o.dst undef) W') : wpList Tryz.prog ops Q (o :: rest) a W := by
  refine wpList_store_row hgd 69 x y ho g (acell b) hx hy 69 azero hg size69 rfl (acell_one b) ?_
  refine h _ ?_ ?_
  · exact setRow_heap _ _ _ _ _ _ hg
  · exact Keeps.setRow (Keeps.refl _ W) g _ (Or.inr rfl)
theorem wpList_args {ops : Array Oper} {rest : List Oper} {o : Oper} {a : Act} {W : World} {Q : Exit → Act → World → Prop} (hgd : o.guard = none) (n : Nat) (parts : Array (Nat × Operand)) (ho : o.op = .buildSlice 53 n parts)
    (l : List Ar) (hn : n = l.length) (hp : 0 < l.length) (hl : l.length ≤ 3) (hf : ∀ ie z, Tryz.prog.info? 69 = some ie → ie.zero = some z → Instr.fill (fun i => some (i * ie.size, ie.size)) ((Array.range (n * ie.size)).map (z.cells[· % z.cells.size]!)) (parts.map fun (i, x) => (i, a.eval x)).toList = some (acells l).toArray)
    (h : ∀ (g : Nat) (W' : World), ArgsAt W' (.slice (some ⟨g, 0, none⟩) n n) l → Keeps (fun _ => False) W W' → wpList Tryz.prog ops Q rest (a.put o.dst (.slice (some ⟨g, 0, none⟩) n n)) W') : wpList Tryz.prog ops Q (o :: rest) a W := by
  obtain ⟨i0, hi, hz0, hz1, hz2⟩ := info_parts info69
  refine wpList_buildSlice hgd 53 69 n parts ho (acells l).toArray i0 (.agg azero) Tryz.underlying53 hi hz0 (by rw [hz1]; omega) (by rw [hz1]; omega) (hf i0 _ hi hz0) ?_
  refine h _ _ ?_ ((Keeps.refl _ W).alloc _)
  refine ⟨_, _, by rw [hn], by omega, fun _ => ⟨_, _, rfl, by rw [World.size_alloc]; omega, fun j u hj => ?_⟩⟩
  have h2 := heap_last W (.cells (acells l).toArray 69)
  simp only [World.cell?, h2, Nat.zero_add, List.getElem?_toArray]
  exact hj
end Go.Proofs.YtngoifbflpeapacGreatDoor

