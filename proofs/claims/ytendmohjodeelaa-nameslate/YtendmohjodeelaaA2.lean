import Derived.Test.YtendmohjodeelaaA1
import Derived.Maps.OwnOps
import Derived.Maps.OwnSet
import Derived.Maps.AppendAt
import Derived.Maps.RangeWalk
import Derived.DeepKeys4
namespace Go.Proofs.Ytendmohjodeelaa
open Go.RowKit Go.Maps

/-- A name's 28 bytes, zeros behind it. -/
def zpad (s : ByteArray) : List Value := (List.range 28).map fun i => Value.int .u8 (s.data.toList.getD i 0).toNat
/-- A key's 30 cells. -/
def kcells (d : Int) (s : ByteArray) : Array Value := (Value.int .i64 d :: .int .i64 s.size :: zpad s).toArray

theorem size_kcells (d : Int) (s : ByteArray) : (kcells d s).size = 30 := by simp [kcells, zpad]

theorem types_size : Try.prog.types.size = 105 := by kernel_rfl
theorem row55 : (55 : TypeId) < Try.prog.types.size := by rw [types_size]; decide
theorem laid : laidOutB Try.prog = true := by kernel_rfl
theorem wide55 : (match Try.prog.underlying 55 with | some (.array _ _) | some (.struct _) => true | _ => false) = true := by kernel_rfl
theorem keyLaw : Keyed Try.prog 55 := Keyed.of_law (deep_law_laid laid (m := 3) (by omega) row55 (by kernel_rfl) wide55)

theorem keyType55 : Try.prog.keyType 55 = true := by kernel_rfl
theorem cells55 : Try.prog.cellsOf 55 = 30 := by kernel_rfl
theorem cells53 : Try.prog.cellsOf 53 = 28 := by kernel_rfl
theorem cells3 : Try.prog.cellsOf 3 = 1 := by kernel_rfl
theorem cells5 : Try.prog.cellsOf 5 = 1 := by kernel_rfl

theorem mapM_some {α β : Type} (f : α → Option β) (g : α → β) : ∀ l : List α, (∀ a ∈ l, f a = some (g a)) → l.mapM f = some (l.map g)
  | [], _ => rfl
  | a :: l, h => by
    rw [List.mapM_cons, h a (List.mem_cons_self ..), mapM_some f g l (fun b hb => h b (List.mem_cons_of_mem _ hb))]
    rfl

theorem wf_u8 (b : UInt8) : (Lit.int .u8 b.toNat).wf = true := by
  have := b.toNat_lt
  simp only [Lit.wf, show IntKind.u8.min = 0 from rfl, show IntKind.u8.max = 255 from rfl, Bool.and_eq_true, decide_eq_true_eq]; omega

def zlits (s : ByteArray) : List Lit := (List.range 28).map fun i => Lit.int .u8 (s.data.toList.getD i 0).toNat
def klits (d : Int) (s : ByteArray) : List Lit := Lit.int .i64 d :: .int .i64 s.size :: zlits s

theorem length_zpad (s : ByteArray) : (zpad s).length = 28 := by simp [zpad]
theorem zpad_at (s : ByteArray) (i : Nat) (hi : i < 28) : ((zpad s).drop i).take 1 = [Value.int .u8 (s.data.toList.getD i 0).toNat] := by
  have h : i < (zpad s).length := by rw [length_zpad]; exact hi
  rw [List.drop_eq_getElem_cons h]
  simp [zpad]

theorem lits_int (m : Nat) (x : Int) (h : (Lit.int .i64 x).wf = true) : Try.prog.keyLits (m + 1) 3 [.int .i64 x] = some [.int .i64 x] := by
  unfold Program.keyLits
  rw [Try.underlying3]
  simp [h]
theorem lits_u8 (m : Nat) (x : Int) (h : (Lit.int .u8 x).wf = true) : Try.prog.keyLits (m + 1) 5 [.int .u8 x] = some [.int .u8 x] := by
  unfold Program.keyLits
  rw [Try.underlying5]
  simp [h]
theorem lits_arr (m : Nat) (s : ByteArray) : Try.prog.keyLits (m + 2) 53 (zpad s) = some (zlits s) := by
  unfold Program.keyLits
  rw [Try.underlying53]
  simp only [length_zpad, cells53, cells5, Nat.mul_one, if_pos]
  rw [mapM_some _ (fun i => [Lit.int .u8 (s.data.toList.getD i 0).toNat]) _ (fun i hi => by
    rw [zpad_at s i (by simpa using hi)]
    exact lits_u8 m _ (wf_u8 _))]
  simp only [Option.map_some, zlits]
  congr 1

theorem wf64 {x : Int} (h1 : -9223372036854775808 ≤ x) (h2 : x ≤ 9223372036854775807) : (Lit.int .i64 x).wf = true := by
  exact WalkArith.wf_i64 ⟨h1, h2⟩

theorem keyOf_mk (d : Int) (s : ByteArray) (h : (Lit.int .i64 d).wf = true) (hs : s.size ≤ 28) : keyOf Try.prog 55 (.agg (kcells d s)) = some (.string (keyBytes (klits d s))) := by
  unfold keyOf
  rw [Try.underlying55]
  have h1 : Value.formed Try.prog 55 (.agg (kcells d s)) = true := by
    simp [Value.formed, Try.underlying55, cells55, size_kcells]
  have h2 : (Value.agg (kcells d s)).cells.toList = Value.int .i64 d :: .int .i64 s.size :: zpad s := by simp [Value.cells, kcells]
  simp only [keyType55, h1, h2, Bool.and_true, if_pos]
  have h3 : Try.prog.keyLits (105 + 1) 55 (Value.int .i64 d :: .int .i64 s.size :: zpad s) = some (klits d s) := by
    unfold Program.keyLits
    rw [Try.underlying55]
    have e1 : (Value.int .i64 d :: Value.int .i64 s.size :: zpad s).length = Try.prog.cellsOf 55 := by rw [cells55]; simp [length_zpad]
    have e2 : (zpad s).take 28 = zpad s := List.take_of_length_le (by rw [length_zpad]; omega)
    simp only [e1, true_and]
    simp only [List.mapM_cons, List.mapM_nil, cells3, cells53, List.drop_succ_cons, List.drop_zero, List.take_succ_cons, List.take_zero, e2]
    rw [lits_int _ d h, lits_int _ s.size (wf64 (by omega) (by omega)), lits_arr]
    simp [klits]
  rw [types_size, h3]
  rfl

/-- The key as the map's reading has it. -/
def kL (d : Int) (s : ByteArray) : Lit := .string (keyBytes (klits d s))

theorem kcells_inj {d d' : Int} {s s' : ByteArray} (hs : s.size ≤ 28) (hs' : s'.size ≤ 28) (h : kcells d s = kcells d' s') : d = d' ∧ s = s' := by
  have h1 : (Value.int .i64 d :: .int .i64 s.size :: zpad s) = (Value.int .i64 d' :: .int .i64 s'.size :: zpad s') := by
    have := congrArg Array.toList h
    simpa [kcells] using this
  injection h1 with h2 h3
  injection h3 with h4 h5
  injection h2 with _ h2
  injection h4 with _ h4
  refine ⟨h2, ?_⟩
  have hsz : s.size = s'.size := by omega
  have hl : s.data.toList = s'.data.toList := by
    apply List.ext_getElem
    · simpa using hsz
    · intro i hi hi'
      have hi2 : i < s.size := by simpa using hi
      have := congrArg (fun l => l[i]?) h5
      simp only [zpad, List.getElem?_map] at this
      rw [List.getElem?_range (by omega)] at this
      simp only [Option.map_some, Option.some.injEq] at this
      injection this with _ this
      rw [List.getD_eq_getElem?_getD, List.getD_eq_getElem?_getD, List.getElem?_eq_getElem hi, List.getElem?_eq_getElem hi'] at this
      simp only [Option.getD_some] at this
      exact UInt8.toNat_inj.1 (by omega)
  obtain ⟨⟨l⟩⟩ := s
  obtain ⟨⟨l'⟩⟩ := s'
  simp at hl
  rw [hl]

theorem kL_inj {d d' : Int} {s s' : ByteArray} (h : (Lit.int .i64 d).wf = true) (h' : (Lit.int .i64 d').wf = true) (hs : s.size ≤ 28) (hs' : s'.size ≤ 28) (e : kL d s = kL d' s') : d = d' ∧ s = s' := by
  have h1 := keyOf_mk d s h hs
  have h2 := keyOf_mk d' s' h' hs'
  have h3 : kL d s = .string (keyBytes (klits d s)) := rfl
  have h4 : kL d' s' = .string (keyBytes (klits d' s')) := rfl
  rw [← h3] at h1
  rw [← h4, ← e] at h2
  have := keyLaw.inj h1 h2
  injection this with this
  exact kcells_inj hs hs' this

theorem kcells_one (d : Int) (s : ByteArray) : (kcells d s).all (·.oneCell') = true := by
  simp [kcells, zpad, Value.oneCell']

end Go.Proofs.Ytendmohjodeelaa
