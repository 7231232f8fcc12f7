import Derived.Test.YtfekgfimbkgkfabA3
import Derived.Maps.OwnOps
import Derived.Maps.OwnSet
import Derived.Maps.Ext
import Derived.DeepKeys4
import Derived.Deep.RegionHeld3
namespace Go.Proofs.Ytfekgfimbkgkfab
open Go.RowKit Go.Maps

/-! A place's key: a directory's number and a name. -/
def kcells (d : Int) (s : ByteArray) : Array Value := #[.int .i64 d, .string s]
theorem types_size : Try.prog.types.size = 117 := by kernel_rfl
theorem row64 : (64 : TypeId) < Try.prog.types.size := by rw [types_size]; decide
theorem laid : laidOutB Try.prog = true := by kernel_rfl
theorem wide64 : (match Try.prog.underlying 64 with | some (.array _ _) | some (.struct _) => true | _ => false) = true := by kernel_rfl
theorem keyLaw : Keyed Try.prog 64 := Keyed.of_law (deep_law_laid laid (m := 3) (by omega) row64 (by kernel_rfl) wide64)
theorem keyType64 : Try.prog.keyType 64 = true := by kernel_rfl
theorem cells64 : Try.prog.cellsOf 64 = 2 := by kernel_rfl
theorem cells3 : Try.prog.cellsOf 3 = 1 := by kernel_rfl
theorem cells9 : Try.prog.cellsOf 9 = 1 := by kernel_rfl

def klits (d : Int) (s : ByteArray) : List Lit := [.int .i64 d, .string s.data.toList]
theorem lits_int (m : Nat) (x : Int) (h : (Lit.int .i64 x).wf = true) : Try.prog.keyLits (m + 1) 3 [.int .i64 x] = some [.int .i64 x] := by
  unfold Program.keyLits
  rw [Try.underlying3]
  simp [h]
theorem lits_str (m : Nat) (s : ByteArray) (h : s.size ≤ maxLen) : Try.prog.keyLits (m + 1) 9 [.string s] = some [.string s.data.toList] := by
  unfold Program.keyLits
  rw [Try.underlying9]
  simp [h]
theorem keyOf_mk (d : Int) (s : ByteArray) (h : (Lit.int .i64 d).wf = true) (hs : s.size ≤ maxLen) : keyOf Try.prog 64 (.agg (kcells d s)) = some (.string (keyBytes (klits d s))) := by
  unfold keyOf
  rw [Try.underlying64]
  have h1 : Value.formed Try.prog 64 (.agg (kcells d s)) = true := by
    simp [Value.formed, Try.underlying64, cells64, kcells]
  have h2 : (Value.agg (kcells d s)).cells.toList = [.int .i64 d, .string s] := by simp [Value.cells, kcells]
  simp only [keyType64, h1, h2, Bool.and_true, if_pos]
  have h3 : Try.prog.keyLits (117 + 1) 64 [.int .i64 d, .string s] = some (klits d s) := by
    unfold Program.keyLits
    rw [Try.underlying64]
    have e1 : [Value.int .i64 d, Value.string s].length = Try.prog.cellsOf 64 := by rw [cells64]; rfl
    simp only [e1, true_and]
    simp only [List.mapM_cons, List.mapM_nil, cells3, cells9, List.drop_succ_cons, List.drop_zero, List.take_succ_cons, List.take_zero]
    rw [lits_int _ d h, lits_str _ s hs]
    simp [klits]
  rw [types_size, h3]
  rfl
def kL (d : Int) (s : ByteArray) : Lit := .string (keyBytes (klits d s))
theorem kL_inj {d d' : Int} {s s' : ByteArray} (h : (Lit.int .i64 d).wf = true) (h' : (Lit.int .i64 d').wf = true) (hs : s.size ≤ maxLen) (hs' : s'.size ≤ maxLen) (e : kL d s = kL d' s') : d = d' ∧ s = s' := by
  have h1 : keyOf Try.prog 64 (.agg (kcells d s)) = some (kL d s) := keyOf_mk d s h hs
  have h2 : keyOf Try.prog 64 (.agg (kcells d' s')) = some (kL d' s') := keyOf_mk d' s' h' hs'
  rw [← e] at h2
  have := keyLaw.inj h1 h2
  simp [kcells] at this
  exact this

/-! What a name stands for, as a map's element. -/
def endL : List Value → Option (DataW Unit × List MemPlace)
  | [.int .i64 n, .bool b] => some (.agg [.lit (.int .i64 n), .lit (.bool b)], [])
  | _ => none
def endElem : Value → Option (DataW Unit × List MemPlace)
  | .agg c => endL c.toList
  | _ => none
theorem endElem_mk (n : Int) (b : Bool) : endElem (.agg #[.int .i64 n, .bool b]) = some (.agg [.lit (.int .i64 n), .lit (.bool b)], []) := rfl
theorem endElem_inv {v : Value} {n : Int} {b : Bool} {ps : List MemPlace} (h : endElem v = some (.agg [.lit (.int .i64 n), .lit (.bool b)], ps)) : v = .agg #[.int .i64 n, .bool b] := by
  cases v with
  | agg c =>
    have h : endL c.toList = _ := h
    unfold endL at h
    split at h
    · rename_i n' b' hc
      simp at h
      obtain ⟨⟨rfl, rfl⟩, _⟩ := h
      have : c = #[.int .i64 n', .bool b'] := by
        rw [← Array.toArray_toList (xs := c), hc]
      rw [this]
    · cases h
  | _ => cases h
def endD (e : En) : DataW Unit := .agg [.lit (.int .i64 e.1), .lit (.bool e.2)]

/-- The map's reading is the function. -/
structure Tie (D : DataW Unit) (F : Dr) : Prop where
  at_ : ∀ (d : Int) (s : ByteArray), (Lit.int .i64 d).wf = true → s.size ≤ maxLen → D.atKey (kL d s) (endD (0, false)) = endD (F d s)
theorem kL_key (d : Int) (s : ByteArray) : WideAt.IsKeyLit (kL d s) := trivial
theorem tie_nil : Tie (.map []) tab0 := ⟨fun d s _ _ => by simp [tab0, DataW.atKey]⟩
theorem Tie.put {D : DataW Unit} {F : Dr} (h : Tie D F) (ht : Tidy D) {d : Int} {s : ByteArray} (hd : (Lit.int .i64 d).wf = true) (hs : s.size ≤ maxLen) (e : En) :
    Tie (D.put (kL d s) (endD e)) (fun d' s' => if d' = d ∧ s' = s then e else F d' s') where
  at_ d' s' hd' hs' := by
    by_cases hc : d' = d ∧ s' = s
    · rw [if_pos hc]
      obtain ⟨rfl, rfl⟩ := hc
      exact atKey_put_same ht.isMap (kL_key _ _) _ _
    · rw [if_neg hc, ← h.at_ d' s' hd' hs']
      exact atKey_put_other (fun e => hc (kL_inj hd' hd hs' hs e)) _ _
end Go.Proofs.Ytfekgfimbkgkfab
