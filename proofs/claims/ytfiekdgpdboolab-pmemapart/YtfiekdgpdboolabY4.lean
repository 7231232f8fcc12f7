import Derived.Test.YtfiekdgpdboolabY2
namespace Go.Proofs.Ytfiekdgpdboolab
open Go.RowKit Go.Maps

/-- An own row, opened. -/
theorem row_open {w : World} {base : Nat} {e : TypeId} {size : Nat} {v : Value} {n : Nat} {xs : List Value} (h : w.ownsRow base e size v n xs) :
    ∃ p cap, v = .slice p n cap ∧ n ≤ cap ∧ (0 < n → ∃ g, p = some ⟨g, 0, none⟩ ∧ base ≤ g ∧ g < w.heap.size ∧ ∀ j, j < n * size → w.cell? ⟨g, j, none⟩ = xs[j]?) := by
  have h0 := h
  rcases h.2 with ⟨e1, e2⟩ | ⟨g, cap, cur, e1, hg, hh, q1, q2, q3, q4⟩
  · exact ⟨none, 0, by rw [e1, e2], by omega, fun h => by omega⟩
  · subst e1
    exact ⟨_, cap, rfl, q1, fun _ => ⟨g, rfl, hg, heap_lt hh, fun j hj => h0.cellAt j hj⟩⟩

/-- A list of bytes that was handed out, and what append gave behind it. -/
structure Lent1 where
  b : Nat
  nb : Nat
  cb : Nat
  g : Nat
  ng : Nat
  cg : Nat
  m : Int

def Lent1.cells (t : Lent1) : List Value := [.slice (some ⟨t.b, 0, none⟩) t.nb t.cb, .slice (some ⟨t.g, 0, none⟩) t.ng t.cg, .int .u8 t.m]

/-- It holds its marks, in blocks of Z. -/
structure Lent1.Ok (w : World) (Z : Nat → Prop) (t : Lent1) : Prop where
  nb : t.nb ≤ 10000
  ng : t.ng ≤ 10100
  zb : Z t.b
  zg : Z t.g
  cb : ∀ i, i < t.nb → w.cell? ⟨t.b, i, none⟩ = some (.int .u8 t.m)
  cg : ∀ i, i < t.ng → w.cell? ⟨t.g, i, none⟩ = some (.int .u8 t.m)

def lentCells (l : List Lent1) : List Value := l.flatMap Lent1.cells

theorem lentCells_len (l : List Lent1) : (lentCells l).length = l.length * 3 := by
  induction l with
  | nil => rfl
  | cons a l ih => simp only [lentCells, List.flatMap_cons, List.length_append] at ih ⊢; rw [ih]; simp [Lent1.cells]; omega

theorem lentCells_get (l : List Lent1) (i : Nat) (hi : i < l.length) : ∃ t, t ∈ l ∧
    (lentCells l)[i * 3]? = some (.slice (some ⟨t.b, 0, none⟩) t.nb t.cb) ∧ (lentCells l)[i * 3 + 1]? = some (.slice (some ⟨t.g, 0, none⟩) t.ng t.cg) ∧ (lentCells l)[i * 3 + 2]? = some (.int .u8 t.m) := by
  induction l generalizing i with
  | nil => simp at hi
  | cons a l ih =>
    have e : lentCells (a :: l) = [.slice (some ⟨a.b, 0, none⟩) a.nb a.cb, .slice (some ⟨a.g, 0, none⟩) a.ng a.cg, .int .u8 a.m] ++ lentCells l := by simp [lentCells, Lent1.cells]
    rw [e]
    cases i with
    | zero => exact ⟨a, by simp, by simp, by simp, by simp⟩
    | succ i =>
      have hi' : i < l.length := by simpa using hi
      obtain ⟨t, h0, h1, h2, h3⟩ := ih i hi'
      refine ⟨t, by simp [h0], ?_, ?_, ?_⟩
      · rw [List.getElem?_append_right (by simp; omega), ← h1]; congr 1; simp; omega
      · rw [List.getElem?_append_right (by simp; omega), ← h2]; congr 1; simp; omega
      · rw [List.getElem?_append_right (by simp; omega), ← h3]; congr 1; simp; omega

set_option maxHeartbeats 1000000 in
set_option maxRecDepth 20000 in
/-- kept: all the lists hold their marks. -/
theorem kept_any (w : World) (Z : Nat → Prop) (base : Nat) (v : Value) (ls : List Lent1) (hrow : w.ownsRow base 55 3 v ls.length (lentCells ls)) (hok : ∀ t ∈ ls, t.Ok w Z) (hl : ls.length ≤ 1000) :
    Calls Try.prog 28 #[v] w fun e w' => e = .returned (.bool true) ∧ ∃ q, w' = w.drewN q := by
  obtain ⟨p, cap, rfl, hcap, hcell⟩ := row_open hrow
  have HC := Hid.mk' hcell
  have HO := Hid.mk' hok
  clear hrow hcell hok
  go_enter Try.func28, Try.ntmps28
  go_wp2
  go_loopw [3] (fun i wr => ∃ k : Nat, k ≤ ls.length ∧ i = .int .i64 k ∧ ∃ q, wr = w.drewN q) (fun i _ => ls.length - (intOf i).toNat)
  case atStart => exact ⟨0, by omega, rfl, 0, rfl⟩
  case round =>
    obtain ⟨k, hk, rfl, q, rfl⟩ := hrel
    by_cases hlt : k < ls.length
    · obtain ⟨lb, rfl, _, _, hc⟩ := HC.out (by omega)
      obtain ⟨t, ht, g0, g1, g2⟩ := lentCells_get ls k hlt
      have c0 := (hc (k * 3) (by omega)).trans g0
      have c1 := (hc (k * 3 + 1) (by omega)).trans g1
      have c2 := (hc (k * 3 + 2) (by omega)).trans g2
      obtain ⟨o1, o2, _, _, o5, o6⟩ := HO.out t ht
      have H5 := Hid.mk' o5
      have H6 := Hid.mk' o6
      have h3 : (0 : Int) ≤ (k : Int) := by omega
      have h4 : (k : Int) < (ls.length : Int) := by omega
      clear hc g0 g1 g2 ht o5 o6
      go_wp2
      go_loopw [4] (fun i wr => ∃ j : Nat, j ≤ t.nb ∧ i = .int .i64 j ∧ ∃ q, wr = w.drewN q) (fun i _ => t.nb - (intOf i).toNat)
      case atStart => exact ⟨0, by omega, rfl, q, rfl⟩
      case round =>
        obtain ⟨j, hj, rfl, q1, rfl⟩ := hrel
        by_cases hlj : j < t.nb
        · have h1 := H5.out j hlj
          have h5 : (0 : Int) ≤ (j : Int) := by omega
          have h6 : (j : Int) < (t.nb : Int) := by omega
          go_wp2
          go_quiet (fail)
          go_wp2
          go_roundw
          case rel => exact ⟨j + 1, by omega, by go_num, _, rfl⟩
          case measure => simp [intOf]; omega
        · obtain rfl : j = t.nb := by omega
          go_wp2
          go_loopw [5] (fun i wr => ∃ j : Nat, j ≤ t.ng ∧ i = .int .i64 j ∧ ∃ q, wr = w.drewN q) (fun i _ => t.ng - (intOf i).toNat)
          case atStart => exact ⟨0, by omega, rfl, q1, rfl⟩
          case round =>
            obtain ⟨j, hj, rfl, q2, rfl⟩ := hrel
            by_cases hlj : j < t.ng
            · have h1 := H6.out j hlj
              have h5 : (0 : Int) ≤ (j : Int) := by omega
              have h6 : (j : Int) < (t.ng : Int) := by omega
              go_wp2
              go_quiet (fail)
              go_wp2
              go_roundw
              case rel => exact ⟨j + 1, by omega, by go_num, _, rfl⟩
              case measure => simp [intOf]; omega
            · obtain rfl : j = t.ng := by omega
              go_wp2
              go_roundw
              case rel => exact ⟨k + 1, by omega, by go_num, _, rfl⟩
              case measure => simp [intOf]; omega
    · obtain rfl : k = ls.length := by omega
      go_wp2
      go_ret
      exact ⟨rfl, q, rfl⟩

end Go.Proofs.Ytfiekdgpdboolab
