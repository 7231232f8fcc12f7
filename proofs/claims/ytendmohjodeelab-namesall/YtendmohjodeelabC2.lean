import Derived.Test.YtendmohjodeelabB6
namespace Go.Proofs.Ytendmohjodeelab
open Go.RowKit Go.Maps Go.Great

/-! furrowref08's index: its rows, in the same terms. -/
def rcells (S : List Rw) : List Value := S.flatMap fun r => [Value.int .i64 r.1, .string r.2.1, .int .i64 r.2.2]
theorem rcells_len (S : List Rw) : (rcells S).length = S.length * 3 := by
  induction S with
  | nil => rfl
  | cons a l ih => simp only [rcells, List.flatMap_cons, List.length_append] at ih ⊢; rw [ih]; simp; omega
def rz : Rw := (0, ByteArray.empty, 0)
theorem rcells_at : ∀ (S : List Rw) (i : Nat), i < S.length → (rcells S)[i * 3]? = some (.int .i64 (S.getD i rz).1) ∧ (rcells S)[i * 3 + 1]? = some (.string (S.getD i rz).2.1) ∧ (rcells S)[i * 3 + 2]? = some (.int .i64 (S.getD i rz).2.2)
  | [], i, h => by simp at h
  | a :: l, 0, _ => ⟨rfl, rfl, rfl⟩
  | a :: l, i + 1, h => by
    have ih := rcells_at l i (by simpa using h)
    have e : ∀ t, (rcells (a :: l))[t + 3]? = (rcells l)[t]? := fun t => rfl
    have e1 : (i + 1) * 3 = i * 3 + 3 := by omega
    have e2 : (i + 1) * 3 + 1 = (i * 3 + 1) + 3 := by omega
    have e3 : (i + 1) * 3 + 2 = (i * 3 + 2) + 3 := by omega
    rw [e2, e3, e1, e, e, e]
    simpa using ih
theorem rcells_snoc (S : List Rw) (r : Rw) : rcells (S ++ [r]) = rcells S ++ [.int .i64 r.1, .string r.2.1, .int .i64 r.2.2] := by simp [rcells]
theorem rcells_one (S : List Rw) : ∀ u ∈ rcells S, u.oneCell' = true := by
  intro u hu
  simp only [rcells, List.mem_flatMap] at hu
  obtain ⟨x, _, hx⟩ := hu
  simp at hx
  rcases hx with rfl | rfl | rfl <;> rfl

/-- Rows of one's own. -/
def RowR (w : World) (v : Value) (S : List Rw) : Prop := w.ownsRow 0 89 3 v S.length (rcells S)
/-- The reference's index at block y. -/
def RefAt (w : World) (y : Nat) (S : List Rw) : Prop := ∃ v, w.heap[y]? = some (.cells #[v] 74 (0, 0)) ∧ RowR w v S

theorem RowR.keep {w w' : World} {v : Value} {S : List Rw} (h : RowR w v S) {X : Nat → Prop} (k : Keeps X w w') (hx : ∀ i, X i → ∀ c f, w.heap[i]? ≠ some (.cells c 89 f)) : RowR w' v S := by
  rcases h.2 with ⟨rfl, h0⟩ | ⟨g, cap, cur, rfl, hg, hb, h1⟩
  · exact ⟨h.1, Or.inl ⟨rfl, h0⟩⟩
  · exact ⟨h.1, Or.inr ⟨g, cap, cur, rfl, hg, k.at hb (fun hxg => hx g hxg _ _ hb), h1⟩⟩
theorem RowR.grown {w w' : World} {v : Value} {S : List Rw} (h : RowR w v S) (k : Keeps (fun _ => False) w w') : RowR w' v S := h.keep k (fun _ h => h.elim)
theorem RefAt.keep {w w' : World} {y : Nat} {S : List Rw} (h : RefAt w y S) {X : Nat → Prop} (k : Keeps X w w') (hy : ¬ X y) (hx : ∀ i, X i → ∀ c f, w.heap[i]? ≠ some (.cells c 89 f)) : RefAt w' y S := by
  obtain ⟨v, h1, h2⟩ := h
  exact ⟨v, k.at h1 hy, h2.keep k hx⟩
theorem RefAt.grown {w w' : World} {y : Nat} {S : List Rw} (h : RefAt w y S) (k : Keeps (fun _ => False) w w') : RefAt w' y S := h.keep k (fun h => h) (fun _ h => h.elim)
theorem RowR.shape {w : World} {v : Value} {S : List Rw} (h : RowR w v S) : ∃ p cap, v = .slice p S.length cap := by
  rcases h.2 with ⟨rfl, h0⟩ | ⟨g, cap, cur, rfl, _⟩
  · exact ⟨none, 0, by rw [h0]⟩
  · exact ⟨_, _, rfl⟩
theorem RowR.at {w : World} {p : Option Addr} {n c : Nat} {S : List Rw} (h : RowR w (.slice p n c) S) (h0 : 0 < S.length) : ∃ g, p = some ⟨g, 0, none⟩ ∧ ∀ i, i < S.length → w.cell? ⟨g, i * 3, none⟩ = some (.int .i64 (S.getD i rz).1) ∧ w.cell? ⟨g, i * 3 + 1, none⟩ = some (.string (S.getD i rz).2.1) ∧ w.cell? ⟨g, i * 3 + 2, none⟩ = some (.int .i64 (S.getD i rz).2.2) := by
  rcases h.2 with ⟨e, h1⟩ | ⟨g, cap, cur, e, h2⟩
  · omega
  · cases e
    refine ⟨g, rfl, fun i hi => ?_⟩
    have hc := rcells_at S i hi
    refine ⟨?_, ?_, ?_⟩
    · rw [World.ownsRow.cellAt h (i * 3) (by omega)]; exact hc.1
    · rw [World.ownsRow.cellAt h (i * 3 + 1) (by omega)]; exact hc.2.1
    · rw [World.ownsRow.cellAt h (i * 3 + 2) (by omega)]; exact hc.2.2
theorem refcell {w : World} {y : Nat} {v : Value} (h : w.heap[y]? = some (.cells #[v] 74 (0, 0))) : w.cell? ⟨y, 0, none⟩ = some v ∧ w.frozen? ⟨y, 0, none⟩ = false := by
  refine ⟨by rw [cell_of_row _ _ 0 _ 74 (0, 0) h]; rfl, by simp [World.frozen?, h]⟩

theorem ref_new (w : World) : Calls Try.prog 31 #[] w fun e w' => e = .returned (.pointer (some ⟨w.heap.size, 0, none⟩)) ∧ Hid (RefAt w' w.heap.size [] ∧ Keeps (fun _ => False) w w' ∧ w'.heap.size = w.heap.size + 1) := by
  go_enter Try.func31, Try.ntmps31
  go_wp2
  go_ret
  exact ⟨rfl, ⟨_, heap_alloc_last w _, ⟨rfl, Or.inl ⟨rfl, rfl⟩⟩⟩, (Keeps.refl _ w).alloc _, by simp⟩

theorem number_any (n : Int) (w : World) : Calls Try.prog 59 #[.int .i64 n] w fun e w' => e = .returned (.bool (isIno n)) ∧ w' = w := by
  unfold isIno
  go_enter Try.func59, Try.ntmps59
  go_wp2
  all_goals (go_ret; refine ⟨ret_bool ?_, rfl⟩)
  all_goals simp_all
  all_goals omega

/-- Where a name stands: its place, or -1. -/
def fndI (S : List Rw) (d : Int) (s : ByteArray) : Int := match S.findIdx? (same d s) with | some i => (i : Int) | none => -1
theorem fnd_none {S : List Rw} {d : Int} {s : ByteArray} (h : hasS S d s = false) : fndI S d s = -1 := by
  unfold fndI
  have : S.findIdx? (same d s) = none := List.findIdx?_eq_none_iff.2 (fun r hr => by
    have := hasS_not.1 h r hr
    rw [Bool.eq_false_iff]; exact fun e => this (same_iff.1 e))
  rw [this]
theorem fnd_hit {S : List Rw} {d : Int} {s : ByteArray} {k : Nat} (hk : k < S.length) (hb : ∀ j, j < k → same d s (S.getD j rz) = false) (hs : same d s (S.getD k rz) = true) : fndI S d s = k := by
  unfold fndI
  have hg : ∀ j (hj : j < S.length), S.getD j rz = S[j] := fun j hj => by simp [List.getD_eq_getElem?_getD, hj]
  have : S.findIdx? (same d s) = some k := by
    rw [List.findIdx?_eq_some_iff_getElem]
    refine ⟨hk, by rw [← hg k hk]; exact hs, fun j hj => ?_⟩
    have := hb j hj
    rw [hg j (by omega)] at this
    simp [this]
  rw [this]
theorem fnd_miss {S : List Rw} {d : Int} {s : ByteArray} (hb : ∀ j, j < S.length → same d s (S.getD j rz) = false) : hasS S d s = false := by
  rw [hasS_not]
  intro r hr e
  obtain ⟨j, hj, rfl⟩ := List.getElem_of_mem hr
  have := hb j hj
  rw [show S.getD j rz = S[j] by simp [List.getD_eq_getElem?_getD, hj], same_iff.2 e] at this
  cases this

theorem beq_toList {a b : ByteArray} : (a.toList == b.toList) = decide (a = b) := by
  rw [ByteArray.toList_eq, ByteArray.toList_eq]
  by_cases h : a = b
  · simp [h]
  · have : ¬ a.data.toList = b.data.toList := fun e => h (bytes_ext e)
    have h2 : (a.data.toList == b.data.toList) = false := by rw [Bool.eq_false_iff]; exact fun e => this (by simpa using e)
    rw [h2]; simp [h]

set_option maxHeartbeats 1000000 in
theorem find_any (w : World) (y : Nat) (S : List Rw) (h : RefAt w y S) (d : Int) (s : ByteArray) (hn : S.length < 4000000000000) :
    Calls Try.prog 61 #[.pointer (some ⟨y, 0, none⟩), .int .i64 d, .string s] w fun e w' => e = .returned (.int .i64 (fndI S d s)) ∧ w' = w := by
  obtain ⟨v, hy, hr⟩ := h
  obtain ⟨p, cap, rfl⟩ := hr.shape
  have c0 := (refcell hy).1
  have HRW : Hid (RowR w (.slice p S.length cap) S) := hr
  clear hy hr
  go_enter Try.func61, Try.ntmps61
  go_wp2
  go_loop [7] (fun i => ∃ k : Nat, k ≤ S.length ∧ i = .int .i64 k ∧ Hid (∀ j, j < k → same d s (S.getD j rz) = false)) (fun i => S.length - (intOf i).toNat)
  case atStart => exact ⟨0, Nat.zero_le _, rfl, fun j hj => absurd hj (by omega)⟩
  case round =>
    obtain ⟨k, hk, rfl, HB⟩ := hrel
    by_cases h1 : k < S.length
    · obtain ⟨g, rfl, hc⟩ := HRW.out.at (by omega)
      obtain ⟨c1, c2, _⟩ := hc k h1
      have HH : Hid (∀ q, S.getD k rz = q → (same d s q = true → fndI S d s = k) ∧ (same d s q = false → ∀ j, j < k + 1 → same d s (S.getD j rz) = false)) := by
        rintro q rfl
        refine ⟨fun hs => fnd_hit h1 HB.out hs, fun hs j hj => ?_⟩
        rcases Nat.lt_or_ge j k with h | h
        · exact HB.out j h
        · obtain rfl : j = k := by omega
          exact hs
      have HH := HH.out _ rfl
      generalize S.getD k rz = q at c1 c2 HH
      obtain ⟨qd, qs, qi⟩ := q
      simp only at c1 c2
      have h1' : (k : Int) < (S.length : Int) := by omega
      clear hc
      rcases Bool.eq_false_or_eq_true (decide (qd = d)) with hd | hd
      · have hd2 : (qd == d) = true := by simpa using hd
        rcases Bool.eq_false_or_eq_true (decide (qs = s)) with hs | hs
        · have hs2 : (qs.toList == s.toList) = true := by rw [beq_toList]; exact hs
          have HF : Hid (fndI S d s = k) := HH.1 (by simp [same] at hd hs ⊢; exact ⟨hd, hs⟩)
          clear HH hd hs
          go_wp2
          go_ret
          exact ⟨ret_int HF.out.symm, rfl⟩
        · have hs2 : (qs.toList == s.toList) = false := by rw [beq_toList]; exact hs
          have HF : Hid (∀ j, j < k + 1 → same d s (S.getD j rz) = false) := HH.2 (by simp [same] at hd hs ⊢; intro _; exact hs)
          clear HH hd hs
          go_wp2
          exact ⟨⟨k + 1, by omega, by go_num, HF⟩, by simp [intOf]; omega⟩
      · have hd2 : (qd == d) = false := by simpa using hd
        have HF : Hid (∀ j, j < k + 1 → same d s (S.getD j rz) = false) := HH.2 (by simp [same] at hd ⊢; intro h; exact absurd h hd)
        clear HH hd
        go_wp2
        exact ⟨⟨k + 1, by omega, by go_num, HF⟩, by simp [intOf]; omega⟩
    · have h1' : ¬ (k : Int) < (S.length : Int) := by omega
      go_wp2
      go_ret
      exact ⟨ret_int (by rw [fnd_none (fnd_miss (fun j hj => HB.out j (by omega)))]), rfl⟩

end Go.Proofs.Ytendmohjodeelab
