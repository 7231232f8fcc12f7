import Derived.Test.YtnafocbgapianabP1
namespace Go.Proofs.Ytnafocbgapianab
open Go.RowKit

/-- What a take tells, and leaves. -/
def tkR (s : Sh) (S : Nat → Bool) (core n : Int) : List (Nat × Nat) × Int × (Nat → Bool) :=
  if ¬ ((0 ≤ core ∧ core < s.cores) ∧ 0 ≤ n) then ([], 52, S) else if (cn S s.pages : Int) < n then ([], 50, S) else ((tk s core.toNat S n.toNat).2.2.foldl addP [], 0, (tk s core.toNat S n.toNat).1)

theorem tkR_len {s : Sh} {S : Nat → Bool} (hg : s.Good) (hs : ∀ i, S i = true → s.data ≤ i ∧ i < s.pages) (core n : Int) : (tkR s S core n).1.length ≤ 1024 := by
  unfold tkR
  split
  · simp
  · split
    · simp
    · rename_i h1 h2
      obtain ⟨t1, _, t3, _⟩ := tk_all hg hs (core := core.toNat) (n := n.toNat) (by omega) (by omega)
      have := (fold_bd (tk s core.toNat S n.toNat).2.2 (l := []) (M := s.pages) (by simp) (fun q hq => (hs q (t3 q hq)).2)).2
      have := cn_le S s.pages
      have := hg.2.1
      simp at *
      omega

theorem take_any (w : World) (d : Nat) (s : Sh) (S : Nat → Bool) (h : PoolAt w d s S) (core n : Int) :
    Calls Try.prog 17 #[.pointer (some ⟨d, 0, none⟩), .int .i64 core, .int .i64 n] w fun e w' => ∃ v, e = .returned (.tuple #[v, .int .i64 (tkR s S core n).2.1]) ∧ SpAt w' w.heap.size v (tkR s S core n).1 ∧ PoolAt w' d s (tkR s S core n).2.2 ∧ Keeps (fun k => k = d ∨ w.heap.size ≤ k) w w' := by
  by_cases h1 : (0 ≤ core ∧ core < s.cores) ∧ 0 ≤ n
  · by_cases h2 : (cn S s.pages : Int) < n
    · have e : tkR s S core n = ([], 50, S) := by unfold tkR; rw [if_neg (fun h => h h1), if_pos h2]
      rw [e]
      refine (take_full w d s S h core n h1.1 h2).mono ?_
      rintro r w' ⟨rfl, rfl⟩
      exact ⟨_, rfl, SpAt.nil _ _, h, Keeps.refl _ _⟩
    · have e : tkR s S core n = ((tk s core.toNat S n.toNat).2.2.foldl addP [], 0, (tk s core.toNat S n.toNat).1) := by unfold tkR; rw [if_neg (fun h => h h1), if_neg h2]
      rw [e]
      obtain ⟨c, rfl⟩ := Int.eq_ofNat_of_zero_le h1.1.1
      obtain ⟨m, rfl⟩ := Int.eq_ofNat_of_zero_le h1.2
      exact take_yes w d s S h c m (by omega) (by omega)
  · have e : tkR s S core n = ([], 52, S) := by unfold tkR; rw [if_pos h1]
    rw [e]
    refine (take_range w d s S h core n h1).mono ?_
    rintro r w' ⟨rfl, rfl⟩
    exact ⟨_, rfl, SpAt.nil _ _, h, Keeps.refl _ _⟩
theorem rtake_any (w : World) (e : Nat) (v : Value) (s : Sh) (S : Nat → Bool) (h : RpAt w e v s S) (core n : Int) :
    Calls Try.prog 59 #[.pointer (some ⟨e, 0, none⟩), .int .i64 core, .int .i64 n] w fun r w' => ∃ x, r = .returned (.tuple #[x, .int .i64 (tkR s S core n).2.1]) ∧ SpAt w' w.heap.size x (tkR s S core n).1 ∧ RpAt w' e v s (tkR s S core n).2.2 ∧ Keeps (fun k => v.ownBlock = some k ∨ w.heap.size ≤ k) w w' := by
  by_cases h1 : (0 ≤ core ∧ core < s.cores) ∧ 0 ≤ n
  · by_cases h2 : (cn S s.pages : Int) < n
    · have e : tkR s S core n = ([], 50, S) := by unfold tkR; rw [if_neg (fun h => h h1), if_pos h2]
      rw [e]
      refine (rtake_full w _ v s S h core n h1.1 h2).mono ?_
      rintro r w' ⟨rfl, rfl⟩
      exact ⟨_, rfl, SpAt.nil _ _, h, Keeps.refl _ _⟩
    · have e : tkR s S core n = ((tk s core.toNat S n.toNat).2.2.foldl addP [], 0, (tk s core.toNat S n.toNat).1) := by unfold tkR; rw [if_neg (fun h => h h1), if_neg h2]
      rw [e]
      obtain ⟨c, rfl⟩ := Int.eq_ofNat_of_zero_le h1.1.1
      obtain ⟨m, rfl⟩ := Int.eq_ofNat_of_zero_le h1.2
      exact rtake_yes w _ v s S h c m (by omega) (by omega)
  · have e : tkR s S core n = ([], 52, S) := by unfold tkR; rw [if_pos h1]
    rw [e]
    refine (rtake_range w _ v s S h core n h1).mono ?_
    rintro r w' ⟨rfl, rfl⟩
    exact ⟨_, rfl, SpAt.nil _ _, h, Keeps.refl _ _⟩

/-- What a giving back tells, and leaves. -/
def gvR (s : Sh) (S : Nat → Bool) (l : List Int) : Int × (Nat → Bool) :=
  if l.all (inD s) = false then (52, S) else match gv S (l.map Int.toNat) with | none => (51, S) | some T => (0, T)

theorem give_any (w : World) (d : Nat) (s : Sh) (S : Nat → Bool) (h : PoolAt w d s S) (p : Option Addr) (cap : Nat) (l : List Int) (hin : IntIn w p l) (hl : l.length ≤ maxLen) :
    Calls Try.prog 21 #[.pointer (some ⟨d, 0, none⟩), .slice p l.length cap] w fun e w' => e = .returned (.int .i64 (gvR s S l).1) ∧ PoolAt w' d s (gvR s S l).2 ∧ Keeps (fun k => k = d ∨ w.heap.size ≤ k) w w' := by
  cases hb : l.all (inD s) with
  | false =>
    have e : gvR s S l = (52, S) := by unfold gvR; rw [if_pos hb]
    rw [e]
    refine (give_range w d s S h p cap l hin hl hb).mono ?_
    rintro r w' ⟨rfl, rfl⟩
    exact ⟨rfl, h, Keeps.refl _ _⟩
  | true =>
    refine (give_in w d s S h p cap l hin hl hb).mono ?_
    rintro r w' (⟨h0, rfl, h1, h2⟩ | ⟨T, h0, rfl, h1, h2⟩)
    · have e : gvR s S l = (51, S) := by unfold gvR; rw [if_neg (by rw [hb]; decide), h0]
      rw [e]
      exact ⟨rfl, h1, h2.mono (fun k _ hk => Or.inr hk)⟩
    · have e : gvR s S l = (0, T) := by unfold gvR; rw [if_neg (by rw [hb]; decide), h0]
      rw [e]
      exact ⟨rfl, h1, h2⟩
theorem rgive_any (w : World) (e : Nat) (v : Value) (s : Sh) (S : Nat → Bool) (h : RpAt w e v s S) (p : Option Addr) (cap : Nat) (l : List Int) (hin : IntIn w p l) (hpg4 : ∀ b, p.map (·.block) = some b → v.ownBlock ≠ some b) (hl : l.length ≤ maxLen) :
    Calls Try.prog 61 #[.pointer (some ⟨e, 0, none⟩), .slice p l.length cap] w fun r w' => r = .returned (.int .i64 (gvR s S l).1) ∧ RpAt w' e v s (gvR s S l).2 ∧ Keeps (fun k => v.ownBlock = some k ∨ w.heap.size ≤ k) w w' := by
  cases hb : l.all (inD s) with
  | false =>
    have e : gvR s S l = (52, S) := by unfold gvR; rw [if_pos hb]
    rw [e]
    refine (rgive_range w _ v s S h p cap l hin hl hb).mono ?_
    rintro r w' ⟨rfl, rfl⟩
    exact ⟨rfl, h, Keeps.refl _ _⟩
  | true =>
    refine (rgive_in w e v s S h p cap l hin hpg4 hl hb).mono ?_
    rintro r w' (⟨h0, rfl, h1, h2⟩ | ⟨T, h0, rfl, h1, h2⟩)
    · have e : gvR s S l = (51, S) := by unfold gvR; rw [if_neg (by rw [hb]; decide), h0]
      rw [e]
      exact ⟨rfl, h1, h2.mono (fun k _ hk => Or.inr hk)⟩
    · have e : gvR s S l = (0, T) := by unfold gvR; rw [if_neg (by rw [hb]; decide), h0]
      rw [e]
      exact ⟨rfl, h1, h2⟩

theorem op_cells2 {w : World} {Q : Nat} {k A Bq N M : Int} {pp : Option Addr} {pn pc : Nat} {sq : Option Addr} {sn sc : Nat} {s0 s1 s2 s3 : Int} (h : w.heap[Q]? = some (.cells #[.int .i64 k, .int .i64 A, .int .i64 Bq, .int .i64 N, .int .i64 M, .slice pp pn pc, .slice sq sn sc, .int .i64 s0, .int .i64 s1, .int .i64 s2, .int .i64 s3] 75 (0, 0))) :
    w.cell? ⟨Q, 5, none⟩ = some (.slice pp pn pc) ∧ w.cell? ⟨Q, 6, none⟩ = some (.slice sq sn sc) ∧ w.cell? ⟨Q, 7, none⟩ = some (.int .i64 s0) ∧ w.cell? ⟨Q, 8, none⟩ = some (.int .i64 s1) ∧ w.cell? ⟨Q, 9, none⟩ = some (.int .i64 s2) ∧ w.cell? ⟨Q, 10, none⟩ = some (.int .i64 s3) := by
  simp [World.cell?, h]

end Go.Proofs.Ytnafocbgapianab
