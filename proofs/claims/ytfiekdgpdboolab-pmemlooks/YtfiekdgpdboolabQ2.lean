import Derived.Test.YtfiekdgpdboolabQ1
namespace Go.Proofs.Ytfiekdgpdboolab
open Go.RowKit Go.Maps

theorem setCell_other {w : World} {g : Nat} {arr : Array Value} {t : TypeId} {f : Nat × Nat} {o o' : Nat} {v : Value} (h : w.heap[g]? = some (.cells arr t f)) (hne : o' ≠ o) : (w.setCell ⟨g, o, none⟩ v).cell? ⟨g, o', none⟩ = w.cell? ⟨g, o', none⟩ := by
  have e := setCell_block (a := ⟨g, o, none⟩) (v := v) h rfl
  simp [World.cell?, e, h, Array.getElem?_setIfInBounds_ne (Ne.symm hne)]

theorem setCell_same {w : World} {g : Nat} {arr : Array Value} {t : TypeId} {f : Nat × Nat} {o : Nat} {v u : Value} (h : w.heap[g]? = some (.cells arr t f)) (hc : w.cell? ⟨g, o, none⟩ = some u) : (w.setCell ⟨g, o, none⟩ v).cell? ⟨g, o, none⟩ = some v := by
  have e := setCell_block (a := ⟨g, o, none⟩) (v := v) h rfl
  simp [World.cell?, h] at hc
  obtain ⟨hc1, _⟩ := Array.getElem?_eq_some_iff.1 hc
  simp [World.cell?, e, Array.getElem?_setIfInBounds_self_of_lt hc1]

section
variable {w : World} {F : Nat → Prop} {r : Nat} {R : Rf} {M : RLay}

/-- A line has one store more. -/
theorem RefAt.putted {w' : World} {g c i : Nat} {p : Note3} (h : RefAt w F r R M) (hi : i < R.n) (hk : Keeps (fun k => k = M.lb ∨ (M.ps i).ownBlock = some k) w w') (hlb : ∃ arr, w'.heap[M.lb]? = some (.cells arr 136 (0, 0)))
    (hcell : ∀ o, o ≠ i * 10 + 8 → w'.cell? ⟨M.lb, o, none⟩ = w.cell? ⟨M.lb, o, none⟩) (hc8 : w'.cell? ⟨M.lb, i * 10 + 8, none⟩ = some (.slice (some ⟨g, 0, none⟩) ((R.puts i).length + 1) c))
    (hrow : w'.ownsRow 0 140 3 (.slice (some ⟨g, 0, none⟩) ((R.puts i).length + 1) c) ((R.puts i).length + 1) (putCells (R.puts i ++ [p]))) (hg : (M.ps i).ownBlock = some g ∨ w.heap.size ≤ g)
    (hp : 0 ≤ p.2.1 ∧ p.2.1 < 18446744073709551616) (hlen : ((R.puts i).length : Int) + 1 ≤ R.now) :
    RefAt w' (fun k => F k ∨ k = g) r { R with puts := fun j => if j = i then R.puts i ++ [p] else R.puts j } { M with ps := fun j => if j = i then .slice (some ⟨g, 0, none⟩) ((R.puts i).length + 1) c else M.ps j } := by
  obtain ⟨arr, harr⟩ := h.lns
  have hgn : ∀ j, j < R.n → j ≠ i → ∀ k, (M.ps j).ownBlock = some k → ¬ (k = M.lb ∨ (M.ps i).ownBlock = some k) := by
    rintro j hj hji k hk1 (rfl | hk2)
    · exact row_apart (h.prow j hj) hk1 harr (by decide) rfl
    · exact hji (h.pinj j i k hj hi hk1 hk2)
  have hfn : ∀ j, j < R.n → ∀ k, (M.fs j).ownBlock = some k → ¬ (k = M.lb ∨ (M.ps i).ownBlock = some k) := by
    rintro j hj k hk1 (rfl | hk2)
    · exact row_apart (h.frow j hj) hk1 harr (by decide) rfl
    · exact rows_apart (h.prow i hi) hk2 (h.frow j hj) hk1 (by decide)
  have hrn : ¬ (r = M.lb ∨ (M.ps i).ownBlock = some r) := by
    rintro (e | hk2)
    · exact h.r_ne_lb e.symm
    · exact row_apart (h.prow i hi) hk2 h.dev (by decide) rfl
  exact {
    dev := (hk.block r (heap_lt h.dev) hrn).trans h.dev
    lns := hlb
    fst := fun j hj k hk8 => by rw [hcell _ (by omega)]; exact h.fst j hj k hk8
    pcl := fun j hj => by
      by_cases e : j = i
      · subst e; simpa using hc8
      · simp only [if_neg e]; rw [hcell _ (by omega)]; exact h.pcl j hj
    fcl := fun j hj => by rw [hcell _ (by omega)]; exact h.fcl j hj
    prow := fun j hj => by
      by_cases e : j = i
      · subst e; simpa using hrow
      · simp only [if_neg e]; exact hk.row (h.prow j hj) (hgn j hj e)
    frow := fun j hj => hk.row (h.frow j hj) (hfn j hj)
    pinj := fun a b k ha hb => by
      have hold : ∀ j, j < R.n → j ≠ i → (M.ps j).ownBlock = some k → k ≠ g := by
        rintro j hj hji hk1 rfl
        rcases hg with hg | hg
        · exact hji (h.pinj j i k hj hi hk1 hg)
        · have := h.fsz k (h.fps j k hj hk1); omega
      by_cases ea : a = i <;> by_cases eb : b = i
      · intro _ _; rw [ea, eb]
      · subst ea; simp only [if_neg eb, if_true]; intro h1 h2; simp [Value.ownBlock] at h1; exact absurd h1.symm (hold b hb eb h2)
      · subst eb; simp only [if_neg ea, if_true]; intro h1 h2; simp [Value.ownBlock] at h2; exact absurd h2.symm (hold a ha ea h1)
      · simp only [if_neg ea, if_neg eb]; exact h.pinj a b k ha hb
    finj := h.finj
    fvals := h.fvals
    pvals := fun j hj q hq => by
      by_cases e : j = i
      · subst e; simp at hq
        rcases hq with hq | hq
        · exact h.pvals j hj q hq
        · subst hq; exact hp
      · simp only [if_neg e] at hq; exact h.pvals j hj q hq
    plen := fun j hj => by
      by_cases e : j = i
      · subst e; simp; omega
      · simp only [if_neg e]; exact h.plen j hj
    flen := h.flen
    now0 := h.now0
    fen := h.fen
    left0 := h.left0
    nn := h.nn
    fr := Or.inl h.fr
    fl := Or.inl h.fl
    fps := fun j k hj => by
      by_cases e : j = i
      · subst e; simp [Value.ownBlock]; intro e; exact Or.inr e.symm
      · simp only [if_neg e]; intro h1; exact Or.inl (h.fps j k hj h1)
    ffs := fun j k hj h1 => Or.inl (h.ffs j k hj h1)
    fsz := by
      rintro k (h1 | rfl)
      · exact Nat.lt_of_lt_of_le (h.fsz k h1) hk.size
      · exact (hrow.lt k rfl).2 }

/-- A line has one flush more. -/
theorem RefAt.flushed {w' : World} {g c i : Nat} {p : Int} (h : RefAt w F r R M) (hi : i < R.n) (hk : Keeps (fun k => k = M.lb ∨ (M.fs i).ownBlock = some k) w w') (hlb : ∃ arr, w'.heap[M.lb]? = some (.cells arr 136 (0, 0)))
    (hcell : ∀ o, o ≠ i * 10 + 9 → w'.cell? ⟨M.lb, o, none⟩ = w.cell? ⟨M.lb, o, none⟩) (hc8 : w'.cell? ⟨M.lb, i * 10 + 9, none⟩ = some (.slice (some ⟨g, 0, none⟩) ((R.fls i).length + 1) c))
    (hrow : w'.ownsRow 0 3 1 (.slice (some ⟨g, 0, none⟩) ((R.fls i).length + 1) c) ((R.fls i).length + 1) (i64s (R.fls i ++ [p]))) (hg : (M.fs i).ownBlock = some g ∨ w.heap.size ≤ g)
    (hlen : ((R.fls i).length : Int) + 1 ≤ R.now) :
    RefAt w' (fun k => F k ∨ k = g) r { R with fls := fun j => if j = i then R.fls i ++ [p] else R.fls j } { M with fs := fun j => if j = i then .slice (some ⟨g, 0, none⟩) ((R.fls i).length + 1) c else M.fs j } := by
  obtain ⟨arr, harr⟩ := h.lns
  have hgn : ∀ j, j < R.n → j ≠ i → ∀ k, (M.fs j).ownBlock = some k → ¬ (k = M.lb ∨ (M.fs i).ownBlock = some k) := by
    rintro j hj hji k hk1 (rfl | hk2)
    · exact row_apart (h.frow j hj) hk1 harr (by decide) rfl
    · exact hji (h.finj j i k hj hi hk1 hk2)
  have hfn : ∀ j, j < R.n → ∀ k, (M.ps j).ownBlock = some k → ¬ (k = M.lb ∨ (M.fs i).ownBlock = some k) := by
    rintro j hj k hk1 (rfl | hk2)
    · exact row_apart (h.prow j hj) hk1 harr (by decide) rfl
    · exact rows_apart (h.frow i hi) hk2 (h.prow j hj) hk1 (by decide)
  have hrn : ¬ (r = M.lb ∨ (M.fs i).ownBlock = some r) := by
    rintro (e | hk2)
    · exact h.r_ne_lb e.symm
    · exact row_apart (h.frow i hi) hk2 h.dev (by decide) rfl
  exact {
    dev := (hk.block r (heap_lt h.dev) hrn).trans h.dev
    lns := hlb
    fst := fun j hj k hk8 => by rw [hcell _ (by omega)]; exact h.fst j hj k hk8
    pcl := fun j hj => by rw [hcell _ (by omega)]; exact h.pcl j hj
    fcl := fun j hj => by
      by_cases e : j = i
      · subst e; simpa using hc8
      · simp only [if_neg e]; rw [hcell _ (by omega)]; exact h.fcl j hj
    prow := fun j hj => hk.row (h.prow j hj) (hfn j hj)
    frow := fun j hj => by
      by_cases e : j = i
      · subst e; simpa using hrow
      · simp only [if_neg e]; exact hk.row (h.frow j hj) (hgn j hj e)
    pinj := h.pinj
    finj := fun a b k ha hb => by
      have hold : ∀ j, j < R.n → j ≠ i → (M.fs j).ownBlock = some k → k ≠ g := by
        rintro j hj hji hk1 rfl
        rcases hg with hg | hg
        · exact hji (h.finj j i k hj hi hk1 hg)
        · have := h.fsz k (h.ffs j k hj hk1); omega
      by_cases ea : a = i <;> by_cases eb : b = i
      · intro _ _; rw [ea, eb]
      · subst ea; simp only [if_neg eb, if_true]; intro h1 h2; simp [Value.ownBlock] at h1; exact absurd h1.symm (hold b hb eb h2)
      · subst eb; simp only [if_neg ea, if_true]; intro h1 h2; simp [Value.ownBlock] at h2; exact absurd h2.symm (hold a ha ea h1)
      · simp only [if_neg ea, if_neg eb]; exact h.finj a b k ha hb
    fvals := h.fvals
    pvals := h.pvals
    plen := h.plen
    flen := fun j hj => by
      by_cases e : j = i
      · subst e; simp; omega
      · simp only [if_neg e]; exact h.flen j hj
    now0 := h.now0
    fen := h.fen
    left0 := h.left0
    nn := h.nn
    fr := Or.inl h.fr
    fl := Or.inl h.fl
    fps := fun j k hj h1 => Or.inl (h.fps j k hj h1)
    ffs := fun j k hj => by
      by_cases e : j = i
      · subst e; simp [Value.ownBlock]; intro e; exact Or.inr e.symm
      · simp only [if_neg e]; intro h1; exact Or.inl (h.ffs j k hj h1)
    fsz := by
      rintro k (h1 | rfl)
      · exact Nat.lt_of_lt_of_le (h.fsz k h1) hk.size
      · exact (hrow.lt k rfl).2 }
end

theorem info140 : (Try.prog.info? 140).map (fun i => (i.zero, i.size, i.bytes)) = some (some (.agg #[.int .i64 0, .int .u64 0, .int .i64 0]), 3, 24) := by kernel_rfl

/-- What a Store, a Flush leaves; the answers. -/
def Rf.put (R : Rf) (a v : Int) : Rf := { R.tick with puts := fun j => if j = (a / 64).toNat then R.puts j ++ [(a / 8 % 8, v, R.now + 1)] else R.puts j }
def Rf.store (R : Rf) (a v : Int) : Int × Rf := if badWord (64 * R.n) a = 0 then (if R.left = 0 then (13, R) else (0, R.put a v)) else (badWord (64 * R.n) a, R)
def Rf.fl (R : Rf) (a : Int) : Rf := { R.tick with fls := fun j => if j = (a / 64).toNat then R.fls j ++ [R.now + 1] else R.fls j }
def Rf.flush (R : Rf) (a : Int) : Int × Rf := if 0 ≤ a ∧ a < 64 * (R.n : Int) then (if R.left = 0 then (13, R) else (0, R.fl a)) else (11, R)

theorem badWord_zero {n : Nat} {a : Int} (h : badWord n a = 0) : 0 ≤ a ∧ a < n ∧ a % 8 = 0 := by
  unfold badWord at h
  split at h
  · split at h
    · omega
    · omega
  · omega

set_option maxHeartbeats 1000000 in
set_option maxRecDepth 20000 in
theorem rstore_any (w : World) (F : Nat → Prop) (r : Nat) (R : Rf) (M : RLay) (a v : Int) (h : RefAt w F r R M) (hv : 0 ≤ v ∧ v < 18446744073709551616) (hn : R.now ≤ 1000000000) :
    Calls Try.prog 80 #[.pointer (some ⟨r, 0, none⟩), .int .i64 a, .int .u64 v] w fun e w' => e = .returned (.int .i64 (R.store a v).1) ∧ RMoved F r w w' (R.store a v).2 := by
  have HR := Hid.mk' h
  have hwr := rwrong_any w F r R M a h
  have hnow := h.now0
  by_cases hb : badWord (64 * R.n) a = 0
  · rw [hb] at hwr
    obtain ⟨b1, b2, b3⟩ := badWord_zero hb
    by_cases hl : R.left = 0
    · have hst := rstep_dead w F r R M h hl
      have e : R.store a v = (13, R) := by unfold Rf.store; rw [if_pos hb, if_pos hl]
      rw [e]
      clear h hl e hb b1 b2 b3
      go_enter Try.func80, Try.ntmps80
      go_wp2_with (first
        | (go_at_call 98; refine hwr.mono ?_; rintro e w' ⟨rfl, hw⟩; subst w')
        | (go_at_call 101; refine hst.mono ?_; rintro e w' ⟨rfl, hw⟩; subst w'))
      go_ret
      exact ⟨rfl, rmoved_same HR.out⟩
    · have hst := rstep_live w F r R M h hl (by omega)
      have e : R.store a v = (0, R.put a v) := by unfold Rf.store; rw [if_pos hb, if_neg hl]
      rw [e]
      obtain ⟨i, hi⟩ : ∃ i : Nat, i = (a / 64).toNat := ⟨_, rfl⟩
      obtain ⟨k, hk⟩ : ∃ k : Nat, (k : Int) = a / 8 % 8 := ⟨(a / 8 % 8).toNat, by omega⟩
      obtain ⟨t, ht⟩ : ∃ t : Nat, (t : Int) = a / 8 := ⟨(a / 8).toNat, by omega⟩
      have hin : i < R.n := by omega
      have hq1 : a.tdiv 64 = (i : Int) := by rw [Int.tdiv_eq_ediv_of_nonneg b1]; omega
      have hq2 : a.tdiv 8 = (t : Int) := by rw [Int.tdiv_eq_ediv_of_nonneg b1]; omega
      have hq3 : (t : Int).tmod 8 = (k : Int) := by rw [Int.tmod_eq_emod_of_nonneg (by omega)]; omega
      have hw1 : IntKind.i64.wrap (i : Int) = (i : Int) := wrap_id (by omega) (by have := h.nn; omega)
      have hw2 : IntKind.i64.wrap (t : Int) = (t : Int) := wrap_id (by omega) (by have := h.nn; omega)
      have hz : (R.now + 1 == 0) = false := by simp; omega
      have HI := Hid.mk' (show i = (a / 64).toNat ∧ (k : Int) = a / 8 % 8 ∧ ((R.puts i).length : Int) ≤ R.now ∧ i < R.n from ⟨hi, hk, h.plen i hin, hin⟩)
      have hlenb : ((R.puts i).length : Int) ≤ 1000000000 := by have := h.plen i hin; omega
      have hi0 : (0 : Int) ≤ (i : Int) := by omega
      have hi1 : (i : Int) < (R.n : Int) := by omega
      obtain ⟨i0, hi', hz0, hz1, hz2⟩ := info_parts info140
      clear h hl e hb b1 b2 b3 hi hk ht hin
      go_enter Try.func80, Try.ntmps80
      go_wp2_with (first
        | (go_at_call 98; refine hwr.mono ?_; rintro e w' ⟨rfl, hw⟩; subst w')
        | (go_at_call 101; refine hst.mono ?_; rintro e w1 ⟨rfl, hx1, hx2, hx3⟩
           obtain ⟨c0', c1, c2, c3, c4⟩ := hx1.cells
           have c0 : w1.cell? ⟨r, 0, none⟩ = some (.slice (some ⟨M.lb, 0, none⟩) R.n R.n) := c0'
           have cp : w1.cell? ⟨M.lb, i * 10 + 8, none⟩ = some (M.ps i) := hx1.pcl i HI.out.2.2.2
           obtain ⟨arr, harr⟩ := hx1.lns
           have hfz : w1.frozen? ⟨M.lb, i * 10 + 8, none⟩ = false := by simp [World.frozen?, harr]
           have hrow1 : w1.ownsRow 0 140 3 (M.ps i) (R.puts i).length (putCells (R.puts i)) := hx1.prow i HI.out.2.2.2
           have H1 := Hid.mk' hx1
           have H2 := Hid.mk' (show Keeps F w w1 ∧ w1.heap.size = w.heap.size ∧ w1.heap[M.lb]? = some (.cells arr 136 (0, 0)) from ⟨hx2, hx3, harr⟩)
           clear hx1 hx2 hx3 hst c0' c1 c2 c3 c4 harr)
        | (at_builtin; go_must (refine wpList_append_lies _ rfl _ _ 134 rfl 0 140 i0 (.agg #[.int .i64 0, .int .u64 0, .int .i64 0]) 3 24 Try.underlying134 hi' hz0 hz1 hz2 rfl (by decide) (M.ps i) (R.puts i).length (putCells (R.puts i)) rfl (hrow1.alloc _) ⟨w1.heap.size, 0, none⟩ 1 1 [.int .i64 k, .int .u64 v, .int .i64 (R.now + 1)] rfl rfl (news3 w1 _ _ _ 140 _ rfl) (by simp [Value.oneCell']) (by decide) (by unfold maxLen; omega) (by omega) (Nat.zero_le _) (w1.heap.size + 1) (by simp) ?_); intro g' gc' w2 hown2 hgrow2 hloc2 hlt2
           have hlb2 : w2.heap[M.lb]? = some (.cells arr 136 (0, 0)) := (hgrow2.block _ (by have := heap_lt H2.out.2.2; simp; omega) (fun e => row_apart hrow1 e.symm H2.out.2.2 (by decide) rfl)).trans ((Below.heap_alloc _ _ _ (heap_lt H2.out.2.2)).trans H2.out.2.2)
           have hfz2 : w2.frozen? ⟨M.lb, i * 10 + 8, none⟩ = false := by simp [World.frozen?, hlb2]
           have hcp2 : w2.cell? ⟨M.lb, i * 10 + 8, none⟩ = some (M.ps i) := by
             have := cp
             simp only [World.cell?, H2.out.2.2, hlb2] at this ⊢
             exact this
           have HLB2 := Hid.mk' hlb2
           clear hlb2))
      go_ret
      have hk2 : Keeps (fun k => k = M.lb ∨ (M.ps i).ownBlock = some k) w1 (w2.setCell ⟨M.lb, i * 10 + 8, none⟩ (.slice (some ⟨g', 0, none⟩) ((R.puts i).length + 1) gc')) :=
        ((Keeps.of (World.grownBy_alloc w1 _ none) (by simp)).step hgrow2 (fun k hk => Or.inl (Or.inr hk))).step (grownBy_setCell w2 ⟨M.lb, _, none⟩ _) (by rintro k e; cases e; exact Or.inl (Or.inl rfl))
      have hr := RefAt.putted (p := ((k : Int), v, R.now + 1)) H1.out HI.out.2.2.2 hk2 ⟨_, setCell_block (a := ⟨M.lb, i * 10 + 8, none⟩) HLB2.out rfl⟩ (fun o ho => by
          rw [setCell_other HLB2.out ho]
          simp only [World.cell?, H2.out.2.2, HLB2.out]) (setCell_same HLB2.out hcp2)
        (by rw [putCells_snoc]; exact hown2.kept (grownBy_setCell w2 ⟨M.lb, _, none⟩ _) (Or.inr (by simpa [Value.ownBlock] using row_apart hown2 rfl HLB2.out (by decide))))
        (by rcases hloc2 with h1 | h1
            · exact Or.inl h1
            · exact Or.inr (by omega)) hv (by have := HI.out.2.2.1; show ((R.puts i).length : Int) + 1 ≤ R.now + 1; omega)
      have e1 : R.put a v = { R.tick with puts := fun j => if j = i then R.tick.puts i ++ [((k : Int), v, R.now + 1)] else R.tick.puts j } := by
        simp only [Rf.put, Rf.tick, Rf.mk.injEq, true_and, and_true]
        rw [← HI.out.1, ← HI.out.2.1]
        funext j
        by_cases hj : j = i
        · rw [if_pos hj, if_pos hj, hj]
        · rw [if_neg hj, if_neg hj]
      refine ⟨rfl, ?_⟩
      rw [e1]
      refine ⟨_, _, hr, ?_, ?_⟩
      · have hF : Keeps F w1 _ := hk2.mono (fun k _ h => by
          rcases h with rfl | h
          · exact H1.out.fl
          · exact H1.out.fps i k HI.out.2.2.2 h)
        exact H2.out.1.trans hF
      · rintro j (hj | rfl)
        · exact Or.inl hj
        · rcases hloc2 with h1 | h1
          · exact Or.inl (H1.out.fps i _ HI.out.2.2.2 h1)
          · have := H2.out.2.1; exact Or.inr (by omega)
  · have e : R.store a v = (badWord (64 * R.n) a, R) := by unfold Rf.store; rw [if_neg hb]
    have hb2 : (badWord (64 * R.n) a == 0) = false := by simp [hb]
    rw [e]
    generalize badWord (64 * R.n) a = bw at *
    clear h e hb
    go_enter Try.func80, Try.ntmps80
    go_wp2_with (first
      | (go_at_call 98; refine hwr.mono ?_; rintro e w' ⟨rfl, hw⟩; subst w'))
    go_ret
    exact ⟨rfl, rmoved_same HR.out⟩

set_option maxHeartbeats 1000000 in
set_option maxRecDepth 20000 in
theorem rflush_any (w : World) (F : Nat → Prop) (r : Nat) (R : Rf) (M : RLay) (a : Int) (h : RefAt w F r R M) (hn : R.now ≤ 1000000000) :
    Calls Try.prog 82 #[.pointer (some ⟨r, 0, none⟩), .int .i64 a] w fun e w' => e = .returned (.int .i64 (R.flush a).1) ∧ RMoved F r w w' (R.flush a).2 := by
  have HR := Hid.mk' h
  have hsz := rsize_any w F r R M h
  have hnow := h.now0
  by_cases hb : 0 ≤ a ∧ a < 64 * (R.n : Int)
  · obtain ⟨b1, b2⟩ := hb
    by_cases hl : R.left = 0
    · have hst := rstep_dead w F r R M h hl
      have e : R.flush a = (13, R) := by unfold Rf.flush; rw [if_pos ⟨b1, b2⟩, if_pos hl]
      rw [e]
      clear h hl e
      go_enter Try.func82, Try.ntmps82
      go_wp2_with (first
        | (go_at_call 76; refine hsz.mono ?_; rintro e w' ⟨rfl, hw⟩; subst w')
        | (go_at_call 101; refine hst.mono ?_; rintro e w' ⟨rfl, hw⟩; subst w'))
      go_ret
      exact ⟨rfl, rmoved_same HR.out⟩
    · have hst := rstep_live w F r R M h hl (by omega)
      have e : R.flush a = (0, R.fl a) := by unfold Rf.flush; rw [if_pos ⟨b1, b2⟩, if_neg hl]
      rw [e]
      obtain ⟨i, hi⟩ : ∃ i : Nat, i = (a / 64).toNat := ⟨_, rfl⟩
      have hin : i < R.n := by omega
      have hq1 : a.tdiv 64 = (i : Int) := by rw [Int.tdiv_eq_ediv_of_nonneg b1]; omega
      have hw1 : IntKind.i64.wrap (i : Int) = (i : Int) := wrap_id (by omega) (by have := h.nn; omega)
      have hz : (R.now + 1 == 0) = false := by simp; omega
      have HI := Hid.mk' (show i = (a / 64).toNat ∧ ((R.fls i).length : Int) ≤ R.now ∧ i < R.n from ⟨hi, h.flen i hin, hin⟩)
      have hlenb : ((R.fls i).length : Int) ≤ 1000000000 := by have := h.flen i hin; omega
      have hi0 : (0 : Int) ≤ (i : Int) := by omega
      have hi1 : (i : Int) < (R.n : Int) := by omega
      obtain ⟨i0, hi', hz0, hz1, hz2⟩ := info_parts info3
      clear h hl e hi hin
      go_enter Try.func82, Try.ntmps82
      go_wp2_with (first
        | (go_at_call 76; refine hsz.mono ?_; rintro e w' ⟨rfl, hw⟩; subst w')
        | (go_at_call 101; refine hst.mono ?_; rintro e w1 ⟨rfl, hx1, hx2, hx3⟩
           obtain ⟨c0', c1, c2, c3, c4⟩ := hx1.cells
           have c0 : w1.cell? ⟨r, 0, none⟩ = some (.slice (some ⟨M.lb, 0, none⟩) R.n R.n) := c0'
           have cp : w1.cell? ⟨M.lb, i * 10 + 9, none⟩ = some (M.fs i) := hx1.fcl i HI.out.2.2
           obtain ⟨arr, harr⟩ := hx1.lns
           have hfz : w1.frozen? ⟨M.lb, i * 10 + 9, none⟩ = false := by simp [World.frozen?, harr]
           have hrow1 : w1.ownsRow 0 3 1 (M.fs i) (R.fls i).length (i64s (R.fls i)) := hx1.frow i HI.out.2.2
           have H1 := Hid.mk' hx1
           have H2 := Hid.mk' (show Keeps F w w1 ∧ w1.heap.size = w.heap.size ∧ w1.heap[M.lb]? = some (.cells arr 136 (0, 0)) from ⟨hx2, hx3, harr⟩)
           clear hx1 hx2 hx3 hst c0' c1 c2 c3 c4 harr)
        | (at_builtin; go_must (refine wpList_append_lies _ rfl _ _ 43 rfl 0 3 i0 (.int .i64 0) 1 8 Try.underlying43 hi' hz0 hz1 hz2 rfl (by decide) (M.fs i) (R.fls i).length (i64s (R.fls i)) rfl (hrow1.alloc _) ⟨w1.heap.size, 0, none⟩ 1 1 [.int .i64 (R.now + 1)] rfl rfl (cell_one_new _ _ _) (by simp [Value.oneCell']) (by decide) (by unfold maxLen; omega) (by omega) (Nat.zero_le _) (w1.heap.size + 1) (by simp) ?_); intro g' gc' w2 hown2 hgrow2 hloc2 hlt2
           have hlb2 : w2.heap[M.lb]? = some (.cells arr 136 (0, 0)) := (hgrow2.block _ (by have := heap_lt H2.out.2.2; simp; omega) (fun e => row_apart hrow1 e.symm H2.out.2.2 (by decide) rfl)).trans ((Below.heap_alloc _ _ _ (heap_lt H2.out.2.2)).trans H2.out.2.2)
           have hfz2 : w2.frozen? ⟨M.lb, i * 10 + 9, none⟩ = false := by simp [World.frozen?, hlb2]
           have hcp2 : w2.cell? ⟨M.lb, i * 10 + 9, none⟩ = some (M.fs i) := by
             have := cp
             simp only [World.cell?, H2.out.2.2, hlb2] at this ⊢
             exact this
           have HLB2 := Hid.mk' hlb2
           clear hlb2))
      go_ret
      have hk2 : Keeps (fun k => k = M.lb ∨ (M.fs i).ownBlock = some k) w1 (w2.setCell ⟨M.lb, i * 10 + 9, none⟩ (.slice (some ⟨g', 0, none⟩) ((R.fls i).length + 1) gc')) :=
        ((Keeps.of (World.grownBy_alloc w1 _ none) (by simp)).step hgrow2 (fun k hk => Or.inl (Or.inr hk))).step (grownBy_setCell w2 ⟨M.lb, _, none⟩ _) (by rintro k e; cases e; exact Or.inl (Or.inl rfl))
      have hr := RefAt.flushed (p := R.now + 1) H1.out HI.out.2.2 hk2 ⟨_, setCell_block (a := ⟨M.lb, i * 10 + 9, none⟩) HLB2.out rfl⟩ (fun o ho => by
          rw [setCell_other HLB2.out ho]
          simp only [World.cell?, H2.out.2.2, HLB2.out]) (setCell_same HLB2.out hcp2)
        (by
          have e3 : i64s (R.tick.fls i ++ [R.now + 1]) = i64s (R.fls i) ++ [.int .i64 (R.now + 1)] := by simp [i64s, Rf.tick]
          rw [e3]; exact hown2.kept (grownBy_setCell w2 ⟨M.lb, _, none⟩ _) (Or.inr (by simpa [Value.ownBlock] using row_apart hown2 rfl HLB2.out (by decide))))
        (by rcases hloc2 with h1 | h1
            · exact Or.inl h1
            · exact Or.inr (by omega)) (by have := HI.out.2.1; show ((R.fls i).length : Int) + 1 ≤ R.now + 1; omega)
      have e1 : R.fl a = { R.tick with fls := fun j => if j = i then R.tick.fls i ++ [R.now + 1] else R.tick.fls j } := by
        simp only [Rf.fl, Rf.tick, Rf.mk.injEq, true_and, and_true]
        rw [← HI.out.1]
        funext j
        by_cases hj : j = i
        · rw [if_pos hj, if_pos hj, hj]
        · rw [if_neg hj, if_neg hj]
      refine ⟨rfl, ?_⟩
      rw [e1]
      refine ⟨_, _, hr, ?_, ?_⟩
      · have hF : Keeps F w1 _ := hk2.mono (fun k _ h => by
          rcases h with rfl | h
          · exact H1.out.fl
          · exact H1.out.ffs i k HI.out.2.2 h)
        exact H2.out.1.trans hF
      · rintro j (hj | rfl)
        · exact Or.inl hj
        · rcases hloc2 with h1 | h1
          · exact Or.inl (H1.out.ffs i _ HI.out.2.2 h1)
          · have := H2.out.2.1; exact Or.inr (by omega)
  · have e : R.flush a = (11, R) := by unfold Rf.flush; rw [if_neg hb]
    have hbb : a < 0 ∨ (¬ a < 0 ∧ 64 * (R.n : Int) ≤ a) := by omega
    rw [e]
    clear h e hb
    rcases hbb with b1 | ⟨b1, b2⟩
    all_goals
      go_enter Try.func82, Try.ntmps82
      go_wp2_with (first
        | (go_at_call 76; refine hsz.mono ?_; rintro e w' ⟨rfl, hw⟩; subst w'))
      go_ret
      exact ⟨rfl, rmoved_same HR.out⟩

end Go.Proofs.Ytfiekdgpdboolab
