import Derived.Test.YtfiekdgpdboolabP2
namespace Go.Proofs.Ytfiekdgpdboolab
open Go.RowKit Go.Maps

/-- The document's device: its lines' first words, stores and flushes with their times; the last fence's time, the time now, the steps that are left. -/
structure Rf where
  n : Nat
  first : Nat → Nat → Int
  puts : Nat → List Note3
  fls : Nat → List Int
  fenced : Int
  now : Int
  left : Int

/-- Where its parts lie. -/
structure RLay where
  lb : Nat
  ps : Nat → Value
  fs : Nat → Value

def putCells (l : List Note3) : List Value := l.flatMap fun p => [.int .i64 p.1, .int .u64 p.2.1, .int .i64 p.2.2]

theorem putCells_snoc (l : List Note3) (p : Note3) : putCells (l ++ [p]) = putCells l ++ [.int .i64 p.1, .int .u64 p.2.1, .int .i64 p.2.2] := by simp [putCells]

def refCells (lb n : Nat) (fenced now left : Int) : Obj := .cells #[.slice (some ⟨lb, 0, none⟩) n n, .int .i64 fenced, .int .i64 now, .int .i64 left] 122

structure RefAt (w : World) (F : Nat → Prop) (r : Nat) (R : Rf) (M : RLay) : Prop where
  dev : w.heap[r]? = some (refCells M.lb R.n R.fenced R.now R.left)
  lns : ∃ arr, w.heap[M.lb]? = some (.cells arr 136 (0, 0))
  fst : ∀ i, i < R.n → ∀ k, k < 8 → w.cell? ⟨M.lb, i * 10 + k, none⟩ = some (.int .u64 (R.first i k))
  pcl : ∀ i, i < R.n → w.cell? ⟨M.lb, i * 10 + 8, none⟩ = some (M.ps i)
  fcl : ∀ i, i < R.n → w.cell? ⟨M.lb, i * 10 + 9, none⟩ = some (M.fs i)
  prow : ∀ i, i < R.n → w.ownsRow 0 140 3 (M.ps i) (R.puts i).length (putCells (R.puts i))
  frow : ∀ i, i < R.n → w.ownsRow 0 3 1 (M.fs i) (R.fls i).length (i64s (R.fls i))
  pinj : ∀ i j g, i < R.n → j < R.n → (M.ps i).ownBlock = some g → (M.ps j).ownBlock = some g → i = j
  finj : ∀ i j g, i < R.n → j < R.n → (M.fs i).ownBlock = some g → (M.fs j).ownBlock = some g → i = j
  fvals : ∀ i k, i < R.n → k < 8 → 0 ≤ R.first i k ∧ R.first i k < 18446744073709551616
  pvals : ∀ i, i < R.n → ∀ p ∈ R.puts i, 0 ≤ p.2.1 ∧ p.2.1 < 18446744073709551616
  plen : ∀ i, i < R.n → ((R.puts i).length : Int) ≤ R.now
  flen : ∀ i, i < R.n → ((R.fls i).length : Int) ≤ R.now
  now0 : 0 ≤ R.now
  fen : 0 ≤ R.fenced ∧ R.fenced ≤ R.now
  left0 : -1 ≤ R.left ∧ R.left ≤ 9223372036854775807
  nn : R.n ≤ 8192
  fr : F r
  fl : F M.lb
  fps : ∀ i g, i < R.n → (M.ps i).ownBlock = some g → F g
  ffs : ∀ i g, i < R.n → (M.fs i).ownBlock = some g → F g
  fsz : ∀ k, F k → k < w.heap.size

theorem row_apart {w : World} {b e s n g p : Nat} {v : Value} {xs : List Value} {c : Array Value} {t : TypeId} {f : Nat × Nat} (hrow : w.ownsRow b e s v n xs) (hg : v.ownBlock = some g) (hp : w.heap[p]? = some (.cells c t f)) (ht : t ≠ e) : g ≠ p := by
  rintro rfl
  rcases hrow.2 with ⟨e1, _⟩ | ⟨g', cp, cur, e1, _, hgg, _⟩
  · rw [e1] at hg; simp [Value.ownBlock] at hg
  · rw [e1] at hg; simp [Value.ownBlock] at hg; subst hg
    rw [hp] at hgg; simp at hgg; exact ht hgg.2.1

theorem rows_apart {w : World} {b e s n g b' e' s' n' : Nat} {v v' : Value} {xs xs' : List Value} (hrow : w.ownsRow b e s v n xs) (hg : v.ownBlock = some g) (hrow' : w.ownsRow b' e' s' v' n' xs') (hg' : v'.ownBlock = some g) (ht : e' ≠ e) : False := by
  rcases hrow'.2 with ⟨e1, _⟩ | ⟨g', cp, cur, e1, _, hgg, _⟩
  · rw [e1] at hg'; simp [Value.ownBlock] at hg'
  · rw [e1] at hg'; simp [Value.ownBlock] at hg'; subst hg'
    exact row_apart hrow hg hgg ht rfl

section
variable {w : World} {F : Nat → Prop} {r : Nat} {R : Rf} {M : RLay}

theorem RefAt.kept {w' : World} {X : Nat → Prop} (h : RefAt w F r R M) (k : Keeps X w w') (hX : ∀ i, F i → ¬ X i) : RefAt w' F r R M := {
  dev := (k.block r (heap_lt h.dev) (hX _ h.fr)).trans h.dev
  lns := by obtain ⟨arr, ha⟩ := h.lns; exact ⟨arr, (k.block _ (heap_lt ha) (hX _ h.fl)).trans ha⟩
  fst i hi j hj := k.cell (h.fst i hi j hj) (hX _ h.fl)
  pcl i hi := k.cell (h.pcl i hi) (hX _ h.fl)
  fcl i hi := k.cell (h.fcl i hi) (hX _ h.fl)
  prow i hi := k.row (h.prow i hi) (fun g hg => hX _ (h.fps i g hi hg))
  frow i hi := k.row (h.frow i hi) (fun g hg => hX _ (h.ffs i g hi hg))
  pinj := h.pinj
  finj := h.finj
  fvals := h.fvals
  pvals := h.pvals
  plen := h.plen
  flen := h.flen
  now0 := h.now0
  fen := h.fen
  left0 := h.left0
  nn := h.nn
  fr := h.fr
  fl := h.fl
  fps := h.fps
  ffs := h.ffs
  fsz i hi := Nat.lt_of_lt_of_le (h.fsz i hi) k.size }

theorem RefAt.cells (h : RefAt w F r R M) : w.cell? ⟨r, 0, none⟩ = some (.slice (some ⟨M.lb, 0, none⟩) R.n R.n) ∧ w.cell? ⟨r, 1, none⟩ = some (.int .i64 R.fenced) ∧ w.cell? ⟨r, 2, none⟩ = some (.int .i64 R.now) ∧ w.cell? ⟨r, 3, none⟩ = some (.int .i64 R.left) ∧ ∀ o, w.frozen? ⟨r, o, none⟩ = false := by
  have := h.dev
  simp [World.cell?, World.frozen?, this, refCells]

theorem RefAt.r_ne_lb (h : RefAt w F r R M) : M.lb ≠ r := by
  intro e; obtain ⟨arr, ha⟩ := h.lns; rw [e, h.dev] at ha; simp [refCells] at ha

/-- The device's own block has turned. -/
theorem RefAt.redev {w' : World} (h : RefAt w F r R M) (fe nw lf : Int) (hd : w'.heap[r]? = some (refCells M.lb R.n fe nw lf)) (hg : w.grownBy w' (some r)) (hn : R.now ≤ nw) (hf : 0 ≤ fe ∧ fe ≤ nw) (hl : -1 ≤ lf ∧ lf ≤ 9223372036854775807) :
    RefAt w' F r { R with fenced := fe, now := nw, left := lf } M := {
  dev := hd
  lns := by obtain ⟨arr, ha⟩ := h.lns; exact ⟨arr, (hg.block _ (heap_lt ha) (by simpa using h.r_ne_lb)).trans ha⟩
  fst i hi j hj := (Keeps.of (X := fun k => k = r) hg (by rintro k e; cases e; exact Or.inl rfl)).cell (h.fst i hi j hj) h.r_ne_lb
  pcl i hi := (Keeps.of (X := fun k => k = r) hg (by rintro k e; cases e; exact Or.inl rfl)).cell (h.pcl i hi) h.r_ne_lb
  fcl i hi := (Keeps.of (X := fun k => k = r) hg (by rintro k e; cases e; exact Or.inl rfl)).cell (h.fcl i hi) h.r_ne_lb
  prow i hi := (Keeps.of (X := fun k => k = r) hg (by rintro k e; cases e; exact Or.inl rfl)).row (h.prow i hi) (fun g hg' => row_apart (h.prow i hi) hg' h.dev (by decide))
  frow i hi := (Keeps.of (X := fun k => k = r) hg (by rintro k e; cases e; exact Or.inl rfl)).row (h.frow i hi) (fun g hg' => row_apart (h.frow i hi) hg' h.dev (by decide))
  pinj := h.pinj
  finj := h.finj
  fvals := h.fvals
  pvals := h.pvals
  plen i hi := by have := h.plen i hi; simp only; omega
  flen i hi := by have := h.flen i hi; simp only; omega
  now0 := by have := h.now0; simp only; omega
  fen := hf
  left0 := hl
  nn := h.nn
  fr := h.fr
  fl := h.fl
  fps := h.fps
  ffs := h.ffs
  fsz i hi := Nat.lt_of_lt_of_le (h.fsz i hi) hg.size }
end

/-- A step is counted. -/
def Rf.tick (R : Rf) : Rf := { R with now := R.now + 1, left := if 0 < R.left then R.left - 1 else R.left }

set_option maxHeartbeats 400000 in
theorem rsize_any (w : World) (F : Nat → Prop) (r : Nat) (R : Rf) (M : RLay) (h : RefAt w F r R M) :
    Calls Try.prog 76 #[.pointer (some ⟨r, 0, none⟩)] w fun e w' => e = .returned (.int .i64 (64 * (R.n : Int))) ∧ w' = w := by
  obtain ⟨c0, c1, c2, c3, c4⟩ := h.cells
  have hn := h.nn
  clear h
  go_enter Try.func76, Try.ntmps76
  go_wp2
  go_ret
  exact ⟨rfl, rfl⟩

set_option maxHeartbeats 400000 in
theorem rsteps_any (w : World) (F : Nat → Prop) (r : Nat) (R : Rf) (M : RLay) (h : RefAt w F r R M) :
    Calls Try.prog 86 #[.pointer (some ⟨r, 0, none⟩)] w fun e w' => e = .returned (.int .i64 R.now) ∧ w' = w := by
  obtain ⟨c0, c1, c2, c3, c4⟩ := h.cells
  clear h
  go_enter Try.func86, Try.ntmps86
  go_wp2
  go_ret
  exact ⟨rfl, rfl⟩

set_option maxHeartbeats 400000 in
theorem rdead_any (w : World) (F : Nat → Prop) (r : Nat) (R : Rf) (M : RLay) (h : RefAt w F r R M) :
    Calls Try.prog 87 #[.pointer (some ⟨r, 0, none⟩)] w fun e w' => e = .returned (.bool (R.left == 0)) ∧ w' = w := by
  obtain ⟨c0, c1, c2, c3, c4⟩ := h.cells
  clear h
  go_enter Try.func87, Try.ntmps87
  go_wp2
  go_ret
  exact ⟨rfl, rfl⟩

set_option maxHeartbeats 400000 in
theorem rstep_dead (w : World) (F : Nat → Prop) (r : Nat) (R : Rf) (M : RLay) (h : RefAt w F r R M) (hl : R.left = 0) :
    Calls Try.prog 101 #[.pointer (some ⟨r, 0, none⟩)] w fun e w' => e = .returned (.int .i64 0) ∧ w' = w := by
  obtain ⟨c0, c1, c2, c3, c4⟩ := h.cells
  rw [hl] at c3
  clear h
  go_enter Try.func101, Try.ntmps101
  go_wp2
  go_ret
  exact ⟨rfl, rfl⟩

set_option maxHeartbeats 400000 in
theorem rstep_live (w : World) (F : Nat → Prop) (r : Nat) (R : Rf) (M : RLay) (h : RefAt w F r R M) (hl : R.left ≠ 0) (hn : R.now ≤ 1000000000000) :
    Calls Try.prog 101 #[.pointer (some ⟨r, 0, none⟩)] w fun e w' => e = .returned (.int .i64 (R.now + 1)) ∧ RefAt w' F r R.tick M ∧ Keeps F w w' ∧ w'.heap.size = w.heap.size := by
  obtain ⟨c0, c1, c2, c3, c4⟩ := h.cells
  have hf := c4 2
  have hf3 := c4 3
  have hlb : (R.left == 0) = false := by simp [hl]
  have hl1 := h.left0
  have hn0 := h.now0
  have HR := Hid.mk' h
  have HL := Hid.mk' hl
  clear h hl c0 c1 c4
  by_cases hp : 0 < R.left
  · have hp2 : -9223372036854775808 ≤ R.left - 1 := by omega
    have hp3 : R.left - 1 ≤ 9223372036854775807 := by omega
    obtain ⟨l1, l2⟩ := hl1
    go_enter Try.func101, Try.ntmps101
    go_wp2
    go_ret
    have g1 := grownBy_setCell w ⟨r, 3, none⟩ (.int .i64 (R.left - 1))
    have g2 := grownBy_setCell (w.setCell ⟨r, 3, none⟩ (.int .i64 (R.left - 1))) ⟨r, 2, none⟩ (.int .i64 (R.now + 1))
    have g := grownBy_trans g1 g2
    have b1 := setCell_block (a := ⟨r, 3, none⟩) (v := .int .i64 (R.left - 1)) HR.out.dev rfl
    have b2 := setCell_block (a := ⟨r, 2, none⟩) (v := .int .i64 (R.now + 1)) b1 rfl
    refine ⟨rfl, ?_, Keeps.of g (by rintro k e; cases e; exact Or.inl HR.out.fr), by simp [World.setCell]⟩
    have := HR.out.redev R.fenced (R.now + 1) (R.left - 1) (by simpa [refCells] using b2) g (by omega) (by have := HR.out.fen; omega) (by omega)
    unfold Rf.tick
    rw [if_pos hp]
    exact this
  · obtain ⟨l1, l2⟩ := hl1
    go_enter Try.func101, Try.ntmps101
    go_wp2
    go_ret
    have g := grownBy_setCell w ⟨r, 2, none⟩ (.int .i64 (R.now + 1))
    have b2 := setCell_block (a := ⟨r, 2, none⟩) (v := .int .i64 (R.now + 1)) HR.out.dev rfl
    refine ⟨rfl, ?_, Keeps.of g (by rintro k e; cases e; exact Or.inl HR.out.fr), by simp [World.setCell]⟩
    have := HR.out.redev R.fenced (R.now + 1) R.left (by simpa [refCells] using b2) g (by omega) (by have := HR.out.fen; omega) (by omega)
    unfold Rf.tick
    rw [if_neg (show ¬ 0 < R.left by omega)]
    exact this

/-- What a call has made of the document's device. -/
def RMoved (F : Nat → Prop) (r : Nat) (w w' : World) (T : Rf) : Prop := ∃ F' M', RefAt w' F' r T M' ∧ Keeps F w w' ∧ Fresh F F' w

theorem rmoved_next {F F1 : Nat → Prop} {d : Nat} {w w1 w2 : World} {T : Rf} (hk : Keeps F w w1) (hf : Fresh F F1 w) (h : RMoved F1 d w1 w2 T) : RMoved F d w w2 T := by
  obtain ⟨F', L', h1, h2, h3⟩ := h
  refine ⟨F', L', h1, ?_, ?_⟩
  · have a : Keeps (fun k => F k ∨ w.heap.size ≤ k) w w1 := hk.mono fun k _ h => Or.inl h
    have b : Keeps (fun k => F k ∨ w.heap.size ≤ k) w1 w2 := h2.mono fun k _ h => hf k h
    exact (a.trans b).mono fun k hk h => h.resolve_right (by omega)
  · intro k hk'
    rcases h3 k hk' with h | h
    · exact hf k h
    · exact Or.inr (Nat.le_trans hk.size h)

theorem rmoved_same {F : Nat → Prop} {r : Nat} {w : World} {R : Rf} {M : RLay} (h : RefAt w F r R M) : RMoved F r w w R := ⟨F, M, h, Keeps.refl _ _, fun _ hk => Or.inl hk⟩

/-- What a Fence, an Arm leaves; the answers. -/
def Rf.fence (R : Rf) : Int × Rf := if R.left = 0 then (13, R) else (0, { R.tick with fenced := R.now + 1 })
def Rf.arm (R : Rf) (l : Int) : Int × Rf := if l < 0 then (14, R) else if R.left = 0 then (13, R) else (0, { R with left := l })

set_option maxHeartbeats 400000 in
theorem rfence_any (w : World) (F : Nat → Prop) (r : Nat) (R : Rf) (M : RLay) (h : RefAt w F r R M) (hn : R.now ≤ 1000000000000) :
    Calls Try.prog 84 #[.pointer (some ⟨r, 0, none⟩)] w fun e w' => e = .returned (.int .i64 R.fence.1) ∧ RMoved F r w w' R.fence.2 := by
  have HR := Hid.mk' h
  have hn0 := h.now0
  by_cases hl : R.left = 0
  · have hst := rstep_dead w F r R M h hl
    have e : R.fence = (13, R) := if_pos hl
    rw [e]
    clear h hl e
    go_enter Try.func84, Try.ntmps84
    go_wp2_with (first | (go_at_call 101; refine hst.mono ?_; rintro e w' ⟨rfl, hw⟩; subst w'))
    go_ret
    exact ⟨rfl, rmoved_same HR.out⟩
  · have hst := rstep_live w F r R M h hl hn
    have e : R.fence = (0, { R.tick with fenced := R.now + 1 }) := if_neg hl
    rw [e]
    have hz : (R.now + 1 == 0) = false := by simp; omega
    clear h hl e
    go_enter Try.func84, Try.ntmps84
    go_wp2_with (first | (go_at_call 101; refine hst.mono ?_; rintro e w1 ⟨rfl, hx1, hx2, hx3⟩
                          obtain ⟨c0, c1, c2, c3, c4⟩ := hx1.cells
                          have hf := c4 1
                          have H1 := Hid.mk' hx1
                          have H2 := Hid.mk' hx2
                          clear hx1 hx2 c0 c2 c3 c4 hst))
    go_ret
    have g := grownBy_setCell w1 ⟨r, 1, none⟩ (.int .i64 (R.now + 1))
    have b2 := setCell_block (a := ⟨r, 1, none⟩) (v := .int .i64 (R.now + 1)) H1.out.dev rfl
    have := H1.out.redev (R.now + 1) R.tick.now R.tick.left (by simpa [refCells, Rf.tick] using b2) g (by omega) (by simp only [Rf.tick]; omega) H1.out.left0
    exact ⟨rfl, F, M, this, H2.out.step g (by rintro k e; cases e; exact Or.inl HR.out.fr), fun k hk => Or.inl hk⟩

set_option maxHeartbeats 400000 in
theorem rarm_any (w : World) (F : Nat → Prop) (r : Nat) (R : Rf) (M : RLay) (l : Int) (h : RefAt w F r R M) (h0 : -9223372036854775808 ≤ l) (h1 : l ≤ 9223372036854775807) :
    Calls Try.prog 85 #[.pointer (some ⟨r, 0, none⟩), .int .i64 l] w fun e w' => e = .returned (.int .i64 (R.arm l).1) ∧ RMoved F r w w' (R.arm l).2 := by
  have HR := Hid.mk' h
  obtain ⟨c0, c1, c2, c3, c4⟩ := h.cells
  have hf := c4 3
  clear c4 c0 c1 c2
  by_cases hneg : l < 0
  · have e : R.arm l = (14, R) := if_pos hneg
    rw [e]
    clear h e
    go_enter Try.func85, Try.ntmps85
    go_wp2
    go_ret
    exact ⟨rfl, rmoved_same HR.out⟩
  · by_cases hl : R.left = 0
    · have e : R.arm l = (13, R) := by unfold Rf.arm; rw [if_neg hneg, if_pos hl]
      rw [e]
      rw [hl] at c3
      clear h e hl
      go_enter Try.func85, Try.ntmps85
      go_wp2
      go_ret
      exact ⟨rfl, rmoved_same HR.out⟩
    · have e : R.arm l = (0, { R with left := l }) := by unfold Rf.arm; rw [if_neg hneg, if_neg hl]
      rw [e]
      have hz : (R.left == 0) = false := by simp [hl]
      clear h e hl
      go_enter Try.func85, Try.ntmps85
      go_wp2
      go_ret
      have g := grownBy_setCell w ⟨r, 3, none⟩ (.int .i64 l)
      have b2 := setCell_block (a := ⟨r, 3, none⟩) (v := .int .i64 l) HR.out.dev rfl
      have := HR.out.redev R.fenced R.now l (by simpa [refCells] using b2) g (by omega) HR.out.fen (by omega)
      exact ⟨rfl, F, M, this, Keeps.of g (by rintro k e; cases e; exact Or.inl HR.out.fr), fun k hk => Or.inl hk⟩

set_option maxHeartbeats 400000 in
theorem rwrong_any (w : World) (F : Nat → Prop) (r : Nat) (R : Rf) (M : RLay) (a : Int) (h : RefAt w F r R M) :
    Calls Try.prog 98 #[.pointer (some ⟨r, 0, none⟩), .int .i64 a] w fun e w' => e = .returned (.int .i64 (badWord (64 * R.n) a)) ∧ w' = w := by
  have hsz := rsize_any w F r R M h
  have hn := h.nn
  clear h
  have e1 : ((64 * R.n : Nat) : Int) = 64 * (R.n : Int) := by omega
  unfold badWord
  rw [e1]
  by_cases h0 : a < 0
  · have hb : ¬ (0 ≤ a ∧ a < 64 * (R.n : Int)) := by omega
    rw [if_neg hb]
    clear hb
    go_enter Try.func98, Try.ntmps98
    go_wp2
    go_ret
    exact ⟨rfl, rfl⟩
  · by_cases h1 : 64 * (R.n : Int) ≤ a
    · have hb : ¬ (0 ≤ a ∧ a < 64 * (R.n : Int)) := by omega
      rw [if_neg hb]
      clear hb
      go_enter Try.func98, Try.ntmps98
      go_wp2_with (first | (go_at_call 76; refine hsz.mono ?_; rintro e w' ⟨rfl, hw⟩; subst w'))
      go_ret
      exact ⟨rfl, rfl⟩
    · have hb : 0 ≤ a ∧ a < 64 * (R.n : Int) := by omega
      rw [if_pos hb]
      have ht : a.tmod 8 = a % 8 := Int.tmod_eq_emod_of_nonneg (by omega)
      by_cases h8 : a % 8 = 0
      · rw [if_pos h8]
        have hz : (a % 8 == 0) = true := by simp [h8]
        clear hb
        go_enter Try.func98, Try.ntmps98
        go_wp2_with (first | (go_at_call 76; refine hsz.mono ?_; rintro e w' ⟨rfl, hw⟩; subst w'))
        go_ret
        exact ⟨rfl, rfl⟩
      · rw [if_neg h8]
        have hz : (a % 8 == 0) = false := by simp [h8]
        clear hb
        go_enter Try.func98, Try.ntmps98
        go_wp2_with (first | (go_at_call 76; refine hsz.mono ?_; rintro e w' ⟨rfl, hw⟩; subst w'))
        go_ret
        exact ⟨rfl, rfl⟩

/-- Do n bytes from a on lie within size bytes? -/
def insideB (size a n : Int) : Bool := decide (0 ≤ a) && decide (0 ≤ n) && decide (a ≤ size) && decide (n ≤ size - a)

set_option maxHeartbeats 400000 in
theorem rinside_any (w : World) (F : Nat → Prop) (r : Nat) (R : Rf) (M : RLay) (a n : Int) (h : RefAt w F r R M) :
    Calls Try.prog 100 #[.pointer (some ⟨r, 0, none⟩), .int .i64 a, .int .i64 n] w fun e w' => e = .returned (.bool (insideB (64 * (R.n : Int)) a n)) ∧ w' = w := by
  have hsz := rsize_any w F r R M h
  have hn := h.nn
  clear h
  unfold insideB
  by_cases h0 : 0 ≤ a
  · by_cases h1 : 0 ≤ n
    · by_cases h2 : a ≤ 64 * (R.n : Int)
      · go_enter Try.func100, Try.ntmps100
        go_wp2_with (first | (go_at_call 76; refine hsz.mono ?_; rintro e w' ⟨rfl, hw⟩; subst w'))
        go_ret
        exact ⟨ret_bool (by simp [*]), rfl⟩
      · go_enter Try.func100, Try.ntmps100
        go_wp2_with (first | (go_at_call 76; refine hsz.mono ?_; rintro e w' ⟨rfl, hw⟩; subst w'))
        go_ret
        exact ⟨ret_bool (by simp; omega), rfl⟩
    · go_enter Try.func100, Try.ntmps100
      go_wp2_with (first | (go_at_call 76; refine hsz.mono ?_; rintro e w' ⟨rfl, hw⟩; subst w'))
      go_ret
      exact ⟨ret_bool (by simp; omega), rfl⟩
  · go_enter Try.func100, Try.ntmps100
    go_wp2_with (first | (go_at_call 76; refine hsz.mono ?_; rintro e w' ⟨rfl, hw⟩; subst w'))
    go_ret
    exact ⟨ret_bool (by simp; omega), rfl⟩

end Go.Proofs.Ytfiekdgpdboolab
