import Derived.Test.YtfiekdgpdboolabV3
namespace Go.Proofs.Ytfiekdgpdboolab
open Go.RowKit Go.Maps

/-- The program's device at d and the document's at r, one to the other; H: all their blocks. -/
def PairOK (w : World) (H : Nat → Prop) (d r : Nat) (N : Int) : Prop :=
  ∃ F G S L R M, DevAt w F d S L ∧ RefAt w G r R M ∧ Rel S R ∧ (∀ k, F k → ¬ G k) ∧ (∀ k, H k ↔ F k ∨ G k) ∧ R.now ≤ N

/-- What a call has made of them. -/
def PairMoved (H : Nat → Prop) (d r : Nat) (N : Int) (w w' : World) : Prop := ∃ H', PairOK w' H' d r N ∧ Keeps H w w' ∧ Fresh H H' w

theorem PairOK.lt {w : World} {H : Nat → Prop} {d r : Nat} {N : Int} (h : PairOK w H d r N) {k : Nat} (hk : H k) : k < w.heap.size := by
  obtain ⟨F, G, S, L, R, M, h1, h2, _, _, h5, _⟩ := h
  rcases (h5 k).1 hk with h | h
  · exact h1.fsz k h
  · exact h2.fsz k h

theorem PairOK.kept {w w' : World} {H X : Nat → Prop} {d r : Nat} {N : Int} (h : PairOK w H d r N) (k : Keeps X w w') (hX : ∀ i, H i → ¬ X i) : PairOK w' H d r N := by
  obtain ⟨F, G, S, L, R, M, h1, h2, h3, h4, h5, h6⟩ := h
  exact ⟨F, G, S, L, R, M, h1.kept k (fun i hi => hX i ((h5 i).2 (Or.inl hi))), h2.kept k (fun i hi => hX i ((h5 i).2 (Or.inr hi))), h3, h4, h5, h6⟩

theorem PairOK.more {w : World} {H : Nat → Prop} {d r : Nat} {N N' : Int} (h : PairOK w H d r N) (hN : N ≤ N') : PairOK w H d r N' := by
  obtain ⟨F, G, S, L, R, M, h1, h2, h3, h4, h5, h6⟩ := h
  exact ⟨F, G, S, L, R, M, h1, h2, h3, h4, h5, by omega⟩

theorem pair_step {w w1 w2 w3 : World} {H F G : Nat → Prop} {d r : Nat} {N : Int} {R Q : Rf} {M : RLay} {T : St} (hk : Keeps (fun _ => False) w w1) (hr : RefAt w1 G r R M) (_hF : ∀ k, F k → k < w1.heap.size) (hap : ∀ k, F k → ¬ G k) (hH : ∀ k, H k ↔ F k ∨ G k)
    (hm : Moved F d w1 w2 T) (hq : RMoved G r w2 w3 Q) (hrel : Rel T Q) (hN : Q.now ≤ N) : PairMoved H d r N w w3 := by
  obtain ⟨F', L', a1, a2, a3⟩ := hm
  obtain ⟨G', M', b1, b2, b3⟩ := hq
  have hG := hr.fsz
  have hG2 := (hr.kept a2 (fun i hi hf => hap i hf hi)).fsz
  have hap' : ∀ k, F' k → ¬ G' k := fun k h1 h2 => by
    have h3 := a1.fsz k h1
    rcases b3 k h2 with h4 | h4
    · rcases a3 k h1 with h5 | h5
      · exact hap k h5 h4
      · have := hG k h4; omega
    · omega
  refine ⟨fun k => F' k ∨ G' k, ⟨F', G', T, L', Q, M', a1.kept b2 (fun i hi hg => ?_), b1, hrel, hap', fun k => Iff.rfl, hN⟩, ?_, ?_⟩
  · rcases a3 i hi with h5 | h5
    · exact hap i h5 hg
    · have := hG i hg; omega
  · have k1 : Keeps H w1 w2 := a2.mono fun k _ h => (hH k).2 (Or.inl h)
    have k2 : Keeps H w2 w3 := b2.mono fun k _ h => (hH k).2 (Or.inr h)
    exact (hk.mono (fun _ _ h => h.elim)).trans (k1.trans k2)
  · have hs := hk.size
    rintro k (h | h)
    · rcases a3 k h with h | h
      · exact Or.inl ((hH k).2 (Or.inl h))
      · exact Or.inr (by omega)
    · rcases b3 k h with h | h
      · exact Or.inl ((hH k).2 (Or.inr h))
      · have := a2.size; exact Or.inr (by omega)

theorem stores_now : ∀ (l : List Int) (R : Rf) (a : Int), (R.stores a l).2.now ≤ R.now + l.length
  | [], R, a => by simp [Rf.stores]
  | v :: l, R, a => by
    unfold Rf.stores
    split
    · simp; omega
    · have := stores_now l (R.put a v) (a + 8)
      simp only [Rf.put, Rf.tick, List.length_cons] at this ⊢
      omega
theorem flushes_now : ∀ (k : Nat) (R : Rf) (a : Int), (R.flushes a k).2.now ≤ R.now + k
  | 0, R, a => by simp [Rf.flushes]
  | k + 1, R, a => by
    unfold Rf.flushes
    split
    · simp; omega
    · have := flushes_now k (R.fl a) (a + 64)
      simp only [Rf.fl, Rf.tick] at this ⊢
      omega
theorem store_now (R : Rf) (a v : Int) : (R.store a v).2.now ≤ R.now + 1 := by
  unfold Rf.store
  split
  · split
    · show R.now ≤ _; omega
    · show R.now + 1 ≤ _; omega
  · show R.now ≤ _; omega
theorem flush_now (R : Rf) (a : Int) : (R.flush a).2.now ≤ R.now + 1 := by
  unfold Rf.flush
  split
  · split
    · show R.now ≤ _; omega
    · show R.now + 1 ≤ _; omega
  · show R.now ≤ _; omega
theorem fence_now (R : Rf) : R.fence.2.now ≤ R.now + 1 := by
  unfold Rf.fence
  split
  · show R.now ≤ _; omega
  · show R.now + 1 ≤ _; omega
theorem arm_now (R : Rf) (l : Int) : (R.arm l).2.now ≤ R.now := by
  unfold Rf.arm
  split
  · exact Int.le_refl _
  · split <;> exact Int.le_refl _
theorem flushAll_now (R : Rf) (a n : Int) (hn : R.n ≤ 8192) : (R.flushAll a n).2.now ≤ R.now + 8193 := by
  unfold Rf.flushAll
  split
  · rename_i hb
    simp [insideB] at hb
    split
    · show R.now ≤ _; omega
    · have := flushes_now ((a + n - 1) / 64 - a / 64 + 1).toNat R (64 * (a / 64))
      omega
  · show R.now ≤ _; omega

abbrev opCells (kind D a n v : Int) (pB pL : Option Addr) (lB lL cB cL : Nat) : Array Value := #[.int .i64 kind, .int .i64 D, .int .i64 a, .int .i64 n, .int .u64 v, .slice pB lB cB, .slice pL lL cL]

/-- The cells of an operation that was put into memory. -/
theorem op_cells {w wr : World} {H : Nat → Prop} {kind D a n v : Int} {pB pL : Option Addr} {lB lL cB cL : Nat} (k : Keeps H (w.alloc (.cells (opCells kind D a n v pB pL lB lL cB cL) 100)) wr) (hH : ∀ i, H i → i ≠ w.heap.size) :
    wr.cell? ⟨w.heap.size, 0, none⟩ = some (.int .i64 kind) ∧ wr.cell? ⟨w.heap.size, 1, none⟩ = some (.int .i64 D) ∧ wr.cell? ⟨w.heap.size, 2, none⟩ = some (.int .i64 a) ∧ wr.cell? ⟨w.heap.size, 3, none⟩ = some (.int .i64 n) ∧
    wr.cell? ⟨w.heap.size, 4, none⟩ = some (.int .u64 v) ∧ wr.cell? ⟨w.heap.size, 5, none⟩ = some (.slice pB lB cB) ∧ wr.cell? ⟨w.heap.size, 6, none⟩ = some (.slice pL lL cL) := by
  have hb := (MapKept.heap_alloc w (.cells (opCells kind D a n v pB pL lB lL cB cL) 100)).1
  have hb2 := (k.block _ (heap_lt hb) (fun h => hH _ h rfl)).trans hb
  simp [World.cell?, hb2, opCells]

set_option maxHeartbeats 4000000 in
set_option maxRecDepth 20000 in
/-- Store, Flush, FlushAll, Fence, Arm, Steps, Dead of both: one answer. -/
theorem steps_plain (w : World) (H : Nat → Prop) (d r : Nat) (N : Int) (kind D a n v : Int) (pB pL : Option Addr) (lB lL cB cL : Nat) (h : PairOK w H d r N) (hN : N ≤ 50000000) (hk : kind = 7 ∨ kind = 9 ∨ kind = 10 ∨ kind = 11 ∨ kind = 12 ∨ kind = 13 ∨ kind = 14)
    (hv : 0 ≤ v ∧ v < 18446744073709551616) (hn0 : -9223372036854775808 ≤ n) (hn1 : n ≤ 9223372036854775807) :
    Calls Try.prog 67 #[.pointer (some ⟨d, 0, none⟩), .pointer (some ⟨r, 0, none⟩), .agg (opCells kind D a n v pB pL lB lL cB cL)] w fun e w' => e = .returned (.bool true) ∧ PairMoved H d r (N + 65536) w w' := by
  have hlt : ∀ i, H i → i ≠ w.heap.size := fun i hi => by have := h.lt hi; omega
  obtain ⟨F, G, S, L, R, M, h1, h2, h3, h4, h5, h6⟩ := h
  have hkA : Keeps (fun _ => False) w (w.alloc (.cells (opCells kind D a n v pB pL lB lL cB cL) 100)) := Keeps.of (World.grownBy_alloc w _ none) (by simp)
  have d1 := h1.kept hkA (by simp)
  have d2 := h2.kept hkA (by simp)
  have hst := h3.steps
  obtain ⟨x0, x1, x2, x3, x4, x5, x6⟩ := op_cells (H := H) (Keeps.refl H (w.alloc (.cells (opCells kind D a n v pB pL lB lL cB cL) 100))) hlt
  have HX := Hid.mk' (fun wr (k : Keeps F (w.alloc (.cells (opCells kind D a n v pB pL lB lL cB cL) 100)) wr) => op_cells (H := F) k (fun i hi => hlt i ((h5 i).2 (Or.inl hi))))
  have HP : Hid (∀ w2 w3 T Q, Moved F d (w.alloc (.cells (opCells kind D a n v pB pL lB lL cB cL) 100)) w2 T → RMoved G r w2 w3 Q → Rel T Q → Q.now ≤ N + 65536 → PairMoved H d r (N + 65536) w w3) := fun w2 w3 T Q a b c e => pair_step hkA d2 d1.fsz h4 h5 a b c e
  have HR2 : Hid (∀ w2, Keeps F (w.alloc (.cells (opCells kind D a n v pB pL lB lL cB cL) 100)) w2 → RefAt w2 G r R M) := fun w2 k => d2.kept k (fun i hi hf => h4 i hf hi)
  have HSAME : Hid (PairMoved H d r (N + 65536) w (w.alloc (.cells (opCells kind D a n v pB pL lB lL cB cL) 100))) := ⟨H, ⟨F, G, S, L, R, M, d1, d2, h3, h4, h5, by omega⟩, hkA.mono (fun _ _ h => h.elim), fun _ hk => Or.inl hk⟩
  have HDN := Hid.mk' (show R.now ≤ N ∧ R.n ≤ 8192 from ⟨h6, h3.nb.2⟩)
  have HD1 := Hid.mk' (show DevAt (w.alloc (.cells (opCells kind D a n v pB pL lB lL cB cL) 100)) F d S L ∧ Rel S R ∧ RefAt (w.alloc (.cells (opCells kind D a n v pB pL lB lL cB cL) 100)) G r R M from ⟨d1, h3, d2⟩)
  clear hkA h1 h2 h3 h4 h5 d1 d2 hlt
  rcases hk with rfl | rfl | rfl | rfl | rfl | rfl | rfl
  · have hp := store_rel _ F d S L R a v HD1.out.1 HD1.out.2.1 hv (by omega)
    have hnw := store_now R a v
    go_enter Try.func67, Try.ntmps67
    go_wp2_with (first
      | (go_at_call 35; refine hp.mono ?_; rintro e w2 ⟨rfl, T, hx, hrl⟩
         obtain ⟨y0, y1, y2, y3, y4, y5, y6⟩ := HX.out w2 hx.choose_spec.choose_spec.2.1
         have hq := rstore_any w2 G r R M a v (HR2.out w2 hx.choose_spec.choose_spec.2.1) hv (by omega)
         have HM := Hid.mk' (show Moved F d _ w2 T ∧ Rel T _ from ⟨hx, hrl⟩)
         clear hx hrl hp)
      | (go_at_call 80; refine hq.mono ?_; rintro e w3 ⟨rfl, hx⟩
         have HQ := Hid.mk' hx
         clear hx hq))
    go_ret
    exact ⟨ret_bool (by simp), HP.out w2 w3 T _ HM.out.1 HQ.out HM.out.2 (by have := HDN.out.1; omega)⟩
  · have hp := flush_rel _ F d S L R a HD1.out.1 HD1.out.2.1 (by omega)
    have hnw := flush_now R a
    go_enter Try.func67, Try.ntmps67
    go_wp2_with (first
      | (go_at_call 37; refine hp.mono ?_; rintro e w2 ⟨rfl, T, hx, hrl⟩
         obtain ⟨y0, y1, y2, y3, y4, y5, y6⟩ := HX.out w2 hx.choose_spec.choose_spec.2.1
         have hq := rflush_any w2 G r R M a (HR2.out w2 hx.choose_spec.choose_spec.2.1) (by omega)
         have HM := Hid.mk' (show Moved F d _ w2 T ∧ Rel T _ from ⟨hx, hrl⟩)
         clear hx hrl hp)
      | (go_at_call 82; refine hq.mono ?_; rintro e w3 ⟨rfl, hx⟩
         have HQ := Hid.mk' hx
         clear hx hq))
    go_ret
    exact ⟨ret_bool (by simp), HP.out w2 w3 T _ HM.out.1 HQ.out HM.out.2 (by have := HDN.out.1; omega)⟩
  · have hp := flushAll_rel _ F d S L R a n HD1.out.1 HD1.out.2.1 (by omega)
    have hnw := flushAll_now R a n HDN.out.2
    go_enter Try.func67, Try.ntmps67
    go_wp2_with (first
      | (go_at_call 16; refine hp.mono ?_; rintro e w2 ⟨rfl, T, hx, hrl⟩
         obtain ⟨y0, y1, y2, y3, y4, y5, y6⟩ := HX.out w2 hx.choose_spec.choose_spec.2.1
         have hq := rflushAll_any w2 G r R M a n (HR2.out w2 hx.choose_spec.choose_spec.2.1) (by omega)
         have HM := Hid.mk' (show Moved F d _ w2 T ∧ Rel T _ from ⟨hx, hrl⟩)
         clear hx hrl hp)
      | (go_at_call 83; refine hq.mono ?_; rintro e w3 ⟨rfl, hx⟩
         have HQ := Hid.mk' hx
         clear hx hq))
    go_ret
    exact ⟨ret_bool (by simp), HP.out w2 w3 T _ HM.out.1 HQ.out HM.out.2 (by have := HDN.out.1; omega)⟩
  · have hp := fence_rel _ F d S L R HD1.out.1 HD1.out.2.1 (by omega)
    have hnw := fence_now R
    go_enter Try.func67, Try.ntmps67
    go_wp2_with (first
      | (go_at_call 20; refine hp.mono ?_; rintro e w2 ⟨rfl, T, hx, hrl⟩
         obtain ⟨y0, y1, y2, y3, y4, y5, y6⟩ := HX.out w2 hx.choose_spec.choose_spec.2.1
         have hq := rfence_any w2 G r R M (HR2.out w2 hx.choose_spec.choose_spec.2.1) (by omega)
         have HM := Hid.mk' (show Moved F d _ w2 T ∧ Rel T _ from ⟨hx, hrl⟩)
         clear hx hrl hp)
      | (go_at_call 84; refine hq.mono ?_; rintro e w3 ⟨rfl, hx⟩
         have HQ := Hid.mk' hx
         clear hx hq))
    go_ret
    exact ⟨ret_bool (by simp), HP.out w2 w3 T _ HM.out.1 HQ.out HM.out.2 (by have := HDN.out.1; omega)⟩
  · have hp := arm_rel _ F d S L R n HD1.out.1 HD1.out.2.1 hn1
    have hnw := arm_now R n
    go_enter Try.func67, Try.ntmps67
    go_wp2_with (first
      | (go_at_call 12; refine hp.mono ?_; rintro e w2 ⟨rfl, T, hx, hrl⟩
         obtain ⟨y0, y1, y2, y3, y4, y5, y6⟩ := HX.out w2 hx.choose_spec.choose_spec.2.1
         have hq := rarm_any w2 G r R M n (HR2.out w2 hx.choose_spec.choose_spec.2.1) hn0 hn1
         have HM := Hid.mk' (show Moved F d _ w2 T ∧ Rel T _ from ⟨hx, hrl⟩)
         clear hx hrl hp)
      | (go_at_call 85; refine hq.mono ?_; rintro e w3 ⟨rfl, hx⟩
         have HQ := Hid.mk' hx
         clear hx hq))
    go_ret
    exact ⟨ret_bool (by simp), HP.out w2 w3 T _ HM.out.1 HQ.out HM.out.2 (by have := HDN.out.1; omega)⟩
  · have hp := steps_dev HD1.out.1 R.now hst
    have hq := rsteps_any _ G r R M HD1.out.2.2
    go_enter Try.func67, Try.ntmps67
    go_wp2_with (first
      | (go_at_call 18; refine hp.mono ?_; rintro e w' ⟨rfl, hw⟩; subst w')
      | (go_at_call 86; refine hq.mono ?_; rintro e w' ⟨rfl, hw⟩; subst w'))
    go_ret
    exact ⟨ret_bool (by simp), HSAME.out⟩
  · obtain ⟨bb, hbb⟩ : ∃ bb, bb = (R.left == 0) := ⟨_, rfl⟩
    have hp := dead_dev HD1.out.1 bb (by
      rw [hbb]
      have := HD1.out.2.1.dead
      by_cases hl : R.left = 0
      · have h7 : S.isDead = true := this.2 hl
        rw [show (S.armed && (S.left == 0)) = S.isDead from rfl, h7, hl]; rfl
      · have h7 : S.isDead = false := by
          cases h8 : S.isDead
          · rfl
          · exact absurd (this.1 h8) hl
        rw [show (S.armed && (S.left == 0)) = S.isDead from rfl, h7]
        simp [hl])
    have hq := rdead_any _ G r R M HD1.out.2.2
    rw [← hbb] at hq
    clear hbb
    go_enter Try.func67, Try.ntmps67
    go_wp2_with (first
      | (go_at_call 33; refine hp.mono ?_; rintro e w' ⟨rfl, hw⟩; subst w')
      | (go_at_call 87; refine hq.mono ?_; rintro e w' ⟨rfl, hw⟩; subst w'))
    go_ret
    exact ⟨ret_bool (by simp), HSAME.out⟩

end Go.Proofs.Ytfiekdgpdboolab

namespace Go.Proofs.Ytfiekdgpdboolab
open Go.RowKit Go.Maps

set_option maxHeartbeats 2000000 in
set_option maxRecDepth 20000 in
theorem rwrite_off (w : World) (F : Nat → Prop) (r : Nat) (R : Rf) (M : RLay) (a : Int) (p : Option Addr) (cap : Nat) (l : List Int) (h : RefAt w F r R M)
    (hB : 0 < l.length → ∃ g o, p = some ⟨g, o, none⟩ ∧ ¬ F g ∧ g < w.heap.size ∧ ∀ i, i < 8 * l.length → w.cell? ⟨g, o + i, none⟩ = some (.int .u8 ((laidB l).getD i 0)))
    (hv : ∀ i, i < l.length → 0 ≤ l.getD i 0 ∧ l.getD i 0 < 18446744073709551616)
    (h0 : 0 ≤ a) (h8 : a % 8 = 0) (h1 : a + 8 * l.length ≤ 64 * (R.n : Int)) (hn : R.now ≤ 100000000) :
    Calls Try.prog 81 #[.pointer (some ⟨r, 0, none⟩), .int .i64 a, .slice p (8 * l.length : Nat) cap] w fun e w' => e = .returned (.int .i64 (R.stores a l).1) ∧ RMoved F r w w' (R.stores a l).2 := by
  have hnn := h.nn
  obtain ⟨N, hN⟩ : ∃ N : Nat, N = 8 * l.length := ⟨_, rfl⟩
  have hin := rinside_any w F r R M a N h
  have hib : insideB (64 * (R.n : Int)) a N = true := by simp [insideB]; omega
  rw [hib] at hin
  have ht1 : a.tmod 8 = 0 := by rw [Int.tmod_eq_emod_of_nonneg h0]; exact h8
  have ht2 : (N : Int).tmod 8 = 0 := by rw [Int.tmod_eq_emod_of_nonneg (by omega)]; omega
  have hat : a ≤ 524288 := by omega
  have hNb : N ≤ 524288 := by omega
  have HD := Hid.mk' h
  have HB := Hid.mk' (show N = 8 * l.length ∧ (0 < l.length → ∃ g o, p = some ⟨g, o, none⟩ ∧ ¬ F g ∧ g < w.heap.size ∧ ∀ i, i < 8 * l.length → w.cell? ⟨g, o + i, none⟩ = some (.int .u8 ((laidB l).getD i 0))) ∧ (∀ i, i < l.length → 0 ≤ l.getD i 0 ∧ l.getD i 0 < 18446744073709551616) from ⟨hN, hB, hv⟩)
  have HH := Hid.mk' (show a % 8 = 0 ∧ a + 8 * l.length ≤ 64 * (R.n : Int) ∧ R.now ≤ 100000000 from ⟨h8, h1, hn⟩)
  rw [← hN]
  clear h hB hv h8 h1 hn hN hib
  go_enter Try.func81, Try.ntmps81
  go_wp2_with (first | (go_at_call 100; refine hin.mono ?_; rintro e w' ⟨rfl, hw⟩; subst w'))
  go_loopw [7] (fun i wr => ∃ k : Nat, k ≤ l.length ∧ i = .int .i64 ((8 * k : Nat) : Int) ∧ Hid (∃ T, RMoved F r w wr T ∧ R.stores a l = T.stores (a + 8 * k) (l.drop k) ∧ T.n = R.n ∧ T.now = R.now + k))
    (fun i _ => N - (intOf i).toNat)
  case atStart => exact ⟨0, by omega, rfl, R, rmoved_same HD.out, by simp, rfl, by simp⟩
  case round =>
    obtain ⟨k, hk, rfl, hrel⟩ := hrel
    obtain ⟨T, ⟨F1, M1, hdev, hkp, hfr⟩, hrun, hlen, hst⟩ := hrel
    obtain ⟨a1, a2, a3⟩ := HH.out
    obtain ⟨z1, z2, z3⟩ := HB.out
    obtain ⟨K, hK⟩ : ∃ K, K = 8 * k := ⟨_, rfl⟩
    rw [← hK]
    by_cases hlt : k < l.length
    · obtain ⟨g, o, rfl, hnb, hb, hc⟩ := z2 (by omega)
      have HC : Hid (∀ j, j < 8 → wr.cell? ⟨g, o + (K + j), none⟩ = some (.int .u8 ((fun j => (laidB l).getD (8 * k + j) 0) j))) := fun j hj => by rw [hK]; exact hkp.cell (hc (8 * k + j) (by omega)) hnb
      have HFB : Hid (∀ j, 0 ≤ (fun j => (laidB l).getD (8 * k + j) 0) j ∧ (fun j => (laidB l).getD (8 * k + j) 0) j ≤ 255) := fun j => by
        show 0 ≤ (laidB l).getD (8 * k + j) 0 ∧ (laidB l).getD (8 * k + j) 0 ≤ 255
        rcases Nat.lt_or_ge (8 * k + j) (8 * l.length) with hj | hj
        · rw [show 8 * k + j = 8 * ((8 * k + j) / 8) + (8 * k + j) % 8 by omega, laidB_get l ((8 * k + j) / 8) ((8 * k + j) % 8) (by omega) (by omega)]
          exact byteOf_bd _ _
        · rw [List.getD_eq_getElem?_getD, List.getElem?_eq_none (by rw [laidB_len]; exact hj)]
          simp
      have HV : Hid (gsum (fun j => (laidB l).getD (8 * k + j) 0) 8 = l.getD k 0) := gsum_laid hlt (z3 k hlt)
      have hso := rstore_any wr F1 r T M1 (a + (K : Int)) (l.getD k 0) hdev (z3 k hlt) (by omega)
      rw [drop_cons hlt] at hrun
      have hlt' : (K : Int) < (N : Int) := by omega
      have hk0 : (0 : Int) ≤ (K : Int) := by omega
      have hbw : badWord (64 * T.n) (a + (K : Int)) = 0 := by unfold badWord; rw [if_pos (by omega), if_pos (by omega)]
      have hrs : (T.left = 0 ∧ T.store (a + (K : Int)) (l.getD k 0) = (13, T) ∧ R.stores a l = (13, T)) ∨ (T.store (a + (K : Int)) (l.getD k 0) = (0, T.put (a + (K : Int)) (l.getD k 0)) ∧ R.stores a l = (T.put (a + (K : Int)) (l.getD k 0)).stores (a + 8 * ((k + 1 : Nat) : Int)) (l.drop (k + 1))) := by
        unfold Rf.store
        rw [if_pos hbw]
        by_cases hl0 : T.left = 0
        · left
          rw [if_pos hl0]
          exact ⟨hl0, rfl, by rw [hrun]; simp only [Rf.stores, if_pos hl0]⟩
        · right
          rw [if_neg hl0]
          refine ⟨rfl, ?_⟩
          rw [hrun]; simp only [Rf.stores, if_neg hl0]
          rw [show a + 8 * (k : Int) + 8 = a + 8 * ((k + 1 : Nat) : Int) by omega, show a + 8 * (k : Int) = a + (K : Int) by omega]
      have HX := Hid.mk' (show Keeps F w wr ∧ Fresh F F1 w from ⟨hkp, hfr⟩)
      have HE := Hid.mk' (show T.n = R.n ∧ T.now = R.now + k ∧ K = 8 * k ∧ k < l.length ∧ N = 8 * l.length from ⟨hlen, hst, hK, hlt, z1⟩)
      have HRS := Hid.mk' hrs
      have hKN : (K : Int) + 8 ≤ (N : Int) := by omega
      generalize (fun j => (laidB l).getD (8 * k + j) 0) = f at *
      generalize l.getD k 0 = v at *
      clear hc z2 z3 hdev hkp hfr hrun hlen hst a1 a2 a3 hK z1 hlt hk hbw hrs
      go_wp2
      go_loopw [8, 9] (fun v i wx => ∃ m : Nat, m ≤ 8 ∧ i = .int .i64 (7 - (m : Int)) ∧ v = .int .u64 (hsum f m) ∧ wx = wr) (fun _ i _ => (intOf i + 1).toNat)
      case atStart => exact ⟨0, by omega, rfl, rfl, rfl⟩
      case round =>
        obtain ⟨m, hm, rfl, rfl, hwx⟩ := hrel
        by_cases hlt : m < 8
        · obtain ⟨i, hi⟩ : ∃ i : Nat, i + m = 7 := ⟨7 - m, by omega⟩
          have e1 : (7 : Int) - m = (i : Int) := by omega
          rw [e1]
          have hbd := hsum_bd f HFB.out m
          have hp := pow_le7 hlt
          have hcc := HC.out i (by omega)
          have hff := HFB.out i
          have HST : Hid (hsum f (m + 1) = hsum f m * 256 + f i) := by
            simp only [Hid, hsum]; rw [show 7 - m = i by omega]
          generalize hX : hsum f m = X at *
          generalize hY : f i = Y at *
          have b1 : 0 ≤ X := hbd.1
          have b2 : X ≤ 72057594037927935 := by omega
          have b3 := hff.1
          have b4 := hff.2
          have HM : Hid (i + m = 7) := hi
          have b5 : (K : Int) + (i : Int) < (N : Int) := by omega
          have b6 : K + i < N := by omega
          have hi0 : (0 : Int) ≤ (i : Int) := by omega
          subst hwx
          clear hbd hp hff hX hY e1 hi
          go_wp2
          go_roundw
          case rel =>
            refine ⟨m + 1, by omega, ?_, ?_, by first | trivial | rfl⟩
            · have := HM.out
              congr 1; omega
            · rw [HST.out]
          case measure => simp [intOf]
        · obtain rfl : m = 8 := by omega
          subst hwx
          rw [hsum_all, HV.out]
          rcases HRS.out with ⟨c1, c2, c3⟩ | ⟨c2, c3⟩
          · rw [c2] at hso
            have HE2 := Hid.mk' c3
            clear c1 c2 c3
            go_wp2_with (first
              | (go_at_call 80; refine hso.mono ?_; rintro e w4 ⟨rfl, hx⟩; have HM := Hid.mk' hx; clear hx))
            go_ret
            exact ⟨by rw [HE2.out]; rfl, by rw [HE2.out]; exact rmoved_next HX.out.1 HX.out.2 HM.out⟩
          · rw [c2] at hso
            have HE2 := Hid.mk' c3
            clear c2 c3
            go_wp2_with (first
              | (go_at_call 80; refine hso.mono ?_; rintro e w4 ⟨rfl, hx⟩; have HM := Hid.mk' hx; clear hx))
            go_roundw
            case rel =>
              obtain ⟨g2, g3, g4, g5, g6⟩ := HE.out
              refine ⟨k + 1, by omega, ?_, _, rmoved_next HX.out.1 HX.out.2 HM.out, HE2.out, g2, ?_⟩
              · rw [g4]; first | (congr 1; omega) | go_num
              · simp only [Rf.put, Rf.tick]; omega
            case measure => simp [intOf]; omega
    · obtain rfl : k = l.length := by omega
      have e : R.stores a l = (0, T) := by rw [hrun, List.drop_length]; rfl
      have HX := Hid.mk' (show RMoved F r w wr T from ⟨F1, M1, hdev, hkp, hfr⟩)
      have HE := Hid.mk' e
      have hlt' : ¬ (K : Int) < (N : Int) := by omega
      have hkb : K ≤ 524288 := by omega
      clear hdev hkp hfr hrun hlen hst e hK z1 z2 z3 hlt hk a1 a2 a3
      go_wp2
      go_ret
      exact ⟨by rw [HE.out]; rfl, by rw [HE.out]; exact HX.out⟩


set_option maxHeartbeats 400000 in
theorem sameB_yes (w : World) (pa pb : Option Addr) (ca cb : Nat) (bs : List Int) (ha : BytesAt w pa bs) (hb : BytesAt w pb bs) (hl : bs.length ≤ 140737488351232) :
    Calls Try.prog 38 #[.slice pa bs.length ca, .slice pb bs.length cb] w fun e w' => e = .returned (.bool true) ∧ ∃ q, w' = w.drewN q := by
  have HA := Hid.mk' ha
  have HB := Hid.mk' hb
  clear ha hb
  go_enter Try.func38, Try.ntmps38
  go_wp2
  go_loopw [5] (fun i wr => ∃ k : Nat, k ≤ bs.length ∧ i = .int .i64 k ∧ ∃ q, wr = w.drewN q) (fun i _ => bs.length - (intOf i).toNat)
  case atStart => exact ⟨0, by omega, rfl, 0, rfl⟩
  case round =>
    obtain ⟨k, hk, rfl, q, rfl⟩ := hrel
    by_cases hlt : k < bs.length
    · obtain ⟨ga, oa, rfl, _, hca⟩ := HA.out (by omega)
      obtain ⟨gb, ob, rfl, _, hcb⟩ := HB.out (by omega)
      have h1 := hca k hlt
      have h2 := hcb k hlt
      have h3 : (0 : Int) ≤ (k : Int) := by omega
      have h4 : (k : Int) < (bs.length : Int) := by omega
      generalize bs.getD k 0 = x at h1 h2
      clear hca hcb
      go_upto_region 6 with fail
      go_quiet (fail)
      go_wp2
      go_roundw
      case rel => exact ⟨k + 1, by omega, by go_num, _, rfl⟩
      case measure => simp [intOf]; omega
    · obtain rfl : k = bs.length := by omega
      go_wp2
      go_ret
      exact ⟨rfl, q, rfl⟩

theorem bytesAt_row {w : World} {base n c : Nat} {p : Option Addr} {bs : List Int} (h : w.ownsRow base 5 1 (.slice p n c) n (u8s bs)) (hn : bs.length = n) : BytesAt w p bs := by
  intro h0
  rcases h.2 with ⟨_, e2⟩ | ⟨g, cp, cur, e1, _⟩
  · omega
  · cases e1
    refine ⟨g, 0, rfl, (h.lt g rfl).2, fun i hi => ?_⟩
    rw [Nat.zero_add, h.cellAt i (by omega)]
    simp only [u8s, List.getElem?_map, List.getElem?_eq_getElem hi, List.getD_eq_getElem?_getD]
    rfl

end Go.Proofs.Ytfiekdgpdboolab
