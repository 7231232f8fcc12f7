import Derived.Test.YtendmohjodeelabC11
import Derived.Test.YtendmohjodeelabR0
namespace Go.Proofs.Ytendmohjodeelab
open Go.RowKit Go.Maps Go.Great

/-- What plays promises of a step. -/
def Plays (t : OpT) : Prop := ∀ (w : World) (x bm y : Nat) (S : List Rw), PlIn w x bm y S →
  Calls Try.prog 33 #[.pointer (some ⟨x, 0, none⟩), .pointer (some ⟨y, 0, none⟩), .agg #[.int .i64 t.k, .int .i64 t.a, .int .i64 t.b, .int .i64 t.d, .string t.s, .int .i64 t.i]] w fun e w' => e = .returned (.bool true) ∧ Hid (IxAt w' x bm (opS t.k S t) ∧ RefAt w' y (opS t.k S t) ∧ Keeps (fun k => k = bm ∨ k = y) w w')

theorem opS_len (k : Int) (S : List Rw) (t : OpT) : (opS k S t).length ≤ S.length + 1 := by
  unfold opS
  split
  · exact putS_len ..
  · split
    · have := del_le S t.d t.s; omega
    · split
      · have := clr_len S t.d; omega
      · omega

theorem ref_new' (W : World) (n : Nat) (h : W.heap.size = n) : Calls Try.prog 31 #[] W fun e w' => e = .returned (.pointer (some ⟨n, 0, none⟩)) ∧ Hid (RefAt w' n [] ∧ Keeps (fun _ => False) W w') := by
  subst h
  exact (ref_new W).mono fun e w' ⟨a, b⟩ => ⟨a, b.out.1, b.out.2.1⟩
theorem new' (W : World) (n : Nat) (h : W.heap.size = n) : Calls Try.prog 22 #[] W fun e w' => e = .returned (.pointer (some ⟨n + 1, 0, none⟩)) ∧ Hid (IxAt w' (n + 1) n [] ∧ Keeps (fun _ => False) W w') := by
  subst h
  exact (new_any W).mono fun e w' ⟨a, b⟩ => ⟨a, b.out.1, b.out.2.1⟩

/-- Both kinds hold the same names. -/
def Like (X : Nat → Nat × Nat × List Rw) (Y : Nat → Nat × List Rw) : Prop := ∀ a, a < 4 → (X a).2.2 = (Y a).2
def PSE (W : World) (bx by_ : Nat) (M : Nat) (w : World) : Prop := ∃ X Y, PS W bx by_ X Y M w ∧ Like X Y

theorem play_one {w W : World} {bx by_ : Nat} {X : Nat → Nat × Nat × List Rw} {Y : Nat → Nat × List Rw} {M a N : Nat} {tk ta tb td : Int} {ts : ByteArray} {ti : Int} (h : PS w bx by_ X Y M W) (hl : Like X Y) (ha : a < 4) (hM : M < 3000000000000) (hp : Plays ⟨tk, ta, tb, td, ts, ti⟩)
    (hN : W.heap[N]? = some (.cells #[.int .i64 tk, .int .i64 ta, .int .i64 tb, .int .i64 td, .string ts, .int .i64 ti] 39 (0, 0))) (m : Nat) :
    Calls Try.prog 33 #[.pointer (some ⟨(X a).1, 0, none⟩), .pointer (some ⟨(Y a).1, 0, none⟩), .agg #[.int .i64 tk, .int .i64 ta, .int .i64 tb, .int .i64 td, .string ts, .int .i64 ti]] (W.drewN m) fun e w' => e = .returned (.bool true) ∧ Hid (PSE w bx by_ (M + 1) w') ∧
      w'.cell? ⟨bx, a, none⟩ = some (.pointer (some ⟨(X a).1, 0, none⟩)) ∧ w'.cell? ⟨by_, a, none⟩ = some (.pointer (some ⟨(Y a).1, 0, none⟩)) ∧ w'.cell? ⟨N, 0, none⟩ = some (.int .i64 tk) ∧ w'.cell? ⟨N, 1, none⟩ = some (.int .i64 ta) ∧ w'.cell? ⟨N, 2, none⟩ = some (.int .i64 tb) ∧ w'.cell? ⟨N, 3, none⟩ = some (.int .i64 td) ∧ w'.cell? ⟨N, 4, none⟩ = some (.string ts) ∧ w'.cell? ⟨N, 5, none⟩ = some (.int .i64 ti) := by
  have hd : PS w bx by_ X Y M (W.drewN m) := h.grown (Keeps.drewN _ W m)
  have hN' : (W.drewN m).heap[N]? = some (.cells #[.int .i64 tk, .int .i64 ta, .int .i64 tb, .int .i64 td, .string ts, .int .i64 ti] 39 (0, 0)) := hN
  have hrf := hd.rf a ha
  rw [← hl a ha] at hrf
  refine (hp (W.drewN m) (X a).1 (X a).2.1 (Y a).1 (X a).2.2 ⟨hd.ix a ha, hrf, by have := (hd.few a ha).1; omega⟩).mono ?_
  rintro e w' ⟨rfl, H⟩
  have hps := hd.on ha H.out.1 H.out.2.1 H.out.2.2 (Nat.le_trans (opS_len _ _ _) (by have := (hd.few a ha).1; omega))
  have hNN : w'.heap[N]? = some (.cells #[.int .i64 tk, .int .i64 ta, .int .i64 tb, .int .i64 td, .string ts, .int .i64 ti] 39 (0, 0)) := by
    refine H.out.2.2.at hN' ?_
    rintro (rfl | rfl)
    · obtain ⟨D2, ⟨es2, cl2, hb2, _⟩, _⟩ := (hd.ix a ha).map
      rw [hN'] at hb2; cases hb2
    · obtain ⟨v2, hv2, _⟩ := hd.rf a ha
      rw [hN'] at hv2; cases hv2
  have cx := hps.cx a ha
  have cy := hps.cy a ha
  simp only [updF, if_true] at cx cy
  refine ⟨rfl, ⟨_, _, hps, fun i hi => ?_⟩, cx, cy, ?_, ?_, ?_, ?_, ?_, ?_⟩
  · unfold updF
    split
    · rfl
    · exact hl i hi
  · rw [cell_of_row _ _ 0 _ 39 (0, 0) hNN]; rfl
  · rw [cell_of_row _ _ 1 _ 39 (0, 0) hNN]; rfl
  · rw [cell_of_row _ _ 2 _ 39 (0, 0) hNN]; rfl
  · rw [cell_of_row _ _ 3 _ 39 (0, 0) hNN]; rfl
  · rw [cell_of_row _ _ 4 _ 39 (0, 0) hNN]; rfl
  · rw [cell_of_row _ _ 5 _ 39 (0, 0) hNN]; rfl

theorem copy_one {w W : World} {bx by_ : Nat} {X : Nat → Nat × Nat × List Rw} {Y : Nat → Nat × List Rw} {M a b N : Nat} {c : Array Value} (h : PS w bx by_ X Y M W) (ha : a < 4) (hb : b < 4) (hN : W.heap[N]? = some (.cells c 39 (0, 0))) (n : Nat) (hn : W.heap.size = n) :
    ∀ W', Keeps (fun _ => False) W W' → W'.heap.size = W.heap.size → Calls Try.prog 13 #[.pointer (some ⟨(X a).1, 0, none⟩)] W' fun e w' => e = .returned (.pointer (some ⟨n + 1, 0, none⟩)) ∧
      Hid (PS w bx by_ (updF X b (n + 1, n, (X a).2.2)) Y M (w'.setCell ⟨bx, b, none⟩ (.pointer (some ⟨n + 1, 0, none⟩)))) ∧ Hid ((w'.setCell ⟨bx, b, none⟩ (.pointer (some ⟨n + 1, 0, none⟩))).heap[N]? = some (.cells c 39 (0, 0))) ∧
      w'.cell? ⟨bx, b, none⟩ = some (.pointer (some ⟨(X b).1, 0, none⟩)) ∧ w'.frozen? ⟨bx, b, none⟩ = false ∧ w'.cell? ⟨N, 2, none⟩ = c[2]? ∧ w'.cell? ⟨N, 1, none⟩ = c[1]? ∧ w'.cell? ⟨bx, a, none⟩ = some (.pointer (some ⟨(X a).1, 0, none⟩)) := by
  intro W' k hs
  have h' := h.grown k
  refine (copyI_any W' _ _ _ (h'.ix a ha)).mono ?_
  rintro e w' ⟨rfl, H⟩
  rw [hs, hn] at H ⊢
  have hp := h'.setX H.out.2.1 hb H.out.1 (by omega) (h'.few a ha).1
  have hN' : w'.heap[N]? = some (.cells c 39 (0, 0)) := (k.trans H.out.2.1).at hN (fun h => h)
  have hg := h'.grown H.out.2.1
  refine ⟨rfl, hp, ?_, hg.cx b hb, hg.fx b, ?_, ?_, hg.cx a ha⟩
  · show _ = _
    rw [(grownBy_setCell w' ⟨bx, b, none⟩ (.pointer (some ⟨n + 1, 0, none⟩))).block N (heap_lt hN') (by
      rintro e; cases e; rw [hg.ax] at hN'; cases hN')]
    exact hN'
  · rw [cell_of_row _ _ 2 _ 39 (0, 0) hN']
  · rw [cell_of_row _ _ 1 _ 39 (0, 0) hN']

theorem copy_two {w W : World} {bx by_ : Nat} {X : Nat → Nat × Nat × List Rw} {Y : Nat → Nat × List Rw} {M a b N : Nat} {c : Array Value} (h : PS w bx by_ X Y M W) (ha : a < 4) (hb : b < 4) (hN : W.heap[N]? = some (.cells c 39 (0, 0))) (n : Nat) (hn : W.heap.size = n) (hM : M < 3000000000000) :
    ∀ W', Keeps (fun _ => False) W W' → W'.heap.size = W.heap.size → Calls Try.prog 32 #[.pointer (some ⟨(Y a).1, 0, none⟩)] W' fun e w' => e = .returned (.pointer (some ⟨n, 0, none⟩)) ∧
      Hid (PS w bx by_ X (updF Y b (n, (Y a).2)) M (w'.setCell ⟨by_, b, none⟩ (.pointer (some ⟨n, 0, none⟩)))) ∧ Hid ((w'.setCell ⟨by_, b, none⟩ (.pointer (some ⟨n, 0, none⟩))).heap[N]? = some (.cells c 39 (0, 0))) ∧
      w'.cell? ⟨by_, b, none⟩ = some (.pointer (some ⟨(Y b).1, 0, none⟩)) ∧ w'.frozen? ⟨by_, b, none⟩ = false ∧ w'.cell? ⟨N, 2, none⟩ = c[2]? ∧ w'.cell? ⟨N, 1, none⟩ = c[1]? ∧ w'.cell? ⟨by_, a, none⟩ = some (.pointer (some ⟨(Y a).1, 0, none⟩)) := by
  intro W' k hs
  have h' := h.grown k
  refine (ref_copy W' _ _ (h'.rf a ha) (by have := (h'.few a ha).2; omega)).mono ?_
  rintro e w' ⟨rfl, H⟩
  rw [hs, hn] at H ⊢
  have hp := h'.setY H.out.2 hb H.out.1 (by omega) (h'.few a ha).2
  have hN' : w'.heap[N]? = some (.cells c 39 (0, 0)) := (k.trans H.out.2).at hN (fun h => h)
  have hg := h'.grown H.out.2
  refine ⟨rfl, hp, ?_, hg.cy b hb, hg.fy b, ?_, ?_, hg.cy a ha⟩
  · show _ = _
    rw [(grownBy_setCell w' ⟨by_, b, none⟩ (.pointer (some ⟨n, 0, none⟩))).block N (heap_lt hN') (by
      rintro e; cases e; rw [hg.ay] at hN'; cases hN')]
    exact hN'
  · rw [cell_of_row _ _ 2 _ 39 (0, 0) hN']
  · rw [cell_of_row _ _ 1 _ 39 (0, 0) hN']

set_option maxHeartbeats 8000000 in
set_option maxRecDepth 100000 in
theorem upto_any (w : World) (p : Option Addr) (cap : Nat) (l : List OpT) (hp : OpIn w p l) (hok : ∀ t ∈ l, OpOk t) (hn : l.length < 3000000000000) (sm : Bool) (lo hi : Int)
    (HPL : ∀ t, OpOk t → (t.k = 1 ∨ t.k = 2 ∨ t.k = 8 ∨ (lo ≤ t.k ∧ t.k ≤ hi)) → t.k ≠ 9 → Plays t) :
    Calls Try.prog 21 #[.slice p l.length cap, .bool sm, .int .i64 lo, .int .i64 hi] w fun e w' => e = .returned (.bool true) ∧ Keeps (fun _ => False) w w' := by
  have h9 := first_any w
  have HO : Hid (OpIn w p l ∧ ∀ t ∈ l, OpOk t) := ⟨hp, hok⟩
  have HPP : Hid (∀ t, OpOk t → (t.k = 1 ∨ t.k = 2 ∨ t.k = 8 ∨ (lo ≤ t.k ∧ t.k ≤ hi)) → t.k ≠ 9 → Plays t) := HPL
  clear hp hok HPL
  go_enter Try.func21, Try.ntmps21
  go_wp2_with (first | (go_at_call 9; refine h9.mono ?_; clear h9; rintro e w1 ⟨rfl, hk1⟩; have HK1 : Hid (Keeps (fun _ => False) w w1) := hk1; clear hk1))
  have HB0 : Hid (Bg w w1.heap.size (w1.heap.size + 1) (fun _ => (0, 0)) (fun _ => 0) 0 0 ((w1.alloc (.cells #[.pointer none, .pointer none, .pointer none, .pointer none] 61)).alloc (.cells #[.pointer none, .pointer none, .pointer none, .pointer none] 63))) := by
    have hsz := HK1.out.size
    refine ⟨?_, ?_, fun a ha => absurd ha (by omega), fun a ha => absurd ha (by omega), fun a b ha => absurd ha (by omega), fun a b ha => absurd ha (by omega), (HK1.out.alloc _).alloc _, hsz, by omega, fun a ha => absurd ha (by omega), fun a ha => absurd ha (by omega)⟩
    · rw [(MapKept.heap_alloc _ _).2 _ (by simp)]; exact heap_alloc_last w1 _
    · have := heap_alloc_last (w1.alloc (.cells #[.pointer none, .pointer none, .pointer none, .pointer none] 61)) (.cells #[.pointer none, .pointer none, .pointer none, .pointer none] 63)
      rwa [World.size_alloc] at this
  obtain ⟨bx, hbx⟩ : ∃ bx, bx = w1.heap.size := ⟨_, rfl⟩
  obtain ⟨by_, hby⟩ : ∃ by_, by_ = w1.heap.size + 1 := ⟨_, rfl⟩
  rw [← hby, ← hbx] at HB0 ⊢
  clear hbx hby
  go_loopw [11] (fun i wr => ∃ k : Nat, k ≤ 4 ∧ i = .int .i64 k ∧ Hid (∃ X Y, Bg w bx by_ X Y k k wr)) (fun i _ => 4 - (intOf i).toNat)
  case atStart => exact ⟨0, by omega, rfl, _, _, HB0.out⟩
  case round =>
    obtain ⟨k, hk, rfl, HR⟩ := hrel
    by_cases h1 : k < 4
    · obtain ⟨X, Y, hB⟩ := HR.out
      have HB : Hid (Bg w bx by_ X Y k k wr) := hB
      have h1' : (k : Int) < 4 := by omega
      have h22 := new' wr wr.heap.size rfl
      clear hB HR
      go_wp2_with (first
        | (go_at_call 31; refine (ref_new' _ w2.heap.size (by simp)).mono ?_; rintro e w3 ⟨rfl, H3⟩; have HB3 : Hid (Bg w bx by_ (updF X k (wr.heap.size + 1, wr.heap.size)) (updF Y k w2.heap.size) (k + 1) (k + 1) (w3.setCell ⟨by_, k, none⟩ (.pointer (some ⟨w2.heap.size, 0, none⟩)))) := HB2.out.setY H3.out.2 h1 H3.out.1 (by simp); have d1 := ((HB2.out.grown H3.out.2).cells k h1).2.1; have d2 := ((HB2.out.grown H3.out.2).cells k h1).2.2.2; have d3 := (HB3.out.cells k h1).1; simp only [updF, Nat.lt_succ_self, if_pos, Nat.lt_irrefl, if_false, ptr] at d1 d3)
        | (go_at_call 22; refine h22.mono ?_; clear h22; rintro e w2 ⟨rfl, H2⟩; have HB2 : Hid (Bg w bx by_ (updF X k (wr.heap.size + 1, wr.heap.size)) Y (k + 1) k (w2.setCell ⟨bx, k, none⟩ (.pointer (some ⟨wr.heap.size + 1, 0, none⟩)))) := HB.out.setX H2.out.2 h1 H2.out.1 (Nat.le_refl _); have c1 := ((HB.out.grown H2.out.2).cells k h1).1; have c2 := ((HB.out.grown H2.out.2).cells k h1).2.2.1; simp only [Nat.lt_irrefl, if_false] at c1))
      go_roundw
      case rel => exact ⟨k + 1, by omega, by go_num, _, _, HB3.out⟩
      case measure => simp [intOf]; omega
    · obtain ⟨X, Y, hB⟩ := HR.out
      have HP0 : Hid (PSE w bx by_ 0 wr) := by
        have e : k = 4 := by omega
        rw [e] at hB
        exact ⟨_, _, hB.done, fun a _ => rfl⟩
      have h1' : ¬ (k : Int) < 4 := by omega
      clear hB HR
      go_wp2
      go_loopw [12] (fun i wr => ∃ k : Nat, k ≤ l.length ∧ i = .int .i64 k ∧ Hid (PSE w bx by_ k wr)) (fun i _ => l.length - (intOf i).toNat)
      case atStart => exact ⟨0, Nat.zero_le _, rfl, HP0⟩
      case round =>
        obtain ⟨k, hk, rfl, HR⟩ := hrel
        by_cases h1 : k < l.length
        · obtain ⟨b, o, rfl, hb, hc⟩ := HO.out.1 (by omega)
          obtain ⟨X, Y, hPS, hLk⟩ := HR.out
          have HPS : Hid (PS w bx by_ X Y k wr ∧ Like X Y) := ⟨hPS, hLk⟩
          have c0 := hPS.keep.cell (hc k h1 0 _ rfl) (fun h => h)
          have c1 := hPS.keep.cell (hc k h1 1 _ rfl) (fun h => h)
          have c2 := hPS.keep.cell (hc k h1 2 _ rfl) (fun h => h)
          have c3 := hPS.keep.cell (hc k h1 3 _ rfl) (fun h => h)
          have c4 := hPS.keep.cell (hc k h1 4 _ rfl) (fun h => h)
          have c5 := hPS.keep.cell (hc k h1 5 _ rfl) (fun h => h)
          have hok : OpOk (l.getD k opZ) := HO.out.2 _ (by rw [List.getD_eq_getElem?_getD, List.getElem?_eq_getElem h1]; exact List.getElem_mem h1)
          generalize l.getD k opZ = t at *
          obtain ⟨tk, ta, tb, td, ts, ti⟩ := t
          simp only [Nat.add_zero] at c0 c1 c2 c3 c4 c5
          have h1' : (k : Int) < (l.length : Int) := by omega
          obtain ⟨a, ha, hA⟩ := and3_nat ta
          obtain ⟨b2, hb2, hB2⟩ := and3_nat tb
          clear hc hPS hLk HR
          by_cases h9 : tk = 9
          · subst h9
            have ha4 : (a : Int) < 4 := by omega
            have hb4 : (b2 : Int) < 4 := by omega
            have HPS1 : Hid (PS w bx by_ X Y k (wr.alloc (.cells #[.int .i64 9, .int .i64 ta, .int .i64 tb, .int .i64 td, .string ts, .int .i64 ti] 39))) := HPS.out.1.grown ((Keeps.refl _ wr).alloc _)
            have hN := heap_alloc_last wr (.cells #[.int .i64 9, .int .i64 ta, .int .i64 tb, .int .i64 td, .string ts, .int .i64 ti] 39)
            obtain ⟨N, hNe⟩ : ∃ N, N = wr.heap.size := ⟨_, rfl⟩
            have hsz : (wr.alloc (.cells #[.int .i64 9, .int .i64 ta, .int .i64 tb, .int .i64 td, .string ts, .int .i64 ti] 39)).heap.size = N + 1 := by rw [hNe]; simp
            go_wp2
            generalize wr.alloc (.cells #[.int .i64 9, .int .i64 ta, .int .i64 tb, .int .i64 td, .string ts, .int .i64 ti] 39) = W1 at *
            rw [← hNe] at hN ⊢
            have x1 := HPS1.out.cx a ha
            have n1 : W1.cell? ⟨N, 1, none⟩ = some (.int .i64 ta) := by rw [cell_of_row _ _ 1 _ 39 (0, 0) hN]; rfl
            have n2 : W1.cell? ⟨N, 2, none⟩ = some (.int .i64 tb) := by rw [cell_of_row _ _ 2 _ 39 (0, 0) hN]; rfl
            have HN : Hid (W1.heap[N]? = some (.cells #[.int .i64 9, .int .i64 ta, .int .i64 tb, .int .i64 td, .string ts, .int .i64 ti] 39 (0, 0))) := hN
            have h13 := copy_one HPS1.out ha hb2 HN.out (N + 1) hsz
            clear hN hNe
            go_region_with (first
              | (go_at_call 13; refine (h13 _ (Keeps.drewN _ W1 1) rfl).mono ?_; rintro e w2 ⟨rfl, H2, HN2, q1, q2, q3, q4, q5⟩))
            all_goals
              generalize w2.setCell ⟨bx, b2, none⟩ (.pointer (some ⟨N + 1 + 1, 0, none⟩)) = W3 at H2 HN2 ⊢
              clear q1 q2 q3 q4 q5 x1 n1 n2 HPS1 HN h13 hsz
              have y1 := H2.out.cy a ha
              have m1 : W3.cell? ⟨N, 1, none⟩ = some (.int .i64 ta) := by rw [cell_of_row _ _ 1 _ 39 (0, 0) HN2.out]; rfl
              have m2 : W3.cell? ⟨N, 2, none⟩ = some (.int .i64 tb) := by rw [cell_of_row _ _ 2 _ 39 (0, 0) HN2.out]; rfl
              obtain ⟨n3, hn3⟩ : ∃ n3, W3.heap.size = n3 := ⟨_, rfl⟩
              have h32 := copy_two H2.out ha hb2 HN2.out n3 hn3 (by omega)
              go_wp2
              go_region_with (first
                | (go_at_call 32; refine (h32 _ (Keeps.drewN _ W3 1) rfl).mono ?_; rintro e w4 ⟨rfl, H4, HN4, r1, r2, r3, r4, r5⟩))
              all_goals
                generalize w4.setCell ⟨by_, b2, none⟩ (.pointer (some ⟨n3, 0, none⟩)) = W5 at H4 HN4 ⊢
                clear r1 r2 r3 r4 r5 y1 m1 m2 h32 hn3
                have z1 := H4.out.cx b2 hb2
                have z2 : W5.cell? ⟨N, 2, none⟩ = some (.int .i64 tb) := by rw [cell_of_row _ _ 2 _ 39 (0, 0) HN4.out]; rfl
                have HF : Hid (PSE w bx by_ (k + 1) W5) := ⟨_, _, H4.out.more (by omega), fun i hi => by
                  unfold updF
                  split
                  · exact HPS.out.2 a ha
                  · exact HPS.out.2 i hi⟩
                simp only [updF, if_true] at z1
                go_wp2
                go_roundw
                case rel => exact ⟨k + 1, by omega, by go_num, HF⟩
                case measure => simp [intOf]; omega
          · have h9a : (tk == 9) = false := by simpa using h9
            by_cases hm : tk = 1 ∨ tk = 2 ∨ tk = 8 ∨ (lo ≤ tk ∧ tk ≤ hi)
            · have HPY : Hid (Plays ⟨tk, ta, tb, td, ts, ti⟩) := HPP.out _ hok hm h9
              have hm' : tk = 1 ∨ tk = 2 ∨ tk = 8 ∨ (tk ≠ 1 ∧ tk ≠ 2 ∧ tk ≠ 8 ∧ lo ≤ tk ∧ tk ≤ hi) := by omega
              clear hm
              rcases hm' with rfl | rfl | rfl | ⟨m1, m2, m8, hm1, hm2⟩
              · have ha4 : (a : Int) < 4 := by omega
                have HPS1 : Hid (PS w bx by_ X Y k (wr.alloc (.cells #[.int .i64 1, .int .i64 ta, .int .i64 tb, .int .i64 td, .string ts, .int .i64 ti] 39))) := HPS.out.1.grown ((Keeps.refl _ wr).alloc _)
                have x1 := HPS1.out.cx a ha
                have y1 := HPS1.out.cy a ha
                have hN := heap_alloc_last wr (.cells #[.int .i64 1, .int .i64 ta, .int .i64 tb, .int .i64 td, .string ts, .int .i64 ti] 39)
                have n0 : (wr.alloc (.cells #[.int .i64 1, .int .i64 ta, .int .i64 tb, .int .i64 td, .string ts, .int .i64 ti] 39)).cell? ⟨wr.heap.size, 0, none⟩ = some (.int .i64 1) := by rw [cell_of_row _ _ 0 _ 39 (0, 0) hN]; rfl
                have n1 : (wr.alloc (.cells #[.int .i64 1, .int .i64 ta, .int .i64 tb, .int .i64 td, .string ts, .int .i64 ti] 39)).cell? ⟨wr.heap.size, 1, none⟩ = some (.int .i64 ta) := by rw [cell_of_row _ _ 1 _ 39 (0, 0) hN]; rfl
                have n2 : (wr.alloc (.cells #[.int .i64 1, .int .i64 ta, .int .i64 tb, .int .i64 td, .string ts, .int .i64 ti] 39)).cell? ⟨wr.heap.size, 2, none⟩ = some (.int .i64 tb) := by rw [cell_of_row _ _ 2 _ 39 (0, 0) hN]; rfl
                have n3 : (wr.alloc (.cells #[.int .i64 1, .int .i64 ta, .int .i64 tb, .int .i64 td, .string ts, .int .i64 ti] 39)).cell? ⟨wr.heap.size, 3, none⟩ = some (.int .i64 td) := by rw [cell_of_row _ _ 3 _ 39 (0, 0) hN]; rfl
                have n4 : (wr.alloc (.cells #[.int .i64 1, .int .i64 ta, .int .i64 tb, .int .i64 td, .string ts, .int .i64 ti] 39)).cell? ⟨wr.heap.size, 4, none⟩ = some (.string ts) := by rw [cell_of_row _ _ 4 _ 39 (0, 0) hN]; rfl
                have n5 : (wr.alloc (.cells #[.int .i64 1, .int .i64 ta, .int .i64 tb, .int .i64 td, .string ts, .int .i64 ti] 39)).cell? ⟨wr.heap.size, 5, none⟩ = some (.int .i64 ti) := by rw [cell_of_row _ _ 5 _ 39 (0, 0) hN]; rfl
                have hN' : Hid ((wr.alloc (.cells #[.int .i64 1, .int .i64 ta, .int .i64 tb, .int .i64 td, .string ts, .int .i64 ti] 39)).heap[wr.heap.size]? = some (.cells #[.int .i64 1, .int .i64 ta, .int .i64 tb, .int .i64 td, .string ts, .int .i64 ti] 39 (0, 0))) := hN
                clear hN
                go_wp2
                generalize wr.alloc (.cells #[.int .i64 1, .int .i64 ta, .int .i64 tb, .int .i64 td, .string ts, .int .i64 ti] 39) = W at *
                have h33 : ∀ m, Calls Try.prog 33 #[.pointer (some ⟨(X a).1, 0, none⟩), .pointer (some ⟨(Y a).1, 0, none⟩), .agg #[.int .i64 1, .int .i64 ta, .int .i64 tb, .int .i64 td, .string ts, .int .i64 ti]] (W.drewN m) fun e w' => e = .returned (.bool true) ∧ Hid (PSE w bx by_ (k + 1) w') ∧ w'.cell? ⟨bx, a, none⟩ = some (.pointer (some ⟨(X a).1, 0, none⟩)) ∧ w'.cell? ⟨by_, a, none⟩ = some (.pointer (some ⟨(Y a).1, 0, none⟩)) ∧ w'.cell? ⟨wr.heap.size, 0, none⟩ = some (.int .i64 1) ∧ w'.cell? ⟨wr.heap.size, 1, none⟩ = some (.int .i64 ta) ∧ w'.cell? ⟨wr.heap.size, 2, none⟩ = some (.int .i64 tb) ∧ w'.cell? ⟨wr.heap.size, 3, none⟩ = some (.int .i64 td) ∧ w'.cell? ⟨wr.heap.size, 4, none⟩ = some (.string ts) ∧ w'.cell? ⟨wr.heap.size, 5, none⟩ = some (.int .i64 ti) := fun m => play_one HPS1.out HPS.out.2 ha (by omega) HPY.out hN'.out m
                go_region_held3 (fun wx => wx.cell? ⟨bx, a, none⟩ = some (.pointer (some ⟨(X a).1, 0, none⟩)) ∧ wx.cell? ⟨by_, a, none⟩ = some (.pointer (some ⟨(Y a).1, 0, none⟩)) ∧ wx.cell? ⟨wr.heap.size, 0, none⟩ = some (.int .i64 1) ∧ wx.cell? ⟨wr.heap.size, 1, none⟩ = some (.int .i64 ta) ∧ wx.cell? ⟨wr.heap.size, 2, none⟩ = some (.int .i64 tb) ∧ wx.cell? ⟨wr.heap.size, 3, none⟩ = some (.int .i64 td) ∧ wx.cell? ⟨wr.heap.size, 4, none⟩ = some (.string ts) ∧ wx.cell? ⟨wr.heap.size, 5, none⟩ = some (.int .i64 ti))
                  (first | go_keep)
                  (first
                    | (go_at_call 33; refine (h33 _).mono ?_; rintro e w2 ⟨rfl, H2, z1, z2, z3, z4, z5, z6, z7, z8⟩))
                all_goals
                  go_wp2
                  go_roundw
                  case rel => exact ⟨k + 1, by omega, by go_num, H2⟩
                  case measure => simp [intOf]; omega
              · have ha4 : (a : Int) < 4 := by omega
                have HPS1 : Hid (PS w bx by_ X Y k (wr.alloc (.cells #[.int .i64 2, .int .i64 ta, .int .i64 tb, .int .i64 td, .string ts, .int .i64 ti] 39))) := HPS.out.1.grown ((Keeps.refl _ wr).alloc _)
                have x1 := HPS1.out.cx a ha
                have y1 := HPS1.out.cy a ha
                have hN := heap_alloc_last wr (.cells #[.int .i64 2, .int .i64 ta, .int .i64 tb, .int .i64 td, .string ts, .int .i64 ti] 39)
                have n0 : (wr.alloc (.cells #[.int .i64 2, .int .i64 ta, .int .i64 tb, .int .i64 td, .string ts, .int .i64 ti] 39)).cell? ⟨wr.heap.size, 0, none⟩ = some (.int .i64 2) := by rw [cell_of_row _ _ 0 _ 39 (0, 0) hN]; rfl
                have n1 : (wr.alloc (.cells #[.int .i64 2, .int .i64 ta, .int .i64 tb, .int .i64 td, .string ts, .int .i64 ti] 39)).cell? ⟨wr.heap.size, 1, none⟩ = some (.int .i64 ta) := by rw [cell_of_row _ _ 1 _ 39 (0, 0) hN]; rfl
                have n2 : (wr.alloc (.cells #[.int .i64 2, .int .i64 ta, .int .i64 tb, .int .i64 td, .string ts, .int .i64 ti] 39)).cell? ⟨wr.heap.size, 2, none⟩ = some (.int .i64 tb) := by rw [cell_of_row _ _ 2 _ 39 (0, 0) hN]; rfl
                have n3 : (wr.alloc (.cells #[.int .i64 2, .int .i64 ta, .int .i64 tb, .int .i64 td, .string ts, .int .i64 ti] 39)).cell? ⟨wr.heap.size, 3, none⟩ = some (.int .i64 td) := by rw [cell_of_row _ _ 3 _ 39 (0, 0) hN]; rfl
                have n4 : (wr.alloc (.cells #[.int .i64 2, .int .i64 ta, .int .i64 tb, .int .i64 td, .string ts, .int .i64 ti] 39)).cell? ⟨wr.heap.size, 4, none⟩ = some (.string ts) := by rw [cell_of_row _ _ 4 _ 39 (0, 0) hN]; rfl
                have n5 : (wr.alloc (.cells #[.int .i64 2, .int .i64 ta, .int .i64 tb, .int .i64 td, .string ts, .int .i64 ti] 39)).cell? ⟨wr.heap.size, 5, none⟩ = some (.int .i64 ti) := by rw [cell_of_row _ _ 5 _ 39 (0, 0) hN]; rfl
                have hN' : Hid ((wr.alloc (.cells #[.int .i64 2, .int .i64 ta, .int .i64 tb, .int .i64 td, .string ts, .int .i64 ti] 39)).heap[wr.heap.size]? = some (.cells #[.int .i64 2, .int .i64 ta, .int .i64 tb, .int .i64 td, .string ts, .int .i64 ti] 39 (0, 0))) := hN
                clear hN
                go_wp2
                generalize wr.alloc (.cells #[.int .i64 2, .int .i64 ta, .int .i64 tb, .int .i64 td, .string ts, .int .i64 ti] 39) = W at *
                have h33 : ∀ m, Calls Try.prog 33 #[.pointer (some ⟨(X a).1, 0, none⟩), .pointer (some ⟨(Y a).1, 0, none⟩), .agg #[.int .i64 2, .int .i64 ta, .int .i64 tb, .int .i64 td, .string ts, .int .i64 ti]] (W.drewN m) fun e w' => e = .returned (.bool true) ∧ Hid (PSE w bx by_ (k + 1) w') ∧ w'.cell? ⟨bx, a, none⟩ = some (.pointer (some ⟨(X a).1, 0, none⟩)) ∧ w'.cell? ⟨by_, a, none⟩ = some (.pointer (some ⟨(Y a).1, 0, none⟩)) ∧ w'.cell? ⟨wr.heap.size, 0, none⟩ = some (.int .i64 2) ∧ w'.cell? ⟨wr.heap.size, 1, none⟩ = some (.int .i64 ta) ∧ w'.cell? ⟨wr.heap.size, 2, none⟩ = some (.int .i64 tb) ∧ w'.cell? ⟨wr.heap.size, 3, none⟩ = some (.int .i64 td) ∧ w'.cell? ⟨wr.heap.size, 4, none⟩ = some (.string ts) ∧ w'.cell? ⟨wr.heap.size, 5, none⟩ = some (.int .i64 ti) := fun m => play_one HPS1.out HPS.out.2 ha (by omega) HPY.out hN'.out m
                go_region_held3 (fun wx => wx.cell? ⟨bx, a, none⟩ = some (.pointer (some ⟨(X a).1, 0, none⟩)) ∧ wx.cell? ⟨by_, a, none⟩ = some (.pointer (some ⟨(Y a).1, 0, none⟩)) ∧ wx.cell? ⟨wr.heap.size, 0, none⟩ = some (.int .i64 2) ∧ wx.cell? ⟨wr.heap.size, 1, none⟩ = some (.int .i64 ta) ∧ wx.cell? ⟨wr.heap.size, 2, none⟩ = some (.int .i64 tb) ∧ wx.cell? ⟨wr.heap.size, 3, none⟩ = some (.int .i64 td) ∧ wx.cell? ⟨wr.heap.size, 4, none⟩ = some (.string ts) ∧ wx.cell? ⟨wr.heap.size, 5, none⟩ = some (.int .i64 ti))
                  (first | go_keep)
                  (first
                    | (go_at_call 33; refine (h33 _).mono ?_; rintro e w2 ⟨rfl, H2, z1, z2, z3, z4, z5, z6, z7, z8⟩))
                all_goals
                  go_wp2
                  go_roundw
                  case rel => exact ⟨k + 1, by omega, by go_num, H2⟩
                  case measure => simp [intOf]; omega
              · have ha4 : (a : Int) < 4 := by omega
                have HPS1 : Hid (PS w bx by_ X Y k (wr.alloc (.cells #[.int .i64 8, .int .i64 ta, .int .i64 tb, .int .i64 td, .string ts, .int .i64 ti] 39))) := HPS.out.1.grown ((Keeps.refl _ wr).alloc _)
                have x1 := HPS1.out.cx a ha
                have y1 := HPS1.out.cy a ha
                have hN := heap_alloc_last wr (.cells #[.int .i64 8, .int .i64 ta, .int .i64 tb, .int .i64 td, .string ts, .int .i64 ti] 39)
                have n0 : (wr.alloc (.cells #[.int .i64 8, .int .i64 ta, .int .i64 tb, .int .i64 td, .string ts, .int .i64 ti] 39)).cell? ⟨wr.heap.size, 0, none⟩ = some (.int .i64 8) := by rw [cell_of_row _ _ 0 _ 39 (0, 0) hN]; rfl
                have n1 : (wr.alloc (.cells #[.int .i64 8, .int .i64 ta, .int .i64 tb, .int .i64 td, .string ts, .int .i64 ti] 39)).cell? ⟨wr.heap.size, 1, none⟩ = some (.int .i64 ta) := by rw [cell_of_row _ _ 1 _ 39 (0, 0) hN]; rfl
                have n2 : (wr.alloc (.cells #[.int .i64 8, .int .i64 ta, .int .i64 tb, .int .i64 td, .string ts, .int .i64 ti] 39)).cell? ⟨wr.heap.size, 2, none⟩ = some (.int .i64 tb) := by rw [cell_of_row _ _ 2 _ 39 (0, 0) hN]; rfl
                have n3 : (wr.alloc (.cells #[.int .i64 8, .int .i64 ta, .int .i64 tb, .int .i64 td, .string ts, .int .i64 ti] 39)).cell? ⟨wr.heap.size, 3, none⟩ = some (.int .i64 td) := by rw [cell_of_row _ _ 3 _ 39 (0, 0) hN]; rfl
                have n4 : (wr.alloc (.cells #[.int .i64 8, .int .i64 ta, .int .i64 tb, .int .i64 td, .string ts, .int .i64 ti] 39)).cell? ⟨wr.heap.size, 4, none⟩ = some (.string ts) := by rw [cell_of_row _ _ 4 _ 39 (0, 0) hN]; rfl
                have n5 : (wr.alloc (.cells #[.int .i64 8, .int .i64 ta, .int .i64 tb, .int .i64 td, .string ts, .int .i64 ti] 39)).cell? ⟨wr.heap.size, 5, none⟩ = some (.int .i64 ti) := by rw [cell_of_row _ _ 5 _ 39 (0, 0) hN]; rfl
                have hN' : Hid ((wr.alloc (.cells #[.int .i64 8, .int .i64 ta, .int .i64 tb, .int .i64 td, .string ts, .int .i64 ti] 39)).heap[wr.heap.size]? = some (.cells #[.int .i64 8, .int .i64 ta, .int .i64 tb, .int .i64 td, .string ts, .int .i64 ti] 39 (0, 0))) := hN
                clear hN
                go_wp2
                generalize wr.alloc (.cells #[.int .i64 8, .int .i64 ta, .int .i64 tb, .int .i64 td, .string ts, .int .i64 ti] 39) = W at *
                have h33 : ∀ m, Calls Try.prog 33 #[.pointer (some ⟨(X a).1, 0, none⟩), .pointer (some ⟨(Y a).1, 0, none⟩), .agg #[.int .i64 8, .int .i64 ta, .int .i64 tb, .int .i64 td, .string ts, .int .i64 ti]] (W.drewN m) fun e w' => e = .returned (.bool true) ∧ Hid (PSE w bx by_ (k + 1) w') ∧ w'.cell? ⟨bx, a, none⟩ = some (.pointer (some ⟨(X a).1, 0, none⟩)) ∧ w'.cell? ⟨by_, a, none⟩ = some (.pointer (some ⟨(Y a).1, 0, none⟩)) ∧ w'.cell? ⟨wr.heap.size, 0, none⟩ = some (.int .i64 8) ∧ w'.cell? ⟨wr.heap.size, 1, none⟩ = some (.int .i64 ta) ∧ w'.cell? ⟨wr.heap.size, 2, none⟩ = some (.int .i64 tb) ∧ w'.cell? ⟨wr.heap.size, 3, none⟩ = some (.int .i64 td) ∧ w'.cell? ⟨wr.heap.size, 4, none⟩ = some (.string ts) ∧ w'.cell? ⟨wr.heap.size, 5, none⟩ = some (.int .i64 ti) := fun m => play_one HPS1.out HPS.out.2 ha (by omega) HPY.out hN'.out m
                go_region_held3 (fun wx => wx.cell? ⟨bx, a, none⟩ = some (.pointer (some ⟨(X a).1, 0, none⟩)) ∧ wx.cell? ⟨by_, a, none⟩ = some (.pointer (some ⟨(Y a).1, 0, none⟩)) ∧ wx.cell? ⟨wr.heap.size, 0, none⟩ = some (.int .i64 8) ∧ wx.cell? ⟨wr.heap.size, 1, none⟩ = some (.int .i64 ta) ∧ wx.cell? ⟨wr.heap.size, 2, none⟩ = some (.int .i64 tb) ∧ wx.cell? ⟨wr.heap.size, 3, none⟩ = some (.int .i64 td) ∧ wx.cell? ⟨wr.heap.size, 4, none⟩ = some (.string ts) ∧ wx.cell? ⟨wr.heap.size, 5, none⟩ = some (.int .i64 ti))
                  (first | go_keep)
                  (first
                    | (go_at_call 33; refine (h33 _).mono ?_; rintro e w2 ⟨rfl, H2, z1, z2, z3, z4, z5, z6, z7, z8⟩))
                all_goals
                  go_wp2
                  go_roundw
                  case rel => exact ⟨k + 1, by omega, by go_num, H2⟩
                  case measure => simp [intOf]; omega
              · have ha4 : (a : Int) < 4 := by omega
                have e1 : (tk == 1) = false := by simpa using m1
                have e2 : (tk == 2) = false := by simpa using m2
                have e8 : (tk == 8) = false := by simpa using m8
                have f1 : decide (lo ≤ tk) = true := by simpa using hm1
                have f2 : decide (tk ≤ hi) = true := by simpa using hm2
                clear m1 m2 m8
                have HPS1 : Hid (PS w bx by_ X Y k (wr.alloc (.cells #[.int .i64 tk, .int .i64 ta, .int .i64 tb, .int .i64 td, .string ts, .int .i64 ti] 39))) := HPS.out.1.grown ((Keeps.refl _ wr).alloc _)
                have x1 := HPS1.out.cx a ha
                have y1 := HPS1.out.cy a ha
                have hN := heap_alloc_last wr (.cells #[.int .i64 tk, .int .i64 ta, .int .i64 tb, .int .i64 td, .string ts, .int .i64 ti] 39)
                have n0 : (wr.alloc (.cells #[.int .i64 tk, .int .i64 ta, .int .i64 tb, .int .i64 td, .string ts, .int .i64 ti] 39)).cell? ⟨wr.heap.size, 0, none⟩ = some (.int .i64 tk) := by rw [cell_of_row _ _ 0 _ 39 (0, 0) hN]; rfl
                have n1 : (wr.alloc (.cells #[.int .i64 tk, .int .i64 ta, .int .i64 tb, .int .i64 td, .string ts, .int .i64 ti] 39)).cell? ⟨wr.heap.size, 1, none⟩ = some (.int .i64 ta) := by rw [cell_of_row _ _ 1 _ 39 (0, 0) hN]; rfl
                have n2 : (wr.alloc (.cells #[.int .i64 tk, .int .i64 ta, .int .i64 tb, .int .i64 td, .string ts, .int .i64 ti] 39)).cell? ⟨wr.heap.size, 2, none⟩ = some (.int .i64 tb) := by rw [cell_of_row _ _ 2 _ 39 (0, 0) hN]; rfl
                have n3 : (wr.alloc (.cells #[.int .i64 tk, .int .i64 ta, .int .i64 tb, .int .i64 td, .string ts, .int .i64 ti] 39)).cell? ⟨wr.heap.size, 3, none⟩ = some (.int .i64 td) := by rw [cell_of_row _ _ 3 _ 39 (0, 0) hN]; rfl
                have n4 : (wr.alloc (.cells #[.int .i64 tk, .int .i64 ta, .int .i64 tb, .int .i64 td, .string ts, .int .i64 ti] 39)).cell? ⟨wr.heap.size, 4, none⟩ = some (.string ts) := by rw [cell_of_row _ _ 4 _ 39 (0, 0) hN]; rfl
                have n5 : (wr.alloc (.cells #[.int .i64 tk, .int .i64 ta, .int .i64 tb, .int .i64 td, .string ts, .int .i64 ti] 39)).cell? ⟨wr.heap.size, 5, none⟩ = some (.int .i64 ti) := by rw [cell_of_row _ _ 5 _ 39 (0, 0) hN]; rfl
                have hN' : Hid ((wr.alloc (.cells #[.int .i64 tk, .int .i64 ta, .int .i64 tb, .int .i64 td, .string ts, .int .i64 ti] 39)).heap[wr.heap.size]? = some (.cells #[.int .i64 tk, .int .i64 ta, .int .i64 tb, .int .i64 td, .string ts, .int .i64 ti] 39 (0, 0))) := hN
                clear hN
                go_wp2
                generalize wr.alloc (.cells #[.int .i64 tk, .int .i64 ta, .int .i64 tb, .int .i64 td, .string ts, .int .i64 ti] 39) = W at *
                have h33 : ∀ m, Calls Try.prog 33 #[.pointer (some ⟨(X a).1, 0, none⟩), .pointer (some ⟨(Y a).1, 0, none⟩), .agg #[.int .i64 tk, .int .i64 ta, .int .i64 tb, .int .i64 td, .string ts, .int .i64 ti]] (W.drewN m) fun e w' => e = .returned (.bool true) ∧ Hid (PSE w bx by_ (k + 1) w') ∧ w'.cell? ⟨bx, a, none⟩ = some (.pointer (some ⟨(X a).1, 0, none⟩)) ∧ w'.cell? ⟨by_, a, none⟩ = some (.pointer (some ⟨(Y a).1, 0, none⟩)) ∧ w'.cell? ⟨wr.heap.size, 0, none⟩ = some (.int .i64 tk) ∧ w'.cell? ⟨wr.heap.size, 1, none⟩ = some (.int .i64 ta) ∧ w'.cell? ⟨wr.heap.size, 2, none⟩ = some (.int .i64 tb) ∧ w'.cell? ⟨wr.heap.size, 3, none⟩ = some (.int .i64 td) ∧ w'.cell? ⟨wr.heap.size, 4, none⟩ = some (.string ts) ∧ w'.cell? ⟨wr.heap.size, 5, none⟩ = some (.int .i64 ti) := fun m => play_one HPS1.out HPS.out.2 ha (by omega) HPY.out hN'.out m
                go_region_held3 (fun wx => wx.cell? ⟨bx, a, none⟩ = some (.pointer (some ⟨(X a).1, 0, none⟩)) ∧ wx.cell? ⟨by_, a, none⟩ = some (.pointer (some ⟨(Y a).1, 0, none⟩)) ∧ wx.cell? ⟨wr.heap.size, 0, none⟩ = some (.int .i64 tk) ∧ wx.cell? ⟨wr.heap.size, 1, none⟩ = some (.int .i64 ta) ∧ wx.cell? ⟨wr.heap.size, 2, none⟩ = some (.int .i64 tb) ∧ wx.cell? ⟨wr.heap.size, 3, none⟩ = some (.int .i64 td) ∧ wx.cell? ⟨wr.heap.size, 4, none⟩ = some (.string ts) ∧ wx.cell? ⟨wr.heap.size, 5, none⟩ = some (.int .i64 ti))
                  (first | go_keep)
                  (first
                    | (go_at_call 33; refine (h33 _).mono ?_; rintro e w2 ⟨rfl, H2, z1, z2, z3, z4, z5, z6, z7, z8⟩))
                all_goals
                  go_wp2
                  go_roundw
                  case rel => exact ⟨k + 1, by omega, by go_num, H2⟩
                  case measure => simp [intOf]; omega
            · have m1 : ¬ tk = 1 := fun e => hm (Or.inl e)
              have m2 : ¬ tk = 2 := fun e => hm (Or.inr (Or.inl e))
              have m8 : ¬ tk = 8 := fun e => hm (Or.inr (Or.inr (Or.inl e)))
              have e1 : (tk == 1) = false := by simpa using m1
              have e2 : (tk == 2) = false := by simpa using m2
              have e8 : (tk == 8) = false := by simpa using m8
              have HF : Hid (PSE w bx by_ (k + 1) (wr.alloc (.cells #[.int .i64 tk, .int .i64 ta, .int .i64 tb, .int .i64 td, .string ts, .int .i64 ti] 39))) := ⟨X, Y, (HPS.out.1.more (by omega)).grown ((Keeps.refl _ wr).alloc _), HPS.out.2⟩
              by_cases hlo : lo ≤ tk
              · have hhi : ¬ tk ≤ hi := fun e => hm (Or.inr (Or.inr (Or.inr ⟨hlo, e⟩)))
                have f1 : decide (lo ≤ tk) = true := by simpa using hlo
                have f2 : decide (tk ≤ hi) = false := by simpa using hhi
                have f3 : hi < tk := by omega
                clear m1 m2 m8 hm h9
                go_wp2
                go_roundw
                case rel => exact ⟨k + 1, by omega, by go_num, HF⟩
                case measure => simp [intOf]; omega
              · have f1 : decide (lo ≤ tk) = false := by simpa using hlo
                have f3 : tk < lo := by omega
                clear m1 m2 m8 hm h9
                go_wp2
                go_roundw
                case rel => exact ⟨k + 1, by omega, by go_num, HF⟩
                case measure => simp [intOf]; omega
        · have h1' : ¬ (k : Int) < (l.length : Int) := by omega
          go_wp2
          go_ret
          obtain ⟨X, Y, hPS, _⟩ := HR.out
          exact ⟨rfl, hPS.keep⟩

end Go.Proofs.Ytendmohjodeelab
