import Derived.Test.YtndojlacdggfcaaX2
namespace Go.Proofs.Ytndojlacdggfcaa
open Go.RowKit Go.Shelf

attribute [local go_sem] Oper.semAt_some

def setAllP (pre : List ElP) : Nat → Sp := pre.foldl (fun f x => setFP f (x.1.val : Int) x.2) (fun _ => (0, 0))
theorem setAllP_snoc (pre : List ElP) (x : ElP) : setAllP (pre ++ [x]) = setFP (setAllP pre) (x.1.val : Int) x.2 := by simp [setAllP]
theorem setFP_nat (f : Nat → Sp) {o : Nat} (v : Sp) (h : o < 512) : setFP f (o : Int) v = updP f o v := by simp [setFP, isOff_of h]
theorem setAllP_els (g : Nat → Sp) (n : Nat) (hn : n ≤ 512) : ∀ o, setAllP (elsP g 0 0 n) o = if o < n then g o else (0, 0) := by
  induction n with
  | zero => intro o; simp [els_zeroP, setAllP]
  | succ n ih =>
    intro o
    rw [els_addP, Nat.zero_add]
    by_cases h0 : g n = (0, 0)
    · rw [els_noneP (a := n) (n := 1) (fun j h1 h2 => .inr (by rw [show j = n by omega]; exact h0)), List.append_nil, ih (by omega)]
      by_cases h1 : o < n
      · rw [if_pos h1, if_pos (by omega)]
      · rw [if_neg h1]
        by_cases h2 : o = n
        · subst h2; simp [h0]
        · rw [if_neg (by omega)]
    · rw [els_oneP (show n < 512 by omega) (by omega) h0, setAllP_snoc, setFP_nat _ _ (show n < 512 by omega)]
      simp only [updP]
      by_cases h2 : o = n
      · subst h2; simp
      · rw [if_neg h2, ih (by omega)]
        by_cases h1 : o < n
        · rw [if_pos h1, if_pos (by omega)]
        · rw [if_neg h1, if_neg (by omega)]

theorem four_newQ (w : World) (o1 o2 o3 o4 : Obj) : ((((w.alloc o1).alloc o2).alloc o3).alloc o4).heap[w.heap.size]? = some o1 ∧ ((((w.alloc o1).alloc o2).alloc o3).alloc o4).heap[w.heap.size + 1]? = some o2 ∧
    ((((w.alloc o1).alloc o2).alloc o3).alloc o4).heap[w.heap.size + 2]? = some o3 ∧ ((((w.alloc o1).alloc o2).alloc o3).alloc o4).heap[w.heap.size + 3]? = some o4 ∧ ((((w.alloc o1).alloc o2).alloc o3).alloc o4).heap.size = w.heap.size + 4 ∧ Keeps (fun _ => False) w ((((w.alloc o1).alloc o2).alloc o3).alloc o4) := by
  obtain ⟨b1, b2, b3, hsz, hk⟩ := three_new w o1 o2 o3
  have k4 := Keeps.new (((w.alloc o1).alloc o2).alloc o3) o4
  have b4 := (MapKept.heap_alloc (((w.alloc o1).alloc o2).alloc o3) o4).1
  rw [hsz] at b4
  exact ⟨k4.at b1 id, k4.at b2 id, k4.at b3 id, b4, by simp, hk.trans k4⟩

/-- A span that lies in a block of its own. -/
def SpBox (W : World) (b : Nat) (y : Sp) : Prop := W.heap[b]? = some (.cells #[.int .i64 y.1, .int .i64 y.2] 42 (0, 0))
theorem SpBox.cells {W : World} {b : Nat} {y : Sp} (h : SpBox W b y) : W.cell? ⟨b, 0, none⟩ = some (.int .i64 y.1) ∧ W.cell? ⟨b, 1, none⟩ = some (.int .i64 y.2) := by
  have h' : W.heap[b]? = _ := h
  constructor <;> simp [World.cell?, h']
theorem SpBox.own {D : Nat} {W W' : World} {row : Option Nat} {b : Nat} {y : Sp} (h : SpBox W b y) (hg : W.grownBy W' row) (hr : ∀ r, row = some r → D ≤ r ∧ ∃ o : Obj, W.heap[r]? = some o ∧ o.isCells = false) : SpBox W' b y := by
  refine (hg.block b (heap_lt h) (fun e => ?_)).trans h
  obtain ⟨_, o, ho, hc⟩ := hr b e.symm
  rw [show W.heap[b]? = _ from h] at ho; cases ho; cases hc

def AxC (w : World) (t : Nat) (x : ElP) (a : Act) (W : World) : Prop := ∃ b, SpBox W b x.2 ∧ a = { tmps := #[.pointer (some ⟨t, 0, none⟩), undef, .pointer none, .pointer (some ⟨w.heap.size + 1, 0, none⟩), .int .i64 (x.1.val : Int), .pointer (some ⟨b, 0, none⟩), .pointer (some ⟨w.heap.size, 0, none⟩), .pointer (some ⟨t, 0, none⟩),
      .func (.func 49) #[] #[.pointer (some ⟨w.heap.size + 1 + 1, 0, none⟩), .pointer (some ⟨w.heap.size + 1 + 1 + 1, 0, none⟩)], .int .i64 (x.1.val : Int), .agg #[.int .i64 x.2.1, .int .i64 x.2.2], undef, undef, undef, undef, undef], defers := [] }

set_option maxRecDepth 100000 in
set_option maxHeartbeats 2000000 in
theorem copy_anyP (w : World) (t : Nat) (g : Nat → Sp) (hT : TreeAtP w t g) :
    Calls Try.prog 20 #[.pointer (some ⟨t, 0, none⟩)] w fun e w' => e = .returned (.pointer (some ⟨w.heap.size, 0, none⟩)) ∧ Hid (Keeps (fun _ => False) w w' ∧ TreeAtP w' w.heap.size g) := by
  have hlen := els_lenP g 0 0 512
  refine (callsIn_wide (n := 9)).1 ?_
  refine callsIn_of_wp_marks Try.func20 rfl trivial ?_ rfl
  simp only [Try.ntmps20, List.size_toArray, List.length_cons, List.length_nil, Nat.reduceAdd, Nat.reduceSub, Array.replicate_succ, Array.replicate_zero, List.push_toArray, List.append_toArray, List.nil_append, List.cons_append]
  gi_wp2_with (first
    | (refine ⟨trivial, ?_⟩; gi_at_call 40; refine (callsIn_wide.2 (from_anyP _ _ _)).mono ?_; rintro e w' ⟨rfl, rfl⟩)
    | (refine ⟨trivial, ?_⟩; gi_at_call 15; refine (callsIn_wide.2 (new_anyP _)).mono ?_; rintro e w' ⟨rfl, rfl⟩))
  have hn4 := four_newQ w (.cells #[.pointer none, .int .i64 0, .int .i64 0] 81) (.cells #[.pointer (some ⟨w.heap.size, 0, none⟩)] 39) (.cells #[.pointer (some ⟨t, 0, none⟩)] 39) (.cells #[.int .i64 0] 3)
  obtain ⟨W0, hW0⟩ : ∃ W0, (((w.alloc (.cells #[.pointer none, .int .i64 0, .int .i64 0] 81)).alloc (.cells #[.pointer (some ⟨w.heap.size, 0, none⟩)] 39)).alloc (.cells #[.pointer (some ⟨t, 0, none⟩)] 39)).alloc (.cells #[.int .i64 0] 3) = W0 := ⟨_, rfl⟩
  rw [hW0] at hn4 ⊢
  clear hW0
  obtain ⟨b0, bc, b1, b2, hsz, hK0⟩ := hn4
  have hT0 : TreeAtP W0 w.heap.size (setAllP []) := ⟨none, (0, 0), b0, SlotAtP.zeros fun _ _ => rfl⟩
  have c1 : W0.cell? ⟨w.heap.size + 1 + 1, 0, none⟩ = some (.pointer (some ⟨t, 0, none⟩)) := (show Boxed W0 _ _ _ from b1).cell
  have c2 : W0.cell? ⟨w.heap.size + 1 + 1 + 1, 0, none⟩ = some (.int .i64 0) := (show Boxed W0 _ _ _ from b2).cell
  refine wpIn_rangeFunc_ownH rfl (by decide) (gf := 49) (lb := #[.pointer (some ⟨w.heap.size + 1 + 1, 0, none⟩), .pointer (some ⟨w.heap.size + 1 + 1 + 1, 0, none⟩)]) rfl trivial (enters_of Try.func49 (by kernel_rfl) rfl)
    (from_stopsP 8 (w.heap.size + 1 + 1) (w.heap.size + 1 + 1 + 1) t 0 g W0 c1 c2 (hT.keep hK0)) (fun h k => h.trans k) (keepS_bP W0) (Below.refl _ _) (fun _ => rfl)
    (fun pre W => (Boxed W (w.heap.size + 1) 39 (.pointer (some ⟨w.heap.size, 0, none⟩)) ∧ TreeAtP W w.heap.size (setAllP pre)) ∧ Keeps (fun _ => False) w W) (fun _ _ _ => False)
    (OwnFrom.and (OwnFrom.and (Own.from (boxed_own _ _ _) _) ownTreeP) (ownKeeps hK0.size)) (fun _ _ _ _ _ hs _ _ => hs) ⟨⟨bc, hT0⟩, hK0⟩
    (AxC w t) (fun x a' _ A B row ⟨b, hb, e⟩ hg hr => ⟨b, hb.own hg hr, e⟩) ?assign ?body ?done ?stop
  case assign =>
    rintro l pre x W K ⟨⟨hb, hc⟩, hk⟩ hK
    simp only [encsP]
    have ka : Keeps (fun _ => False) W (W.alloc (.cells #[.int .i64 x.2.1, .int .i64 x.2.2] 42)) := Keeps.new W _
    have HK := hK _ _ ⟨ka.size, fun k o _ hk' _ => ka.at hk' id⟩ ka.none_slotsP ⟨⟨ka.at hb id, hc.keep ka⟩, hk.trans ka⟩ ⟨W.heap.size, (MapKept.heap_alloc W _).1, rfl⟩
    clear hK
    gi_wp2
    simpa using HK
  case body =>
    rintro l pre x a' W hl0 _ ⟨⟨hb, hc⟩, hk⟩ ⟨b, hsp, rfl⟩ hl
    have hcl := hb.cell
    obtain ⟨s0, s1⟩ := hsp.cells
    have hset := CallsIn.inRound l (callsIn_wide (n := 6).2 (set_anyP W w.heap.size _ (x.1.val : Int) x.2 hc))
    have hset' := hset.mono (R' := fun e W' => e = .returned (.tuple #[.agg #[.int .i64 (getFP (setAllP pre) (x.1.val : Int)).1, .int .i64 (getFP (setAllP pre) (x.1.val : Int)).2], .int .i64 (errF (x.1.val : Int))]) ∧ Hid (Keeps (fun c => c = w.heap.size) W W' ∧ TreeAtP W' w.heap.size (setAllP (pre ++ [x])))) (fun e W' ⟨h1, h2, h3⟩ => ⟨h1, h2, by rw [setAllP_snoc]; exact h3⟩)
    clear hset
    gi_wp2_with (refine ⟨trivial, ?_⟩; gi_at_call 18; refine hset'.mono ?_; rintro e W2 ⟨rfl, H2⟩)
    obtain ⟨hk2, hT2⟩ := H2.out
    obtain ⟨p, v, ht, _⟩ := hc
    refine ⟨⟨hk2.size, fun k o _ hk' ho => hk2.at hk' (by rintro rfl; rw [ht] at hk'; cases hk'; cases ho)⟩, keepS_turnP hk2 ht (by decide) (by decide), ⟨hk2.at hb (by omega), hT2⟩, keeps_new hk hk2 (Nat.le_refl _)⟩
  case done =>
    rintro D ys W hD rfl ⟨⟨hb, hc⟩, hk⟩ hK
    have hcl := hb.cell
    gi_wp2
    refine ⟨by simp, .inl ⟨_, _, rfl, run_takeDeferred hK, ?_⟩⟩
    refine ⟨_, results_tmp rfl _ _ _, rfl, hk.step (grownBy_putObj' W D _) (by rintro k hk'; cases hk'; right; omega), ?_⟩
    have h1 := hc.congr (g := g) (fun o ho => by rw [setAllP_els g 512 (by omega), if_pos ho])
    refine h1.keepN (keepS_bP w W D _ _ (by omega) hK rfl rfl).nodesP (World.putObj_heap_other (by omega))
  case stop =>
    rintro D c pre W _ _ h _
    exact h.elim

end Go.Proofs.Ytndojlacdggfcaa
