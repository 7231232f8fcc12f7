import Derived.Test.YtndojlacdggfcabC5
namespace Go.Proofs.Ytndojlacdggfcab
open Go.RowKit Go.Shelf

attribute [local go_sem] Oper.semAt_some

theorem new_tree (w : World) : TreeAt (w.alloc (.cells #[.pointer none, .int .i64 0] 62)) w.heap.size (fun _ => 0) :=
  ⟨none, 0, (MapKept.heap_alloc w _).1, SlotAt.zeros fun _ _ => rfl⟩
theorem keeps_new {w A B : World} {t : Nat} (h : Keeps (fun _ => False) w A) (k : Keeps (fun c => c = t) A B) (ht : w.heap.size ≤ t) : Keeps (fun _ => False) w B := h.then k (by rintro c rfl; exact .inr ht)

def setAll (pre : List El) : Nat → Int := pre.foldl (fun f x => setF f (x.1.val : Int) x.2) (fun _ => 0)
theorem setAll_snoc (pre : List El) (x : El) : setAll (pre ++ [x]) = setF (setAll pre) (x.1.val : Int) x.2 := by simp [setAll]
theorem setF_nat (f : Nat → Int) {o : Nat} (v : Int) (h : o < 512) : setF f (o : Int) v = upd f o v := by simp [setF, isOff_of h]

theorem setAll_els (g : Nat → Int) (n : Nat) (hn : n ≤ 512) : ∀ o, setAll (els g 0 0 n) o = if o < n then g o else 0 := by
  induction n with
  | zero => intro o; simp [els_zero, setAll]
  | succ n ih =>
    intro o
    rw [els_add, Nat.zero_add]
    by_cases h0 : g n = 0
    · rw [els_none (a := n) (n := 1) (fun j h1 h2 => .inr (by rw [show j = n by omega]; exact h0)), List.append_nil, ih (by omega)]
      by_cases h1 : o < n
      · rw [if_pos h1, if_pos (by omega)]
      · rw [if_neg h1]
        by_cases h2 : o = n
        · subst h2; simp [h0]
        · rw [if_neg (by omega)]
    · rw [els_one (show n < 512 by omega) (by omega) h0, setAll_snoc, setF_nat _ _ (show n < 512 by omega)]
      simp only [upd]
      by_cases h2 : o = n
      · subst h2; simp
      · rw [if_neg h2, ih (by omega)]
        by_cases h1 : o < n
        · rw [if_pos h1, if_pos (by omega)]
        · rw [if_neg h1, if_neg (by omega)]

theorem four_new (w : World) (o1 o2 o3 o4 : Obj) : ((((w.alloc o1).alloc o2).alloc o3).alloc o4).heap[w.heap.size]? = some o1 ∧ ((((w.alloc o1).alloc o2).alloc o3).alloc o4).heap[w.heap.size + 1]? = some o2 ∧
    ((((w.alloc o1).alloc o2).alloc o3).alloc o4).heap[w.heap.size + 2]? = some o3 ∧ ((((w.alloc o1).alloc o2).alloc o3).alloc o4).heap[w.heap.size + 3]? = some o4 ∧ ((((w.alloc o1).alloc o2).alloc o3).alloc o4).heap.size = w.heap.size + 4 ∧ Keeps (fun _ => False) w ((((w.alloc o1).alloc o2).alloc o3).alloc o4) := by
  obtain ⟨b1, b2, b3, hsz, hk⟩ := three_new w o1 o2 o3
  have k4 := Keeps.new (((w.alloc o1).alloc o2).alloc o3) o4
  have b4 := (MapKept.heap_alloc (((w.alloc o1).alloc o2).alloc o3) o4).1
  rw [hsz] at b4
  exact ⟨k4.at b1 id, k4.at b2 id, k4.at b3 id, b4, by simp, hk.trans k4⟩

set_option maxRecDepth 100000 in
set_option maxHeartbeats 2000000 in
theorem copy_any (w : World) (t : Nat) (g : Nat → Int) (hT : TreeAt w t g) :
    Calls Try.prog 18 #[.pointer (some ⟨t, 0, none⟩)] w fun e w' => ∃ c, e = .returned (.pointer (some ⟨c, 0, none⟩)) ∧ Hid (c = w.heap.size ∧ Keeps (fun _ => False) w w' ∧ TreeAt w' c g) := by
  have hlen := els_len g 0 0 512
  refine (callsIn_wide (n := 9)).1 ?_
  refine callsIn_of_wp_marks Try.func18 rfl trivial ?_ rfl
  simp only [Try.ntmps18, List.size_toArray, List.length_cons, List.length_nil, Nat.reduceAdd, Nat.reduceSub, Array.replicate_succ, Array.replicate_zero, List.push_toArray, List.append_toArray, List.nil_append, List.cons_append]
  gi_wp2_with (first
    | (refine ⟨trivial, ?_⟩; gi_at_call 25; refine (callsIn_wide.2 (from_any _ _ _)).mono ?_; rintro e w' ⟨rfl, rfl⟩)
    | (refine ⟨trivial, ?_⟩; gi_at_call 24; refine (callsIn_wide.2 (new_any _)).mono ?_; rintro e w' ⟨rfl, rfl⟩))
  have hn4 := four_new w (.cells #[.pointer none, .int .i64 0] 62) (.cells #[.pointer (some ⟨w.heap.size, 0, none⟩)] 24) (.cells #[.pointer (some ⟨t, 0, none⟩)] 24) (.cells #[.int .i64 0] 3)
  obtain ⟨W0, hW0⟩ : ∃ W0, (((w.alloc (.cells #[.pointer none, .int .i64 0] 62)).alloc (.cells #[.pointer (some ⟨w.heap.size, 0, none⟩)] 24)).alloc (.cells #[.pointer (some ⟨t, 0, none⟩)] 24)).alloc (.cells #[.int .i64 0] 3) = W0 := ⟨_, rfl⟩
  rw [hW0] at hn4 ⊢
  clear hW0
  obtain ⟨b0, bc, b1, b2, hsz, hK0⟩ := hn4
  have hT0 : TreeAt W0 w.heap.size (setAll []) := ⟨none, 0, b0, SlotAt.zeros fun _ _ => rfl⟩
  have c1 : W0.cell? ⟨w.heap.size + 1 + 1, 0, none⟩ = some (.pointer (some ⟨t, 0, none⟩)) := (show Boxed W0 _ _ _ from b1).cell
  have c2 : W0.cell? ⟨w.heap.size + 1 + 1 + 1, 0, none⟩ = some (.int .i64 0) := (show Boxed W0 _ _ _ from b2).cell
  refine wpIn_rangeFunc_ownG rfl (by decide) (gf := 35) (lb := #[.pointer (some ⟨w.heap.size + 1 + 1, 0, none⟩), .pointer (some ⟨w.heap.size + 1 + 1 + 1, 0, none⟩)]) rfl trivial (enters_of Try.func35 (by kernel_rfl) rfl)
    (from_stops 8 (w.heap.size + 1 + 1) (w.heap.size + 1 + 1 + 1) t 0 g W0 c1 c2 (hT.keep hK0)) (fun h k => h.trans k) (keepS_b W0) (Below.refl _ _) (fun _ => rfl)
    (fun pre W => (Boxed W (w.heap.size + 1) 24 (.pointer (some ⟨w.heap.size, 0, none⟩)) ∧ TreeAt W w.heap.size (setAll pre)) ∧ Keeps (fun _ => False) w W) (fun _ _ _ => False)
    (OwnFrom.and (OwnFrom.and (Own.from (boxed_own _ _ _) _) ownTree) (ownKeeps hK0.size)) (fun _ _ _ _ _ hs _ _ => hs) ⟨⟨bc, hT0⟩, hK0⟩
    (fun x => { tmps := #[.pointer (some ⟨t, 0, none⟩), undef, .pointer none, .pointer (some ⟨w.heap.size + 1, 0, none⟩), .int .i64 (x.1.val : Int), .int .i64 x.2, .pointer (some ⟨w.heap.size, 0, none⟩), .pointer (some ⟨t, 0, none⟩),
      .func (.func 35) #[] #[.pointer (some ⟨w.heap.size + 1 + 1, 0, none⟩), .pointer (some ⟨w.heap.size + 1 + 1 + 1, 0, none⟩)], .int .i64 (x.1.val : Int), .int .i64 x.2, undef, undef, undef, undef, undef], defers := [] }) ?assign ?body ?done ?stop
  case assign =>
    intro l x W K hK
    simp only [encs]
    gi_wp2
    simpa using hK
  case body =>
    rintro l pre x W ⟨⟨hb, hc⟩, hk⟩ hl
    have hcl := hb.cell
    have hset := CallsIn.inRound l (callsIn_wide (n := 6).2 (set_any W w.heap.size _ (x.1.val : Int) x.2 hc))
    have hset' := hset.mono (R' := fun e W' => e = .returned (.tuple #[.int .i64 (getF (setAll pre) (x.1.val : Int)), .int .i64 (errF (x.1.val : Int))]) ∧ Hid (Keeps (fun c => c = w.heap.size) W W' ∧ TreeAt W' w.heap.size (setAll (pre ++ [x])))) (fun e W' ⟨h1, h2, h3⟩ => ⟨h1, h2, by rw [setAll_snoc]; exact h3⟩)
    clear hset
    gi_wp2_with (refine ⟨trivial, ?_⟩; gi_at_call 22; refine hset'.mono ?_; rintro e W2 ⟨rfl, H2⟩)
    obtain ⟨hk2, hT2⟩ := H2.out
    obtain ⟨p, v, ht, _⟩ := hc
    refine ⟨⟨hk2.size, fun k o _ hk' ho => hk2.at hk' (by rintro rfl; rw [ht] at hk'; cases hk'; cases ho)⟩, keepS_turn hk2 ht (by decide) (by decide), ⟨hk2.at hb (by omega), hT2⟩, keeps_new hk hk2 (Nat.le_refl _)⟩
  case done =>
    rintro D ys W hD rfl ⟨⟨hb, hc⟩, hk⟩ hK
    have hcl := hb.cell
    gi_wp2
    refine ⟨by simp, .inl ⟨_, _, rfl, run_takeDeferred hK, ?_⟩⟩
    refine ⟨_, results_tmp rfl _ _ _, w.heap.size, rfl, rfl, hk.step (grownBy_putObj' W D _) (by rintro k hk'; cases hk'; right; omega), ?_⟩
    have h1 := hc.congr (g := g) (fun o ho => by rw [setAll_els g 512 (by omega), if_pos ho])
    refine h1.keepN (keepS_b w W D _ _ (by omega) hK rfl rfl).nodes (World.putObj_heap_other (by omega))
  case stop =>
    rintro D c pre W _ _ h _
    exact h.elim

end Go.Proofs.Ytndojlacdggfcab
