import Derived.Test.YtndojlacdggfcaaX3
import Derived.Maps.OwnIn
import Derived.Deep.AppendLies
namespace Go.Proofs.Ytndojlacdggfcaa
open Go.RowKit Go.Shelf

attribute [local go_sem] Oper.semAt_some

theorem info42 : (Try.prog.info? 42).map (fun i => (i.zero, i.size, i.bytes)) = some (some (.agg #[.int .i64 0, .int .i64 0]), 2, 16) := by kernel_rfl

/-- An append to a boxed slice whose elements are no slots. -/
theorem keepS_appendP {W w1 : World} {n₀ B : Nat} {t e : TypeId} {size : Nat} {v v' : Value} {k : Nat} {xs : List Value} {tmp : Obj} (hv : Boxed W B t v) (hrow : W.ownsRow n₀ e size v k xs)
    (hgrow : (W.alloc tmp).grownBy w1 v.ownBlock) (t1 : t ≠ 79) (t2 : t ≠ 105) (e1 : e ≠ 79) (e2 : e ≠ 105) : KeepSP W (w1.setCell ⟨B, 0, none⟩ v') := by
  intro b c t' ht' h
  have hne : b ≠ B := by
    rintro rfl
    have := (show W.heap[b]? = _ from hv).symm.trans h
    cases this
    rcases ht' with r | r
    · exact t1 r
    · exact t2 r
  rw [Below.heap_setCell _ _ _ _ hne]
  have hlt := heap_lt h
  refine (hgrow.block b (by simp; omega) ?_).trans ((Below.heap_alloc _ _ _ hlt).trans h)
  intro r
  rcases hrow.2 with ⟨rfl, _⟩ | ⟨g, cap, cur, rfl, _, hg, _⟩
  · cases r
  · have : b = g := by simpa [Value.ownBlock] using r
    subst this
    rw [hg] at h
    cases h
    rcases ht' with r | r
    · exact e1 r
    · exact e2 r

def pcellsP (pre : List ElP) : List Value := pre.flatMap fun x => [.int .i64 x.2.1, .int .i64 x.2.2]
theorem pcellsP_snoc (pre : List ElP) (x : ElP) : pcellsP (pre ++ [x]) = pcellsP pre ++ [.int .i64 x.2.1, .int .i64 x.2.2] := by simp [pcellsP]

def AxD (w : World) (t : Nat) (lo : Int) (x : ElP) (a : Act) (W : World) : Prop := ∃ b, SpBox W b x.2 ∧ a = { tmps := #[.pointer (some ⟨t, 0, none⟩), .int .i64 lo, undef, undef, .slice none 0 0, .pointer (some ⟨w.heap.size, 0, none⟩), undef, .pointer (some ⟨b, 0, none⟩), .pointer (some ⟨t, 0, none⟩), .int .i64 lo,
      .func (.func 49) #[] #[.pointer (some ⟨w.heap.size + 1, 0, none⟩), .pointer (some ⟨w.heap.size + 1 + 1, 0, none⟩)], .int .i64 (x.1.val : Int), .agg #[.int .i64 x.2.1, .int .i64 x.2.2], undef, undef, undef, undef, undef, undef, undef, undef, undef, undef, undef, undef, undef, undef, undef], defers := [] }

set_option maxRecDepth 100000 in
set_option maxHeartbeats 4000000 in
theorem cut_anyP (w : World) (t : Nat) (lo : Int) (g : Nat → Sp) (hT : TreeAtP w t g) :
    Calls Try.prog 21 #[.pointer (some ⟨t, 0, none⟩), .int .i64 lo] w fun e w' => ∃ s, e = .returned s ∧ Hid (Keeps (fun c => c = t) w w' ∧ TreeAtP w' t (cutFP g 0 lo)) := by
  have hlen := els_lenP g lo 0 512
  obtain ⟨i0, hi, hz0, hz1, hz2⟩ := info_parts info42
  have htl := hT.lt
  have hfol : Try.prog.follows .mixedOrders = true := by kernel_rfl
  refine (callsIn_wide (n := 9)).1 ?_
  refine callsIn_of_wp_marks Try.func21 rfl trivial ?_ rfl
  simp only [Try.ntmps21, List.size_toArray, List.length_cons, List.length_nil, Nat.reduceAdd, Nat.reduceSub, Array.replicate_succ, Array.replicate_zero, List.push_toArray, List.append_toArray, List.nil_append, List.cons_append]
  gi_wp2_with (refine ⟨trivial, ?_⟩; gi_at_call 40; refine (callsIn_wide.2 (from_anyP _ _ _)).mono ?_; rintro e w' ⟨rfl, rfl⟩)
  have hn3 := three_new w (.cells #[.slice none 0 0] 48) (.cells #[.pointer (some ⟨t, 0, none⟩)] 39) (.cells #[.int .i64 lo] 3)
  obtain ⟨W0, hW0⟩ : ∃ W0, ((w.alloc (.cells #[.slice none 0 0] 48)).alloc (.cells #[.pointer (some ⟨t, 0, none⟩)] 39)).alloc (.cells #[.int .i64 lo] 3) = W0 := ⟨_, rfl⟩
  rw [hW0] at hn3 ⊢
  clear hW0
  obtain ⟨b0, b1, b2, hsz, hK0⟩ := hn3
  have c1 : W0.cell? ⟨w.heap.size + 1, 0, none⟩ = some (.pointer (some ⟨t, 0, none⟩)) := (show Boxed W0 _ _ _ from b1).cell
  have c2 : W0.cell? ⟨w.heap.size + 1 + 1, 0, none⟩ = some (.int .i64 lo) := (show Boxed W0 _ _ _ from b2).cell
  refine wpIn_rangeFunc_ownH rfl (by decide) (gf := 49) (lb := #[.pointer (some ⟨w.heap.size + 1, 0, none⟩), .pointer (some ⟨w.heap.size + 1 + 1, 0, none⟩)]) rfl trivial (enters_of Try.func49 (by kernel_rfl) rfl)
    (from_stopsP 8 (w.heap.size + 1) (w.heap.size + 1 + 1) t lo g W0 c1 c2 (hT.keep hK0)) (fun h k => h.trans k) (keepS_bP W0) (Below.refl _ _) (fun _ => rfl)
    (fun pre W => (∃ v, Boxed W w.heap.size 48 v ∧ W.ownsRow w.heap.size 42 2 v pre.length (pcellsP pre) ∧ True) ∧ Keeps (fun _ => False) w W) (fun _ _ _ => False)
    (OwnFrom.and (Own.from (holdsRow_own w.heap.size w.heap.size 48 42 2 (fun pre : List ElP => pre.length) (fun pre => pcellsP pre) (fun _ _ => True)) _) (ownKeeps hK0.size)) (fun _ _ _ _ _ hs _ _ => hs) ⟨⟨_, b0, World.ownsRow_nil _ _ _ _, trivial⟩, hK0⟩
    (AxD w t lo) (fun x a' _ A B row ⟨b, hb, e⟩ hg hr => ⟨b, hb.own hg hr, e⟩) ?assign ?body ?done ?stop
  case assign =>
    rintro l pre x W K ⟨⟨v, hv, hrow, _⟩, hk⟩ hK
    simp only [encsP]
    have ka : Keeps (fun _ => False) W (W.alloc (.cells #[.int .i64 x.2.1, .int .i64 x.2.2] 42)) := Keeps.new W _
    have HK := hK _ _ ⟨ka.size, fun k o _ hk' _ => ka.at hk' id⟩ ka.none_slotsP ⟨⟨v, ka.at hv id, hrow.alloc _, trivial⟩, hk.trans ka⟩ ⟨W.heap.size, (MapKept.heap_alloc W _).1, rfl⟩
    clear hK
    gi_wp2
    simpa using HK
  case body =>
    rintro l pre x a' W hl0 _ ⟨⟨v, hv, hrow, _⟩, hk⟩ ⟨b, hsp, rfl⟩ hl
    have hc := hv.cell
    obtain ⟨s0, s1⟩ := hsp.cells
    have hle : w.heap.size ≤ W.heap.size := hk.size
    have hblk := (MapKept.heap_alloc W (.cells #[.int .i64 x.2.1, .int .i64 x.2.2] 42)).1
    gi_wp2_with (gi_at_builtin; refine wpListIn_append_own_at _ rfl _ _ 48 rfl w.heap.size 42 i0 (.agg #[.int .i64 0, .int .i64 0]) 2 16 Try.underlying48 hi hz0 hz1 hz2 rfl (by decide) _ pre.length (pcellsP pre) rfl (hrow.alloc _) ⟨W.heap.size, 0, none⟩ 1 1 [.int .i64 x.2.1, .int .i64 x.2.2] rfl rfl (World.news_of_block hblk) (by simp [Value.oneCell']) (by unfold maxLen; omega) (by omega) (by simp; omega) ?_; intro v' w1 hown' hgrow _ hloc; obtain ⟨g', cap', rfl⟩ := ownsRow_succ hown'; obtain ⟨hv1, hv2, hr2, hk2, hb2⟩ := hv.appended (by decide) hrow hle (Nat.le_refl _) hown' hgrow; have hks := keepS_appendP (v' := .slice (some ⟨g', 0, none⟩) (pre.length + 1) cap') hv hrow hgrow (by decide) (by decide) (by decide) (by decide); have hc1 := hv1.cell; have hf1 := hv1.frozen)
    have hb3 := hk.below_step hb2
    refine ⟨hk2.from _, hks, ⟨_, hv2, ?_, trivial⟩, hb3⟩
    rw [pcellsP_snoc, List.length_append]; exact hr2
  case done =>
    rintro D ys W hD rfl ⟨⟨v, hv, hrow, _⟩, hk⟩ hK
    have hr : ∀ m, CallsIn Fence.wide m Try.prog 33 #[] W.drew fun e w' => e = .returned (.int .i64 512) ∧ w' = W.drew := fun m => callsIn_wide.2 (reach_any _)
    obtain ⟨p, v0, ht, hs⟩ := hT.keep hk
    obtain ⟨x0, x1, x2, xf⟩ := cells3' ht
    have hkd : Keeps (fun _ => False) W W.drew := Keeps.drewN _ W 1
    have hbw : ∀ m, CallsIn Fence.wide m Try.prog 41 #[.agg #[.pointer p, .int .i64 v0.1, .int .i64 v0.2], .int .i64 0, .int .i64 512, .int .i64 lo] W.drew fun e w' => ∃ (p' : Option Addr) (v' : Sp), e = .returned (.agg #[.pointer p', .int .i64 v'.1, .int .i64 v'.2]) ∧
        Hid (Keeps (fun _ => False) W w' ∧ SlotAtP w' (fun _ => True) 3 p' v' (cutFP g 0 lo)) ∧ w'.cell? ⟨t, 0, none⟩ = some (.pointer p) ∧ w'.cell? ⟨t, 1, none⟩ = some (.int .i64 v0.1) ∧ w'.cell? ⟨t, 2, none⟩ = some (.int .i64 v0.2) ∧ w'.frozen? ⟨t, 0, none⟩ = false ∧ w'.frozen? ⟨t, 1, none⟩ = false ∧ w'.frozen? ⟨t, 2, none⟩ = false := fun m => by
      have := below_anyP 3 p v0 g 0 lo W.drew _ (by decide) (hs.keep hkd.none_nodesP) (by decide)
      refine callsIn_wide.2 (this.mono fun e w' ⟨p', v', he, hk', hs'⟩ => ⟨p', v', he, ⟨hkd.trans hk', hs'.mono fun _ _ => trivial⟩, ?_⟩)
      obtain ⟨d0, d1, d2, df⟩ := cells3' (hk'.at (show W.drew.heap[t]? = _ from ht) id)
      exact ⟨d0, d1, d2, df 0, df 1, df 2⟩
    have HH := Hid.mk' (And.intro hv (And.intro hk (And.intro hK ht)))
    clear hs hv hrow hk hK ht xf hT b0 b1 b2 c1 c2 hK0
    gi_wp2
    refine wpIn_noPanic ?_
    gi_region_with_o (first
      | (refine ⟨trivial, ?_⟩; (try refine ⟨fun h => (by cases h), ?_⟩); gi_at_call 33; refine (hr _).mono ?_; rintro e w' ⟨rfl, hw⟩; subst w')
      | (refine ⟨trivial, ?_⟩; (try refine ⟨fun h => (by cases h), ?_⟩); gi_at_call 41; refine (hbw _).mono ?_; rintro e w4 ⟨p', v', rfl, hx, x0, x1, x2, x3, x4, x5⟩))
    all_goals
      refine NoPanic.normal ?_
      obtain ⟨hv, hk, hK, ht⟩ := HH.out
      obtain ⟨hk4, hs4⟩ := hx.out
      have ht4 := hk4.at ht id
      have hset := set_keeps3 w4 t 0 1 2 (.pointer p') (.int .i64 v'.1) (.int .i64 v'.2)
      have hset2 := set3b ht4 (.pointer p') (.int .i64 v'.1) (.int .i64 v'.2)
      have hv5 := hset.at (hk4.at hv id) (show ¬ w.heap.size = t by omega)
      have hK5 := hset.at (hk4.at hK id) (show ¬ D = t by omega)
      have hk5 := ((hk.trans hk4).mono (Y := fun c => c = t) (fun _ _ h => h.elim)).trans hset
      have hs5 := hs4.keep (hset.nodesP (by rintro c q u rfl hn; have := ht4.symm.trans hn; simp at this))
      generalize ((w4.setCell ⟨t, 0, none⟩ (.pointer p')).setCell ⟨t, 1, none⟩ (.int .i64 v'.1)).setCell ⟨t, 2, none⟩ (.int .i64 v'.2) = w5 at *
      have hc5 := (show Boxed w5 _ _ _ from hv5).cell
      have hp5 := hk5.step (grownBy_putObj' w5 D (.deferred none)) (by rintro k hk'; cases hk'; right; omega)
      have HG := Hid.mk' (And.intro hK5 (And.intro hp5 (And.intro hset2 hs5)))
      clear hK5 hp5 hset2 hs5 hk5 hv5 hset ht4 hv hk hK ht hk4 hs4
      gi_wp2
      obtain ⟨hK5, hp5, hset2, hs5⟩ := HG.out
      refine ⟨by simp, .inl ⟨_, _, rfl, run_takeDeferred hK5, ?_⟩⟩
      have hDt : t ≠ D := by omega
      refine ⟨_, results_tmp rfl _ _ _, v, rfl, hp5, ⟨p', v', (World.putObj_heap_other hDt).trans hset2, hs5.keep (keepS_bP w w5 D _ _ (by omega) hK5 rfl rfl).nodesP⟩⟩
  case stop =>
    rintro D c pre W _ _ h _
    exact h.elim

end Go.Proofs.Ytndojlacdggfcaa
