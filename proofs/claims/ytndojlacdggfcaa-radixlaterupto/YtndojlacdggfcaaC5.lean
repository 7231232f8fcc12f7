import Derived.Test.YtndojlacdggfcaaC4
import Derived.Maps.AppendAt
namespace Go.Proofs.Ytndojlacdggfcaa
open Go.RowKit Go.Shelf

attribute [local go_sem] Oper.semAt_some

theorem info3 : (Try.prog.info? 3).map (fun i => (i.zero, i.size, i.bytes)) = some (some (.int .i64 0), 1, 8) := by kernel_rfl

theorem ownsRow_keeps {A B : World} {base : Nat} {e : TypeId} {size : Nat} {v : Value} {k : Nat} {xs : List Value} {X : Nat → Prop} (h : A.ownsRow base e size v k xs) (hk : Keeps X A B) (hx : ∀ c, v.ownBlock = some c → ¬ X c) : B.ownsRow base e size v k xs := by
  refine ⟨h.1, ?_⟩
  rcases h.2 with hn | ⟨g, cap, cur, rfl, hb, hgg, rest⟩
  · exact .inl hn
  · exact .inr ⟨g, cap, cur, rfl, hb, hk.at hgg (hx g rfl), rest⟩

/-- An append to a boxed slice whose elements are no slots. -/
theorem keepS_append {W w1 : World} {n₀ B : Nat} {t e : TypeId} {size : Nat} {v v' : Value} {k : Nat} {xs : List Value} {tmp : Obj} (hv : Boxed W B t v) (hrow : W.ownsRow n₀ e size v k xs)
    (hgrow : (W.alloc tmp).grownBy w1 v.ownBlock) (t1 : t ≠ 71) (t2 : t ≠ 102) (e1 : e ≠ 71) (e2 : e ≠ 102) : KeepS W (w1.setCell ⟨B, 0, none⟩ v') := by
  intro b c t' ht' h
  have hne : b ≠ B := by
    rintro rfl
    have := (show W.heap[b]? = _ from hv).symm.trans h
    cases this
    rcases ht' with r | r
    · exact t1 r
    · exact t2 r
  rw [Below.heap_setCell _ _ _ _ hne]
  have hlt := heap_lt h
  refine (hgrow.block b (by simp; omega) ?_).trans ((Below.heap_alloc _ _ _ hlt).trans h)
  intro r
  rcases hrow.2 with ⟨rfl, _⟩ | ⟨g, cap, cur, rfl, _, hg, _⟩
  · cases r
  · have : b = g := by simpa [Value.ownBlock] using r
    subst this
    rw [hg] at h
    cases h
    rcases ht' with r | r
    · exact e1 r
    · exact e2 r

theorem Keeps.below_step {w A B : World} (hk : Keeps (fun _ => False) w A) (hb : Below w.heap.size A B) : Keeps (fun _ => False) w B :=
  let ⟨a, b, c, d, e⟩ := hb
  ⟨a.trans hk.os, b.trans hk.tape, c.trans hk.output, Nat.le_trans hk.size d, fun k hk' _ => (e k hk').trans (hk.block k hk' id)⟩

theorem wpIn_noPanic {F : Fence} {n : Nat} {P : Program} {c : Code} {Q : Exit → Act → World → Prop} {a : Act} {w : World} (h : c.wpIn F n P (NoPanic Q) a w) : c.wpIn F n P Q a w := wpIn_mono h NoPanic.imp

def val (x : El) : Value := .int .i64 x.2

set_option maxRecDepth 100000 in
set_option maxHeartbeats 2000000 in
theorem cut_any (w : World) (t : Nat) (lo : Int) (g : Nat → Int) (hT : TreeAt w t g) :
    Calls Try.prog 11 #[.pointer (some ⟨t, 0, none⟩), .int .i64 lo] w fun e w' => ∃ s, e = .returned s ∧ Keeps (fun c => c = t) w w' ∧ TreeAt w' t (cutF g 0 lo) ∧
      w'.ownsRow w.heap.size 3 1 s (els g lo 0 512).length ((els g lo 0 512).map val) := by
  have hlen := els_len g lo 0 512
  obtain ⟨i0, hi, hz0, hz1, hz2⟩ := info_parts info3
  have htl := hT.lt
  have hfol : Try.prog.follows .mixedOrders = true := by kernel_rfl
  refine (callsIn_wide (n := 9)).1 ?_
  refine callsIn_of_wp_marks Try.func11 rfl trivial ?_ rfl
  simp only [Try.ntmps11, List.size_toArray, List.length_cons, List.length_nil, Nat.reduceAdd, Nat.reduceSub, Array.replicate_succ, Array.replicate_zero, List.push_toArray, List.append_toArray, List.nil_append, List.cons_append]
  gi_wp2_with (refine ⟨trivial, ?_⟩; gi_at_call 10; refine (callsIn_wide.2 (from_any _ _ _)).mono ?_; rintro e w' ⟨rfl, rfl⟩)
  have hn3 := three_new w (.cells #[.slice none 0 0] 31) (.cells #[.pointer (some ⟨t, 0, none⟩)] 23) (.cells #[.int .i64 lo] 3)
  obtain ⟨W0, hW0⟩ : ∃ W0, ((w.alloc (.cells #[.slice none 0 0] 31)).alloc (.cells #[.pointer (some ⟨t, 0, none⟩)] 23)).alloc (.cells #[.int .i64 lo] 3) = W0 := ⟨_, rfl⟩
  rw [hW0] at hn3 ⊢
  clear hW0
  obtain ⟨b0, b1, b2, hsz, hK0⟩ := hn3
  have c1 : W0.cell? ⟨w.heap.size + 1, 0, none⟩ = some (.pointer (some ⟨t, 0, none⟩)) := (show Boxed W0 _ _ _ from b1).cell
  have c2 : W0.cell? ⟨w.heap.size + 1 + 1, 0, none⟩ = some (.int .i64 lo) := (show Boxed W0 _ _ _ from b2).cell
  refine wpIn_rangeFunc_ownG rfl (by decide) (gf := 31) (lb := #[.pointer (some ⟨w.heap.size + 1, 0, none⟩), .pointer (some ⟨w.heap.size + 1 + 1, 0, none⟩)]) rfl trivial (enters_of Try.func31 (by kernel_rfl) rfl)
    (from_stops 8 (w.heap.size + 1) (w.heap.size + 1 + 1) t lo g W0 c1 c2 (hT.keep hK0)) (fun h k => h.trans k) (keepS_b W0) (Below.refl _ _) (fun _ => rfl)
    (fun pre W => (∃ v, Boxed W w.heap.size 31 v ∧ W.ownsRow w.heap.size 3 1 v pre.length (pre.map val) ∧ True) ∧ Keeps (fun _ => False) w W) (fun _ _ _ => False)
    (OwnFrom.and (Own.from (holdsRow_own w.heap.size w.heap.size 31 3 1 (fun pre : List El => pre.length) (fun pre => pre.map val) (fun _ _ => True)) _) (ownKeeps hK0.size)) (fun _ _ _ _ _ hs _ _ => hs) ⟨⟨_, b0, World.ownsRow_nil _ _ _ _, trivial⟩, hK0⟩
    (fun x => { tmps := #[.pointer (some ⟨t, 0, none⟩), .int .i64 lo, undef, undef, .slice none 0 0, .pointer (some ⟨w.heap.size, 0, none⟩), undef, .int .i64 x.2, .pointer (some ⟨t, 0, none⟩), .int .i64 lo,
      .func (.func 31) #[] #[.pointer (some ⟨w.heap.size + 1, 0, none⟩), .pointer (some ⟨w.heap.size + 1 + 1, 0, none⟩)], .int .i64 (x.1.val : Int), .int .i64 x.2, undef, undef, undef, undef, undef, undef, undef, undef, undef, undef, undef, undef, undef, undef, undef], defers := [] }) ?assign ?body ?done ?stop
  case assign =>
    intro l x W K hK
    simp only [encs]
    gi_wp2
    simpa using hK
  case body =>
    rintro l pre x W ⟨⟨v, hv, hrow, _⟩, hk⟩ hl
    have hc := hv.cell
    have hle : w.heap.size ≤ W.heap.size := hk.size
    gi_wp2_with (gi_at_builtin; refine wpListIn_append_own _ rfl _ _ 31 rfl w.heap.size 3 i0 (.int .i64 0) 1 8 Try.underlying31 hi hz0 hz1 hz2 rfl (by decide) _ _ _ rfl (hrow.alloc _) ⟨W.heap.size, 0, none⟩ 1 1 [.int .i64 x.2] rfl rfl (cell_one_new _ _ _) (by simp [Value.oneCell']) (by simp [maxLen]; omega) (by omega) (by simp; omega) ?_; intro v' w1 hown' hgrow _; obtain ⟨g', cap', rfl⟩ := ownsRow_succ hown'; obtain ⟨hv1, hv2, hr2, hk2, hb2⟩ := hv.appended (by decide) hrow hle (Nat.le_refl _) hown' hgrow; have hks := keepS_append (v' := .slice (some ⟨g', 0, none⟩) (pre.length + 1) cap') hv hrow hgrow (by decide) (by decide) (by decide) (by decide); have hc1 := hv1.cell; have hf1 := hv1.frozen)
    have hb3 := hk.below_step hb2
    refine ⟨hk2.from _, hks, ⟨_, hv2, ?_, trivial⟩, hb3⟩
    simpa [val] using hr2
  case done =>
    rintro D ys W hD rfl ⟨⟨v, hv, hrow, _⟩, hk⟩ hK
    have hr : ∀ m, CallsIn Fence.wide m Try.prog 33 #[] W.drew fun e w' => e = .returned (.int .i64 512) ∧ w' = W.drew := fun m => callsIn_wide.2 (reach_any _)
    obtain ⟨p, v0, ht, hs⟩ := hT.keep hk
    obtain ⟨x0, x1, xf⟩ := cells2' ht
    have hkd : Keeps (fun _ => False) W W.drew := Keeps.drewN _ W 1
    have hbw : ∀ m, CallsIn Fence.wide m Try.prog 34 #[.agg #[.pointer p, .int .i64 v0], .int .i64 0, .int .i64 512, .int .i64 lo] W.drew fun e w' => ∃ p' v', e = .returned (.agg #[.pointer p', .int .i64 v']) ∧
        Hid (Keeps (fun _ => False) W w' ∧ SlotAt w' (fun _ => True) 3 p' v' (cutF g 0 lo)) ∧ w'.cell? ⟨t, 0, none⟩ = some (.pointer p) ∧ w'.cell? ⟨t, 1, none⟩ = some (.int .i64 v0) ∧ w'.frozen? ⟨t, 0, none⟩ = false ∧ w'.frozen? ⟨t, 1, none⟩ = false := fun m => by
      have := below_any 3 p v0 g 0 lo W.drew _ (by decide) (hs.keep hkd.none_nodes) (by decide)
      refine callsIn_wide.2 (this.mono fun e w' ⟨p', v', he, hk', hs'⟩ => ⟨p', v', he, ⟨hkd.trans hk', hs'.mono fun _ _ => trivial⟩, ?_⟩)
      obtain ⟨d0, d1, df⟩ := cells2' (hk'.at (show W.drew.heap[t]? = _ from ht) id)
      exact ⟨d0, d1, df 0, df 1⟩
    have HH := Hid.mk' (And.intro hv (And.intro hrow (And.intro hk (And.intro hK ht))))
    clear hs hv hrow hk hK ht xf hT b0 b1 b2 c1 c2 hK0
    gi_wp2
    refine wpIn_noPanic ?_
    gi_region_with_o (first
      | (refine ⟨trivial, ?_⟩; (try refine ⟨fun h => (by cases h), ?_⟩); gi_at_call 33; refine (hr _).mono ?_; rintro e w' ⟨rfl, hw⟩; subst w')
      | (refine ⟨trivial, ?_⟩; (try refine ⟨fun h => (by cases h), ?_⟩); gi_at_call 34; refine (hbw _).mono ?_; rintro e w4 ⟨p', v', rfl, hx, x0, x1, x2, x3⟩))
    all_goals
      refine NoPanic.normal ?_
      obtain ⟨hv, hrow, hk, hK, ht⟩ := HH.out
      obtain ⟨hk4, hs4⟩ := hx.out
      have ht4 := hk4.at ht id
      have hset := set_keeps w4 t 0 1 (.pointer p') (.int .i64 v')
      have hset2 := set2b ht4 (.pointer p') (.int .i64 v')
      have hv5 := hset.at (hk4.at hv id) (show ¬ w.heap.size = t by omega)
      have hK5 := hset.at (hk4.at hK id) (show ¬ D = t by omega)
      have hrow5 := ownsRow_keeps (ownsRow_keeps hrow hk4 (fun _ _ h => h)) hset (fun c hc h => by have := (hrow.lt c hc).1; omega)
      have hk5 := ((hk.trans hk4).mono (Y := fun c => c = t) (fun _ _ h => h.elim)).trans hset
      have hs5 := hs4.keep (hset.nodes (by rintro c q u rfl hn; have := ht4.symm.trans hn; simp at this))
      generalize (w4.setCell ⟨t, 0, none⟩ (.pointer p')).setCell ⟨t, 1, none⟩ (.int .i64 v') = w5 at *
      have hc5 := (show Boxed w5 _ _ _ from hv5).cell
      have hp5 := hk5.step (grownBy_putObj' w5 D (.deferred none)) (by rintro k hk'; cases hk'; right; omega)
      have HG := Hid.mk' (And.intro hK5 (And.intro hp5 (And.intro (ownsRow_putObj hrow5 (.deferred none) hK5 rfl) (And.intro hset2 hs5))))
      clear hK5 hp5 hrow5 hset2 hs5 hk5 hv5 hset ht4 hv hrow hk hK ht hk4 hs4
      gi_wp2
      obtain ⟨hK5, hp5, hrow5, hset2, hs5⟩ := HG.out
      refine ⟨by simp, .inl ⟨_, _, rfl, run_takeDeferred hK5, ?_⟩⟩
      have hDt : t ≠ D := by omega
      refine ⟨_, results_tmp rfl _ _ _, v, rfl, hp5, ⟨p', v', (World.putObj_heap_other hDt).trans hset2, hs5.keep (keepS_b w w5 D _ _ (by omega) hK5 rfl rfl).nodes⟩, hrow5⟩
  case stop =>
    rintro D c pre W _ _ h _
    exact h.elim

end Go.Proofs.Ytndojlacdggfcaa
