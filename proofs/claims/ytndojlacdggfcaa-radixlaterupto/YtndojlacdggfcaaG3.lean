import Derived.Test.YtndojlacdggfcaaG2
namespace Go.Proofs.Ytndojlacdggfcaa
open Go.RowKit Go.Shelf

attribute [local go_sem] Oper.semAt_some

set_option maxRecDepth 100000 in
set_option maxHeartbeats 2000000 in
theorem runs_any (w : World) (t : Nat) (g : Nat → Int) (hT : TreeAt w t g) :
    Calls Try.prog 29 #[.pointer (some ⟨t, 0, none⟩)] w fun e w' => ∃ s, e = .returned s ∧ Hid (Keeps (fun _ => False) w w' ∧ w'.ownsRow w.heap.size 66 3 s (runsOf (els g 0 0 512)).length (rflat (runsOf (els g 0 0 512)))) := by
  have hlen := els_len g 0 0 512
  obtain ⟨i0, hi, hz0, hz1, hz2⟩ := info_parts info38
  refine (callsIn_wide (n := 9)).1 ?_
  refine callsIn_of_wp_marks Try.func29 rfl trivial ?_ rfl
  simp only [Try.ntmps29, List.size_toArray, List.length_cons, List.length_nil, Nat.reduceAdd, Nat.reduceSub, Array.replicate_succ, Array.replicate_zero, List.push_toArray, List.append_toArray, List.nil_append, List.cons_append]
  gi_wp2_with (refine ⟨trivial, ?_⟩; gi_at_call 10; refine (callsIn_wide.2 (from_any _ _ _)).mono ?_; rintro e w' ⟨rfl, rfl⟩)
  have hn3 := three_new w (.cells #[.slice none 0 0] 63) (.cells #[.pointer (some ⟨t, 0, none⟩)] 23) (.cells #[.int .i64 0] 3)
  obtain ⟨W0, hW0⟩ : ∃ W0, ((w.alloc (.cells #[.slice none 0 0] 63)).alloc (.cells #[.pointer (some ⟨t, 0, none⟩)] 23)).alloc (.cells #[.int .i64 0] 3) = W0 := ⟨_, rfl⟩
  rw [hW0] at hn3 ⊢
  clear hW0
  obtain ⟨b0, b1, b2, hsz, hK0⟩ := hn3
  have c1 : W0.cell? ⟨w.heap.size + 1, 0, none⟩ = some (.pointer (some ⟨t, 0, none⟩)) := (show Boxed W0 _ _ _ from b1).cell
  have c2 : W0.cell? ⟨w.heap.size + 1 + 1, 0, none⟩ = some (.int .i64 0) := (show Boxed W0 _ _ _ from b2).cell
  refine wpIn_rangeFunc_ownG rfl (by decide) (gf := 31) (lb := #[.pointer (some ⟨w.heap.size + 1, 0, none⟩), .pointer (some ⟨w.heap.size + 1 + 1, 0, none⟩)]) rfl trivial (enters_of Try.func31 (by kernel_rfl) rfl)
    (from_stops 8 (w.heap.size + 1) (w.heap.size + 1 + 1) t 0 g W0 c1 c2 (hT.keep hK0)) (fun h k => h.trans k) (keepS_b W0) (Below.refl _ _) (fun _ => rfl)
    (fun pre W => (∃ v, Boxed W w.heap.size 63 v ∧ W.ownsRow w.heap.size 66 3 v (runsOf pre).length (rflat (runsOf pre)) ∧ True) ∧ Keeps (fun _ => False) w W) (fun _ _ _ => False)
    (OwnFrom.and (Own.from (holdsRow_own w.heap.size w.heap.size 63 66 3 (fun pre : List El => (runsOf pre).length) (fun pre => rflat (runsOf pre)) (fun _ _ => True)) _) (ownKeeps hK0.size)) (fun _ _ _ _ _ hs _ _ => hs) ⟨⟨_, b0, World.ownsRow_nil _ _ _ _, trivial⟩, hK0⟩
    (fun x => { tmps := #[.pointer (some ⟨t, 0, none⟩), undef, .slice none 0 0, .pointer (some ⟨w.heap.size, 0, none⟩), .int .i64 (x.1.val : Int), .int .i64 x.2, undef, .pointer (some ⟨t, 0, none⟩),
      .func (.func 31) #[] #[.pointer (some ⟨w.heap.size + 1, 0, none⟩), .pointer (some ⟨w.heap.size + 1 + 1, 0, none⟩)], .int .i64 (x.1.val : Int), .int .i64 x.2, undef, undef, undef, undef, undef, undef, undef, undef, undef, undef, undef, undef, undef, undef, undef, undef, undef, undef, undef, undef, undef, undef, undef, undef, undef, undef, undef, undef, undef], defers := [] }) ?assign ?body ?done ?stop
  case assign =>
    intro l x W K hK
    simp only [encs]
    gi_wp2
    simpa using hK
  case body =>
    rintro l pre x W ⟨⟨v, hv, hrow, _⟩, hk⟩ hl
    have hc := hv.cell
    have hle : w.heap.size ≤ W.heap.size := hk.size
    have hrl := runsOf_len pre
    have hsn := runsOf_snoc pre x
    obtain ⟨⟨xo, hxo⟩, xv⟩ := x
    simp only at hsn ⊢
    generalize runsOf pre = L at hrow hrl hsn
    rcases List.eq_nil_or_concat L with rfl | ⟨L, r, rfl⟩
    · -- NOTHING YET
      obtain ⟨a, cap, rfl⟩ : ∃ a cap, v = .slice a 0 cap := by
        rcases hrow.2 with ⟨h, _⟩ | ⟨g', cap, cur, h, _⟩
        · exact ⟨_, _, h⟩
        · exact ⟨_, _, h⟩
      rw [runStep_nil] at hsn
      have HS := Hid.mk' hsn
      clear hsn
      gi_wp2_with fail
      refine ⟨trivial, ?_⟩
      gi_wp2_with (gi_at_builtin; refine wpListIn_append_own _ rfl _ _ 63 rfl w.heap.size 66 i0 (.agg #[.int .i64 0, .int .i64 0, .int .i64 0]) 3 24 Try.underlying63 hi hz0 hz1 hz2 rfl (by decide) _ _ _ rfl (hrow.alloc _) ⟨W.heap.size, 0, none⟩ 1 1 [.int .i64 (xo : Int), .int .i64 xv, .int .i64 1] rfl rfl (cells_three_new _ _ _ _ _) (by simp [Value.oneCell']) (by simp [maxLen] <;> omega) (by simp <;> omega) (by simp; omega) ?_; intro v' w1 hown' hgrow _; obtain ⟨g', cap', rfl⟩ := ownsRow_succ hown'; obtain ⟨hv1, hv2, hr2, hk2, hb2⟩ := Boxed.appended hv (by decide) hrow hle (Nat.le_refl _) hown' hgrow; have hks := keepS_append (v' := .slice (some ⟨g', 0, none⟩) 1 cap') hv hrow hgrow (by decide) (by decide) (by decide) (by decide); have hc1 := hv1.cell; have hf1 := hv1.frozen)
      refine ⟨hk2.from _, hks, ⟨_, hv2, ?_, trivial⟩, hk.below_step hb2⟩
      rw [HS.out]
      simpa [rflat, rcells] using hr2
    · rw [List.concat_eq_append] at hrow hrl hsn
      have hn : (L ++ [r]).length = L.length + 1 := by simp
      rw [hn] at hrow hrl
      obtain ⟨gb, cap, rfl⟩ := ownsRow_succ hrow
      obtain ⟨r0, r1, r2⟩ := rflat_cells hrow rfl
      have hgo := goesOn_any r (xo : Int) xv W
      have hkk : (0 : Int) ≤ (L.length : Int) := by omega
      have hfr : W.frozen? ⟨gb, L.length * 3 + 2, none⟩ = false := by
        rcases hrow.2 with ⟨h, _⟩ | ⟨g', cap', cur, h, _, hg, _⟩
        · cases h
        · cases h; simp [World.frozen?, hg]
      cases hb : goes r (xo : Int) xv with
      | true =>
        rw [runStep_yes hb] at hsn
        rw [hb] at hgo
        have hgo' := CallsIn.inRound l (callsIn_wide (n := 6).2 (hgo.mono (R' := fun e W' => e = .returned (.bool true) ∧ Hid (Keeps (fun _ => False) W W') ∧ W'.cell? ⟨w.heap.size, 0, none⟩ = some (.slice (some ⟨gb, 0, none⟩) (L.length + 1) cap) ∧ W'.cell? ⟨gb, L.length * 3 + 2, none⟩ = some (.int .i64 r.2.2) ∧ W'.frozen? ⟨gb, L.length * 3 + 2, none⟩ = false)
          (fun e W' ⟨h1, h2⟩ => ⟨h1, h2, h2.cell hc id, h2.cell r2 id, by rw [← hfr]; exact World.frozen?_of_block (h2.block gb (by exact (hrow.lt gb rfl).2) id)⟩)))
        have HS := Hid.mk' hsn
        clear hsn hgo hb
        gi_wp2_with (refine ⟨trivial, ?_⟩; gi_at_call 46; refine hgo'.mono ?_; rintro e W1 ⟨rfl, H1, y0, y1, y2⟩)
        have hk1 := H1.out
        have hro1 := ownsRow_keeps hrow hk1 (fun _ _ h => h)
        have hv1 : Boxed W1 w.heap.size 63 _ := hk1.at hv id
        have hne : w.heap.size ≠ gb := fun e => hv1.not_row (by decide) hro1 (by rw [e]; rfl)
        have hro2 := ownsRow_set hro1 rfl (L.length * 3 + 2) (.int .i64 (wrap64 (r.2.2 + 1)))
        rw [rflat_set] at hro2
        have hs2 : Keeps (fun c => c = gb) W1 (W1.setCell ⟨gb, L.length * 3 + 2, none⟩ (.int .i64 (wrap64 (r.2.2 + 1)))) := Keeps.of (grownBy_setCell W1 ⟨gb, L.length * 3 + 2, none⟩ _) (by rintro k hk; cases hk; exact .inl rfl)
        have hks : KeepS W (W1.setCell ⟨gb, L.length * 3 + 2, none⟩ (.int .i64 (wrap64 (r.2.2 + 1)))) := by
          refine hk1.none_slots.trans ?_
          rcases hro1.2 with ⟨h, _⟩ | ⟨g', cap', cur, h, _, hg, _⟩
          · cases h
          · cases h; exact keepS_turn hs2 hg (by decide) (by decide)
        have hgb := (hrow.lt gb rfl).1
        refine ⟨⟨Nat.le_trans hk1.size hs2.size, fun k o _ hk' ho => hs2.at (hk1.at hk' id) (by
          rintro rfl
          rcases hrow.2 with ⟨h, _⟩ | ⟨g', cap', cur, h, _, hg, _⟩
          · cases h
          · cases h; rw [hg] at hk'; cases hk'; cases ho)⟩, hks, ⟨_, hs2.at hv1 hne, ?_, trivial⟩, (hk.trans hk1).then hs2 (by rintro c rfl; exact .inr hgb)⟩
        rw [HS.out]
        simpa using hro2
      | false =>
        rw [runStep_no hb] at hsn
        rw [hb] at hgo
        have hgo' := CallsIn.inRound l (callsIn_wide (n := 6).2 (hgo.mono (R' := fun e W' => e = .returned (.bool false) ∧ Hid (Keeps (fun _ => False) W W') ∧ Boxed W' w.heap.size 63 (.slice (some ⟨gb, 0, none⟩) (L.length + 1) cap) ∧ W'.cell? ⟨w.heap.size, 0, none⟩ = some (.slice (some ⟨gb, 0, none⟩) (L.length + 1) cap) ∧ w.heap.size ≤ W'.heap.size ∧ W'.ownsRow w.heap.size 66 3 (.slice (some ⟨gb, 0, none⟩) (L.length + 1) cap) (L.length + 1) (rflat (L ++ [r])))
          (fun e W' ⟨h1, h2⟩ => ⟨h1, h2, h2.at hv id, h2.cell hc id, Nat.le_trans hle h2.size, ownsRow_keeps hrow h2 (fun _ _ h => h)⟩)))
        have HS := Hid.mk' hsn
        clear hsn hgo hb
        gi_wp2_with (first
          | (gi_at_builtin; refine wpListIn_append_own _ rfl _ _ 63 rfl w.heap.size 66 i0 (.agg #[.int .i64 0, .int .i64 0, .int .i64 0]) 3 24 Try.underlying63 hi hz0 hz1 hz2 rfl (by decide) _ _ _ rfl (hro2.alloc _) ⟨W2.heap.size, 0, none⟩ 1 1 [.int .i64 (xo : Int), .int .i64 xv, .int .i64 1] rfl rfl (cells_three_new _ _ _ _ _) (by simp [Value.oneCell']) (by simp [maxLen]; omega) (by omega) (by simp; omega) ?_; intro v' w1 hown' hgrow _; obtain ⟨g', cap', rfl⟩ := ownsRow_succ hown'; obtain ⟨hv1, hv2, hr2, hk2, hb2⟩ := Boxed.appended hv2b (by decide) hro2 hle2 (Nat.le_refl _) hown' hgrow; have hks := keepS_append (v' := .slice (some ⟨g', 0, none⟩) (L.length + 1 + 1) cap') hv2b hro2 hgrow (by decide) (by decide) (by decide) (by decide); have hc1 := hv1.cell; have hf1 := hv1.frozen)
          | (refine ⟨trivial, ?_⟩; gi_at_call 46; refine hgo'.mono ?_; rintro e W2 ⟨rfl, H1, hv2b, y0, hle2, hro2⟩))
        refine ⟨⟨Nat.le_trans H1.out.size hk2.size, fun k o _ hk' ho => hk2.same _ _ (H1.out.at hk' id) ho⟩, H1.out.none_slots.trans hks, ⟨_, hv2, ?_, trivial⟩, (hk.trans H1.out).below_step hb2⟩
        rw [HS.out]
        simpa [rflat, rcells] using hr2
  case done =>
    rintro D ys W hD rfl ⟨⟨v, hv, hrow, _⟩, hk⟩ hK
    have hcl := hv.cell
    gi_wp2
    refine ⟨by simp, .inl ⟨_, _, rfl, run_takeDeferred hK, ?_⟩⟩
    exact ⟨_, results_tmp rfl _ _ _, v, rfl, hk.step (grownBy_putObj' W D _) (by rintro k hk'; cases hk'; right; omega), ownsRow_putObj hrow _ hK rfl⟩
  case stop =>
    rintro D c pre W _ _ h _
    exact h.elim

end Go.Proofs.Ytndojlacdggfcaa
