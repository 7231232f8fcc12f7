import Derived.Test.YtndojlacdggfcaaQ0
namespace Go.Proofs.Ytndojlacdggfcaa
open Go.RowKit Go.Shelf

attribute [local go_sem] Oper.semAt_some

set_option maxRecDepth 100000 in
set_option maxHeartbeats 16000000 in
theorem amid_some (w : World) (p : Option Addr) (l : List Put) (cap : Nat) (fr ct vv : Int) (hp : PutsIn w p l) (hl : l.length ≤ maxLen) (hv0 : ¬ vv = 0) :
    Calls Try.prog 5 #[.agg #[.slice p l.length cap, .int .i64 fr, .int .i64 ct, .int .i64 vv]] w fun e w' => e = .returned (.bool true) ∧ Keeps (fun _ => False) w w' := by
  obtain ⟨g, hg⟩ : ∃ g, g = play (l.take 400) := ⟨_, rfl⟩
  have hpl : ∀ o, o < 512 → g o = lastV l (o : Int) := fun o ho => by rw [hg]; exact play_last _ o ho
  have h4 := four_new w (.cells #[.slice p l.length cap, .int .i64 fr, .int .i64 ct, .int .i64 vv] 52) (.cells #[.bool false] 4) (.cells #[.slice p l.length cap] 22) (.cells #[.int .i64 fr] 3) _ rfl
  have hGr := (fun hk => grown_any (((((w.alloc (.cells #[.slice p l.length cap, .int .i64 fr, .int .i64 ct, .int .i64 vv] 52)).alloc (.cells #[.bool false] 4)).alloc (.cells #[.slice p l.length cap] 22)).alloc (.cells #[.int .i64 fr] 3))) p l cap (hp.grown hk) hl) h4.2.2.2.2.2
  have hGr' := hGr.mono (R' := fun e w' => ∃ t, e = .returned (.tuple #[.pointer (some ⟨t, 0, none⟩), .bool true]) ∧ (∀ o, (w'.alloc o).cell? ⟨w.heap.size, 3, none⟩ = some (.int .i64 vv)) ∧ (∀ o1 o2 o3 o4, ((((w'.alloc o1).alloc o2).alloc o3).alloc o4).cell? ⟨w.heap.size + 1 + 1 + 1, 0, none⟩ = some (.int .i64 fr)) ∧ w.heap.size + 4 ≤ w'.heap.size ∧ Hid (w.heap.size + 4 ≤ t ∧ Keeps (fun _ => False) w w' ∧ TreeAt w' t g ∧
      w'.heap[w.heap.size]? = some (.cells #[.slice p l.length cap, .int .i64 fr, .int .i64 ct, .int .i64 vv] 52) ∧ w'.heap[w.heap.size + 1]? = some (.cells #[.bool false] 4) ∧ w'.heap[w.heap.size + 2]? = some (.cells #[.slice p l.length cap] 22) ∧ w'.heap[w.heap.size + 3]? = some (.cells #[.int .i64 fr] 3)))
    (fun e w' ⟨t, he, ht, hk, hT⟩ => by
      obtain ⟨b0, b1, b2, b3, hsz, hk0⟩ := h4
      rw [← hg] at hT
      have d0 := hk.at b0 id
      have d3 := hk.at b3 id
      exact ⟨t, he, fun o => by have := (Keeps.new w' o).at d0 id; simp [World.cell?, this], fun o1 o2 o3 o4 => ((((show Boxed w' _ _ _ from d3).alloc o1).alloc o2).alloc o3).alloc o4 |>.cell, by have := hk.size; omega, by omega, hk0.trans hk, hT, d0, hk.at b1 id, hk.at b2 id, d3⟩)
  clear hg h4 hGr
  have hLast : ∀ W (o : Int), Keeps (fun _ => False) w W → Calls Try.prog 14 #[.slice p l.length cap, .int .i64 o] W fun e w' => e = .returned (.int .i64 (lastV l o)) ∧ W = w' := fun W o hk => (last_any W p l cap o (hp.grown hk) hl).mono fun e w' ⟨h1, h2⟩ => ⟨h1, h2.symm⟩
  have hPlc : ∀ W (c : Int), Calls Try.prog 16 #[.int .i64 c, .int .i64 512] W fun e w' => e = .returned (.int .i64 (plc c 512)) ∧ W = w' := fun W c => (place_any c 512 W (by omega) (by omega)).mono fun e w' ⟨h1, h2⟩ => ⟨h1, h2.symm⟩
  have HP := Hid.mk' (And.intro hp hl)
  clear hp hl
  refine (callsIn_wide (n := 9)).1 ?_
  refine callsIn_of_wp_marks Try.func5 rfl trivial ?_ rfl
  simp only [Try.ntmps5, List.size_toArray, List.length_cons, List.length_nil, Nat.reduceAdd, Nat.reduceSub, Array.replicate_succ, Array.replicate_zero, List.push_toArray, List.append_toArray, List.nil_append, List.cons_append]
  have hvb : (vv == 0) = false := by simpa using hv0
  gi_wp2_with (first
    | (refine ⟨trivial, ?_⟩; gi_at_call 10; refine (callsIn_wide.2 (from_any _ _ _)).mono ?_; rintro e w' ⟨rfl, rfl⟩)
    | (refine ⟨trivial, ?_⟩; gi_at_call 9; refine (callsIn_wide.2 hGr').mono ?_; rintro e w1 ⟨t, rfl, y0, y1, hs1, H1⟩))
  have h6 := six_new w1 (.cells #[.pointer (some ⟨t, 0, none⟩)] 23) (.cells #[.int .i64 vv] 3) (.cells #[.int .i64 (-1)] 3) (.cells #[.int .i64 0] 3) (.cells #[.pointer (some ⟨t, 0, none⟩)] 23) (.cells #[.int .i64 fr] 3) _ rfl
  obtain ⟨W0, hW0⟩ : ∃ W0, (((((w1.alloc (.cells #[.pointer (some ⟨t, 0, none⟩)] 23)).alloc (.cells #[.int .i64 vv] 3)).alloc (.cells #[.int .i64 (-1)] 3)).alloc (.cells #[.int .i64 0] 3)).alloc (.cells #[.pointer (some ⟨t, 0, none⟩)] 23)).alloc (.cells #[.int .i64 fr] 3) = W0 := ⟨_, rfl⟩
  rw [hW0] at h6 ⊢
  clear hW0 y0 y1 hGr'
  obtain ⟨b0, b1, b2, b3, b4, b5, hK0⟩ := h6
  obtain ⟨ht4, hkw1, hT1, e0, e1, e2, e3⟩ := H1.out
  have htD : t < w1.heap.size := hT1.lt
  have c1 : W0.cell? ⟨w1.heap.size + 1 + 1 + 1 + 1, 0, none⟩ = some (.pointer (some ⟨t, 0, none⟩)) := (show Boxed W0 _ _ _ from b4).cell
  have c2 : W0.cell? ⟨w1.heap.size + 1 + 1 + 1 + 1 + 1, 0, none⟩ = some (.int .i64 fr) := (show Boxed W0 _ _ _ from b5).cell
  have hseq := from_stops 8 (w1.heap.size + 1 + 1 + 1 + 1) (w1.heap.size + 1 + 1 + 1 + 1 + 1) t fr g W0 c1 c2 (hT1.keep hK0)
  have hwW0 := hkw1.trans hK0
  have hLl := els_len g fr 0 512
  have hAm0 : AmAt W0 w.heap.size w1.heap.size (.slice p l.length cap) fr ct vv vv t (-1) 0 := ⟨hK0.at e0 id, hK0.at e1 id, hK0.at e2 id, hK0.at e3 id, b0, b1, b2, b3⟩
  obtain ⟨L, hLdef⟩ : ∃ L, els g fr 0 512 = L := ⟨_, rfl⟩
  have HLT : Hid (∀ pre x, pre ++ [x] <+: L → lastO pre < (x.1.val : Int) ∧ fr ≤ (x.1.val : Int) ∧ x.2 = g x.1.val ∧ x.2 ≠ 0) := fun pre x h => by rw [← hLdef] at h; exact lastO_lt h
  rw [hLdef] at hseq hLl
  refine wpIn_rangeFunc_ownG rfl (by decide) (gf := 31) (lb := #[.pointer (some ⟨w1.heap.size + 1 + 1 + 1 + 1, 0, none⟩), .pointer (some ⟨w1.heap.size + 1 + 1 + 1 + 1 + 1, 0, none⟩)]) rfl trivial (enters_of Try.func31 (by kernel_rfl) rfl)
    hseq (fun h k => h.trans k) (keepS_b W0) (Below.refl _ _) (fun _ => rfl)
    (AmI w w.heap.size w1.heap.size (.slice p l.length cap) fr ct vv vv t) (AmX L) (AmI.own hwW0.size) (fun _ _ _ _ _ hs _ _ => hs) ⟨hAm0, ⟨g, hT1.keep hK0, fun h => absurd h (by simp)⟩, hwW0⟩
    (fun x => { tmps := #[.agg #[.slice p l.length cap, .int .i64 fr, .int .i64 ct, .int .i64 vv], .pointer (some ⟨w.heap.size, 0, none⟩), .pointer (some ⟨w.heap.size + 1, 0, none⟩), .pointer (some ⟨w.heap.size + 1 + 1, 0, none⟩), .pointer (some ⟨w.heap.size + 1 + 1 + 1, 0, none⟩), .pointer (some ⟨w1.heap.size, 0, none⟩), .bool true, .pointer (some ⟨w1.heap.size + 1, 0, none⟩), .pointer (some ⟨w1.heap.size + 1 + 1, 0, none⟩), .pointer (some ⟨w1.heap.size + 1 + 1 + 1, 0, none⟩), .int .i64 (x.1.val : Int), .int .i64 x.2, undef, undef, .pointer (some ⟨w.heap.size, 0, none⟩), .slice p l.length cap, .pointer (some ⟨w.heap.size, 1, none⟩), .int .i64 fr, .tuple #[.pointer (some ⟨t, 0, none⟩), .bool true], .slice p l.length cap, .tuple #[.pointer (some ⟨t, 0, none⟩), .bool true], .pointer (some ⟨t, 0, none⟩), .bool true, .bool true, .bool false, .pointer (some ⟨w.heap.size, 3, none⟩), .int .i64 vv, .int .i64 vv, .bool false, .pointer (some ⟨t, 0, none⟩), .int .i64 fr, .func (.func 31) #[] #[.pointer (some ⟨w1.heap.size + 1 + 1 + 1 + 1, 0, none⟩), .pointer (some ⟨w1.heap.size + 1 + 1 + 1 + 1 + 1, 0, none⟩)], .int .i64 (x.1.val : Int), .int .i64 x.2, undef, undef, undef, undef, undef, undef, undef, undef, undef, undef, undef, undef, undef, undef, undef, undef, undef, undef, undef, undef, undef, undef, undef, undef, undef, undef, undef, undef, undef, undef, undef, undef, undef, undef, undef, undef, undef, undef, undef, undef, undef, undef, undef, undef, undef, undef, undef, undef, undef, undef, undef, undef, undef, undef, undef, undef, undef, undef, undef, undef, undef, undef, undef, undef, undef, undef, undef, undef], defers := [] }) ?assign ?body ?done ?halt
  case assign =>
    intro l x W K hK
    simp only [encs]
    gi_wp2
    simpa using hK
  case body =>
    rintro r pre x W ⟨hF, hTT, hk⟩ hl
    have hlt := HLT.out pre x
    have hbo := lastO_bd pre
    obtain ⟨d0, d1, d2, d3, d4, d5, d6, d7, d8, d9⟩ := hF.cells
    have hgx := hpl x.1.val x.1.isLt
    obtain ⟨⟨xo, hxo⟩, xv⟩ := x
    simp only at hlt hgx
    have hL : ∀ m, CallsIn (Fence.wide.inRound r) m Try.prog 14 #[.slice p l.length cap, .int .i64 (xo : Int)] W fun e w' => e = .returned (.int .i64 (lastV l (xo : Int))) ∧ W = w' := fun m => CallsIn.inRound r (callsIn_wide.2 (hLast W xo hk))
    rw [← hgx] at hL
    have HN := Hid.mk' hlt
    have hlp : (pre.length : Int) ≤ 512 := by omega
    obtain ⟨lo, hlo⟩ : ∃ lo, lastO pre = lo := ⟨_, rfl⟩
    obtain ⟨gx, hgx'⟩ : ∃ gx, g xo = gx := ⟨_, rfl⟩
    rw [hlo] at hlt hbo hF d5
    rw [hgx'] at hL hlt
    have HN := Hid.mk' (show pre ++ [(⟨xo, hxo⟩, xv)] <+: L → lo < (xo : Int) ∧ fr ≤ (xo : Int) ∧ xv = gx ∧ xv ≠ 0 from hlt)
    clear hlt hgx hlo hgx' hpl hLast HLT hseq hAm0 b0 b1 b2 b3 b4 b5 c1 c2 e0 e1 e2 e3 hT1 H1 hLdef hwW0
    by_cases q1 : (xo : Int) ≤ lo
    · gi_wp2_with (refine ⟨trivial, ?_⟩)
      exact ⟨(KeepsOthers.setCell _ _ _).from _, rfl, fun h => absurd (HN.out h).1 (by omega)⟩
    · by_cases q2 : (xo : Int) < fr
      · gi_wp2_with (refine ⟨trivial, ?_⟩)
        exact ⟨(KeepsOthers.setCell _ _ _).from _, rfl, fun h => absurd (HN.out h).2.1 (by omega)⟩
      · by_cases q3 : xv = gx
        · subst q3
          by_cases q4 : xv = 0
          · subst q4
            gi_wp2_with (refine ⟨trivial, ?_⟩; gi_at_call 14; refine (hL _).mono ?_; rintro e w5 ⟨rfl, hw⟩; subst hw)
            exact ⟨(KeepsOthers.setCell _ _ _).from _, rfl, fun h => absurd rfl (HN.out h).2.2.2⟩
          · have q4b : (xv == 0) = false := by simpa using q4
            obtain ⟨f, hT, _⟩ := hTT
            have hG := AmG.first (o := (xo : Int)) (m := pre.length + 1) hF hT (by omega) htD
            have n1 : (W.setCell ⟨w1.heap.size + 2, 0, none⟩ (.int .i64 (xo : Int))).cell? ⟨w1.heap.size + 3, 0, none⟩ = some (.int .i64 (pre.length : Int)) := (show Boxed _ _ _ _ from (one_keeps' W (w1.heap.size + 2) 0 (.int .i64 (xo : Int))).at hF.n (by omega)).cell
            have n2 : (W.setCell ⟨w1.heap.size + 2, 0, none⟩ (.int .i64 (xo : Int))).frozen? ⟨w1.heap.size + 3, 0, none⟩ = false := (show Boxed _ _ _ _ from (one_keeps' W (w1.heap.size + 2) 0 (.int .i64 (xo : Int))).at hF.n (by omega)).frozen
            simp only [Int.natCast_add, Int.natCast_one] at hG
            obtain ⟨m0, m1, m2, _⟩ := hG.1.cells
            have hCut : ∀ m, CallsIn (Fence.wide.inRound r) m Try.prog 11 #[.pointer (some ⟨t, 0, none⟩), .int .i64 ct] ((W.setCell ⟨w1.heap.size + 2, 0, none⟩ (.int .i64 (xo : Int))).setCell ⟨w1.heap.size + 3, 0, none⟩ (.int .i64 ((pre.length : Int) + 1))) fun e w' => ∃ s, e = .returned s ∧ Hid (AmG W w.heap.size w1.heap.size (.slice p l.length cap) fr ct vv vv t xo (pre.length + 1) (cutF f 0 ct) w') ∧ w'.cell? ⟨w1.heap.size, 0, none⟩ = some (.pointer (some ⟨t, 0, none⟩)) ∧ w'.cell? ⟨w1.heap.size + 1, 0, none⟩ = some (.int .i64 vv) := fun m => CallsIn.inRound r (callsIn_wide.2 ((cut_any _ t ct f hG.2.1).mono fun e w' ⟨s, he, h1, h2, _⟩ => by
              have := hG.turn ht4 htD h1 h2
              exact ⟨s, he, this, this.1.cells.1, this.1.cells.2.1⟩))
            have hSet : ∀ f1 Wc, Hid (AmG W w.heap.size w1.heap.size (.slice p l.length cap) fr ct vv vv t xo (pre.length + 1) f1 Wc) → ∀ m o, CallsIn (Fence.wide.inRound r) m Try.prog 12 #[.pointer (some ⟨t, 0, none⟩), .int .i64 o, .int .i64 vv] Wc.drew fun e w' => ∃ a b, e = .returned (.tuple #[.int .i64 a, .int .i64 b]) ∧ Hid (AmG W w.heap.size w1.heap.size (.slice p l.length cap) fr ct vv vv t xo (pre.length + 1) (setF f1 o vv) w') ∧ w'.cell? ⟨w1.heap.size, 0, none⟩ = some (.pointer (some ⟨t, 0, none⟩)) ∧ w'.cell? ⟨w1.heap.size + 1, 0, none⟩ = some (.int .i64 vv) := fun f1 Wc hc m o => CallsIn.inRound r (callsIn_wide.2 (by
              have hd := hc.out.same (Keeps.drewN (fun _ => False) Wc 1)
              exact (set_any _ t f1 o vv hd.2.1).mono fun e w' ⟨he, h1, h2⟩ => by
                have := hd.turn ht4 htD h1 h2
                exact ⟨_, _, he, this, this.1.cells.1, this.1.cells.2.1⟩))
            have hGet : ∀ f1 Wc, Hid (AmG W w.heap.size w1.heap.size (.slice p l.length cap) fr ct vv vv t xo (pre.length + 1) f1 Wc) → ∀ m o, CallsIn (Fence.wide.inRound r) m Try.prog 13 #[.pointer (some ⟨t, 0, none⟩), .int .i64 o] Wc.drew fun e w' => e = .returned (.int .i64 (getF f1 o)) ∧ Hid (AmG W w.heap.size w1.heap.size (.slice p l.length cap) fr ct vv vv t xo (pre.length + 1) f1 w') ∧ w'.cell? ⟨w1.heap.size + 1, 0, none⟩ = some (.int .i64 vv) := fun f1 Wc hc m o => CallsIn.inRound r (callsIn_wide.2 (by
              have hd := hc.out.same (Keeps.drewN (fun _ => False) Wc 1)
              exact (get_any _ t f1 o hd.2.1).mono fun e w' ⟨he, h1⟩ => by
                have := hd.same h1
                exact ⟨he, this, this.1.cells.2.1⟩))
            have hs1 : IntKind.i64.wrap ((xo : Int) + 1) = (xo : Int) + 1 := i64_id (by omega) (by omega)
            have hPl : ∀ Wc m c, c = (xo : Int) + 1 → CallsIn (Fence.wide.inRound r) m Try.prog 16 #[.int .i64 c, .int .i64 512] Wc fun e w' => e = .returned (.int .i64 (plc ((xo : Int) + 1) 512)) ∧ Wc = w' := fun Wc m c hc => by rw [hc]; exact CallsIn.inRound r (callsIn_wide.2 (hPlc Wc _))
            have hq := plc_lt ((xo : Int) + 1) (show 1 ≤ 512 by omega)
            have HQ : Hid (∀ f1 : Nat → Int, setF f1 (plc ((xo : Int) + 1) 512 : Int) vv (plc ((xo : Int) + 1) 512) = vv ∧ getF (setF f1 (plc ((xo : Int) + 1) 512 : Int) vv) (plc ((xo : Int) + 1) 512 : Int) = vv) := fun f1 => by
              have e : setF f1 (plc ((xo : Int) + 1) 512 : Int) vv (plc ((xo : Int) + 1) 512) = vv := by simp [setF, isOff_of hq, upd]
              exact ⟨e, by rw [getF_nat _ hq, e]⟩
            have HF := Hid.mk' (And.intro hF (And.intro hT hk))
            have hfol : Try.prog.follows .mixedOrders = true := by kernel_rfl
            have HCut := Hid.mk' hCut
            have HSet := Hid.mk' hSet
            have HGet : Hid (∀ Wc, Hid (AmG W w.heap.size w1.heap.size (.slice p l.length cap) fr ct vv vv t xo (pre.length + 1) (setF (cutF f 0 ct) (plc ((xo : Int) + 1) 512) vv) Wc) → ∀ m, CallsIn (Fence.wide.inRound r) m Try.prog 13 #[.pointer (some ⟨t, 0, none⟩), .int .i64 (plc ((xo : Int) + 1) 512)] Wc.drew fun e w' => e = .returned (.int .i64 vv) ∧ Hid (AmG W w.heap.size w1.heap.size (.slice p l.length cap) fr ct vv vv t xo (pre.length + 1) (setF (cutF f 0 ct) (plc ((xo : Int) + 1) 512) vv) w') ∧ w'.cell? ⟨w1.heap.size + 1, 0, none⟩ = some (.int .i64 vv)) := fun Wc hc m => by
              have := hGet _ Wc hc m (plc ((xo : Int) + 1) 512)
              rw [(HQ.out _).2] at this
              exact this
            have HPl := Hid.mk' hPl
            have HL := Hid.mk' hL
            clear hF hT hk hG hPlc HN hCut hSet hGet hPl hL hLl
            gi_wp2_with (first
              | (refine ⟨trivial, ?_⟩; gi_at_call 11; refine (HCut.out _).mono ?_; rintro e w6 ⟨s6, rfl, H6, z0, z1⟩)
              | (refine ⟨trivial, ?_⟩; gi_at_call 14; refine (HL.out _).mono ?_; rintro e w5 ⟨rfl, hw⟩; subst hw))
            clear n1 n2 m0 m1 m2 d0 d1 d2 d3 d4 d5 d6 d7 d8 d9
            refine wpIn_mono (Q := fun e a' w' => e = .normal ∧ ∃ a7 b7, a' = { tmps := #[.agg #[.slice p l.length cap, .int .i64 fr, .int .i64 ct, .int .i64 vv], .pointer (some ⟨w.heap.size, 0, none⟩), .pointer (some ⟨w.heap.size + 1, 0, none⟩), .pointer (some ⟨w.heap.size + 1 + 1, 0, none⟩), .pointer (some ⟨w.heap.size + 1 + 1 + 1, 0, none⟩), .pointer (some ⟨w1.heap.size, 0, none⟩), .bool true, .pointer (some ⟨w1.heap.size + 1, 0, none⟩), .pointer (some ⟨w1.heap.size + 1 + 1, 0, none⟩), .pointer (some ⟨w1.heap.size + 1 + 1 + 1, 0, none⟩), .int .i64 (xo : Int), .int .i64 xv, undef, undef, .pointer (some ⟨w.heap.size, 0, none⟩), .slice p l.length cap, .pointer (some ⟨w.heap.size, 1, none⟩), .int .i64 fr, .tuple #[.pointer (some ⟨t, 0, none⟩), .bool true], .slice p l.length cap, .tuple #[.pointer (some ⟨t, 0, none⟩), .bool true], .pointer (some ⟨t, 0, none⟩), .bool true, .bool true, .bool false, .pointer (some ⟨w.heap.size, 3, none⟩), .int .i64 vv, .int .i64 vv, .bool false, .pointer (some ⟨t, 0, none⟩), .int .i64 fr, .func (.func 31) #[] #[.pointer (some ⟨w1.heap.size + 1 + 1 + 1 + 1, 0, none⟩), .pointer (some ⟨w1.heap.size + 1 + 1 + 1 + 1 + 1, 0, none⟩)], .int .i64 (xo : Int), .int .i64 xv, .int .i64 (xo : Int), .int .i64 lo, .bool false, .bool false, .int .i64 (xo : Int), .int .i64 fr, .bool false, .bool false, .bool false, .int .i64 xv, .slice p l.length cap, .int .i64 (xo : Int), .int .i64 xv, .bool false, .bool false, .bool false, .int .i64 xv, .bool false, .bool false, .int .i64 (xo : Int), .int .i64 (pre.length : Int), .int .i64 ((pre.length : Int) + 1), .pointer (some ⟨t, 0, none⟩), .pointer (some ⟨w.heap.size, 2, none⟩), .int .i64 ct, s6, .pointer (some ⟨t, 0, none⟩), .int .i64 (xo : Int), .int .i64 ((xo : Int) + 1), .int .i64 (plc ((xo : Int) + 1) 512 : Int), .int .i64 vv, .tuple #[.int .i64 a7, .int .i64 b7], undef, undef, undef, undef, undef, undef, undef, undef, undef, undef, undef, undef, undef, undef, undef, undef, undef, undef, undef, undef, undef, undef, undef, undef, undef, undef, undef, undef, undef, undef, undef, undef, undef, undef, undef, undef], defers := [] } ∧ Hid (AmG W w.heap.size w1.heap.size (.slice p l.length cap) fr ct vv vv t xo (pre.length + 1) (setF (cutF f 0 ct) (plc ((xo : Int) + 1) 512) vv) w') ∧ w'.cell? ⟨w1.heap.size, 0, none⟩ = some (.pointer (some ⟨t, 0, none⟩)) ∧ w'.cell? ⟨w1.heap.size + 1, 0, none⟩ = some (.int .i64 vv)) ?_ ?_
            · refine wpIn_noPanic ?_
              gi_region_with_o (first
                | (refine ⟨trivial, ?_⟩; (try refine ⟨fun h => (by cases h), ?_⟩); gi_at_call 16; refine (HPl.out _ _ _ (by first | rfl | exact hs1)).mono ?_; rintro e w7 ⟨rfl, hw⟩; subst hw)
                | (refine ⟨trivial, ?_⟩; (try refine ⟨fun h => (by cases h), ?_⟩); gi_at_call 12; refine (HSet.out _ w6 H6 _ _).mono ?_; rintro e w7 ⟨a7, b7, rfl, H7, z2, z3⟩))
              all_goals exact NoPanic.normal ⟨rfl, a7, b7, rfl, H7, z2, z3⟩
            · rintro e a' w7 ⟨rfl, a7, b7, rfl, H7, z2, z3⟩
              clear z0 z1
              gi_wp2
              refine wpIn_mono (Q := fun e a' w' => e = .normal ∧ a' = { tmps := #[.agg #[.slice p l.length cap, .int .i64 fr, .int .i64 ct, .int .i64 vv], .pointer (some ⟨w.heap.size, 0, none⟩), .pointer (some ⟨w.heap.size + 1, 0, none⟩), .pointer (some ⟨w.heap.size + 1 + 1, 0, none⟩), .pointer (some ⟨w.heap.size + 1 + 1 + 1, 0, none⟩), .pointer (some ⟨w1.heap.size, 0, none⟩), .bool true, .pointer (some ⟨w1.heap.size + 1, 0, none⟩), .pointer (some ⟨w1.heap.size + 1 + 1, 0, none⟩), .pointer (some ⟨w1.heap.size + 1 + 1 + 1, 0, none⟩), .int .i64 (xo : Int), .int .i64 xv, undef, undef, .pointer (some ⟨w.heap.size, 0, none⟩), .slice p l.length cap, .pointer (some ⟨w.heap.size, 1, none⟩), .int .i64 fr, .tuple #[.pointer (some ⟨t, 0, none⟩), .bool true], .slice p l.length cap, .tuple #[.pointer (some ⟨t, 0, none⟩), .bool true], .pointer (some ⟨t, 0, none⟩), .bool true, .bool true, .bool false, .pointer (some ⟨w.heap.size, 3, none⟩), .int .i64 vv, .int .i64 vv, .bool false, .pointer (some ⟨t, 0, none⟩), .int .i64 fr, .func (.func 31) #[] #[.pointer (some ⟨w1.heap.size + 1 + 1 + 1 + 1, 0, none⟩), .pointer (some ⟨w1.heap.size + 1 + 1 + 1 + 1 + 1, 0, none⟩)], .int .i64 (xo : Int), .int .i64 xv, .int .i64 (xo : Int), .int .i64 lo, .bool false, .bool false, .int .i64 (xo : Int), .int .i64 fr, .bool false, .bool false, .bool false, .int .i64 xv, .slice p l.length cap, .int .i64 (xo : Int), .int .i64 xv, .bool false, .bool false, .bool false, .int .i64 xv, .bool false, .bool false, .int .i64 (xo : Int), .int .i64 (pre.length : Int), .int .i64 ((pre.length : Int) + 1), .pointer (some ⟨t, 0, none⟩), .pointer (some ⟨w.heap.size, 2, none⟩), .int .i64 ct, s6, .pointer (some ⟨t, 0, none⟩), .int .i64 (xo : Int), .int .i64 ((xo : Int) + 1), .int .i64 (plc ((xo : Int) + 1) 512 : Int), .int .i64 vv, .tuple #[.int .i64 a7, .int .i64 b7], .pointer (some ⟨t, 0, none⟩), .int .i64 (xo : Int), .int .i64 ((xo : Int) + 1), .int .i64 (plc ((xo : Int) + 1) 512 : Int), .int .i64 vv, .int .i64 vv, .bool false, undef, undef, undef, undef, undef, undef, undef, undef, undef, undef, undef, undef, undef, undef, undef, undef, undef, undef, undef, undef, undef, undef, undef, undef, undef, undef, undef, undef, undef], defers := [] } ∧ Hid (AmG W w.heap.size w1.heap.size (.slice p l.length cap) fr ct vv vv t xo (pre.length + 1) (setF (cutF f 0 ct) (plc ((xo : Int) + 1) 512) vv) w')) ?_ ?_
              · refine wpIn_noPanic ?_
                gi_region_with_o (first
                  | (refine ⟨trivial, ?_⟩; (try refine ⟨fun h => (by cases h), ?_⟩); gi_at_call 16; refine (HPl.out _ _ _ (by first | rfl | exact hs1)).mono ?_; rintro e w8 ⟨rfl, hw⟩; subst hw)
                  | (refine ⟨trivial, ?_⟩; (try refine ⟨fun h => (by cases h), ?_⟩); gi_at_call 13; refine (HGet.out w7 H7 _).mono ?_; rintro e w8 ⟨rfl, H8, z4⟩))
                all_goals exact NoPanic.normal ⟨rfl, rfl, H8⟩
              · rintro e a' w8 ⟨rfl, rfl, H8⟩
                gi_wp2
                exact AmG.post (x := (⟨xo, hxo⟩, xv)) HF.out.1 ⟨f, HF.out.2.1⟩ HF.out.2.2 H8.out ⟨by omega, by omega⟩ (HQ.out _).1
        · have q3b : (xv == gx) = false := by simpa using q3
          have q3c : (xv != gx) = true := by simpa using q3
          gi_wp2_with (refine ⟨trivial, ?_⟩; gi_at_call 14; refine (hL _).mono ?_; rintro e w5 ⟨rfl, hw⟩; subst hw)
          exact ⟨(KeepsOthers.setCell _ _ _).from _, rfl, fun h => absurd (HN.out h).2.2.1 q3⟩
  case done =>
    rintro D ys W hD hys ⟨hF, hTT, hk⟩ hK
    obtain rfl : L = ys := hys.symm
    obtain ⟨d0, d1, d2, d3, d4, d5, d6, d7, d8, d9⟩ := hF.cells
    have hL : ∀ (k : Nat) m, CallsIn Fence.wide m Try.prog 14 #[.slice p l.length cap, .int .i64 (k : Int)] W fun e w' => e = .returned (.int .i64 (lastV l (k : Int))) ∧ W = w' := fun k m => callsIn_wide.2 (hLast W k hk)
    have HLs := Hid.mk' hL
    have HB := Hid.mk' (And.intro hF (And.intro hTT (And.intro hk hK)))
    have HPLd := Hid.mk' hpl
    have HLD := Hid.mk' hLdef
    clear hL hLast HLT hseq hAm0 b0 b1 b2 b3 b4 b5 c1 c2 e0 e1 e2 e3 hT1 H1 hwW0 hF hTT hk hys hpl hLdef
    gi_wp2
    gi_loopw [12, 13] (fun u i wr => ∃ k : Nat, k ≤ 512 ∧ i = .int .i64 k ∧ u = .int .i64 ((els g fr 0 k).length : Int) ∧ wr = W) (fun _ i _ => 512 - (intOf i).toNat)
    case atStart => exact ⟨0, by omega, rfl, rfl, rfl⟩
    case round =>
      obtain ⟨k, hk, rfl, rfl, rfl⟩ := hrel
      by_cases h1 : k < 512
      · have h1' : (k : Int) < 512 := by omega
        have hs := els_succ g fr k h1
        have hln := els_len g fr 0 k
        by_cases hf : fr ≤ (k : Int)
        · have ha := HLs.out k
          rw [← HPLd.out k h1] at ha
          by_cases h0 : g k = 0
          · rw [if_neg (by simp [h0])] at hs
            rw [h0] at ha
            have HS := Hid.mk' hs
            clear hs
            gi_wp2_with (refine ⟨trivial, ?_⟩; gi_at_call 14; refine (ha _).mono ?_; rintro e w6 ⟨rfl, hw⟩; subst hw)
            go_roundw
            case rel => exact ⟨k + 1, by omega, by go_num, by rw [HS.out]; rfl, trivial⟩
            case measure => simp [intOf]; omega
          · rw [if_pos ⟨hf, h0⟩] at hs
            have h0b : (g k == 0) = false := by simpa using h0
            have HS := Hid.mk' hs
            clear hs
            gi_wp2_with (refine ⟨trivial, ?_⟩; gi_at_call 14; refine (ha _).mono ?_; rintro e w6 ⟨rfl, hw⟩; subst hw)
            go_roundw
            case rel => exact ⟨k + 1, by omega, by go_num, by rw [HS.out]; go_num, trivial⟩
            case measure => simp [intOf]; omega
        · rw [if_neg (by omega)] at hs
          have hf' : ¬ fr ≤ (k : Int) := hf
          have HS := Hid.mk' hs
          clear hs
          gi_wp2_with (refine ⟨trivial, ?_⟩)
          go_roundw
          case rel => exact ⟨k + 1, by omega, by go_num, by rw [HS.out]; rfl, trivial⟩
          case measure => simp [intOf]; omega
      · obtain rfl : k = 512 := by omega
        rw [HLD.out]
        have h1' : ¬ ((512 : Nat) : Int) < 512 := by omega
        have hfol : Try.prog.follows .mixedOrders = true := by kernel_rfl
        have HEnd : Hid (∀ w8, Keeps (fun _ => False) wr w8 → w8.cell? ⟨w.heap.size + 1, 0, none⟩ = some (.bool false) ∧ w8.frozen? ⟨w.heap.size + 1, 0, none⟩ = false ∧ (w8.setCell ⟨w.heap.size + 1, 0, none⟩ (.bool true)).heap[D]? = some (.deferred (some [])) ∧ ((w8.setCell ⟨w.heap.size + 1, 0, none⟩ (.bool true)).putObj D (.deferred none)).cell? ⟨w.heap.size + 1, 0, none⟩ = some (.bool true) ∧ Keeps (fun _ => False) w ((w8.setCell ⟨w.heap.size + 1, 0, none⟩ (.bool true)).putObj D (.deferred none))) := fun w8 hk8 => by
          obtain ⟨hF, _, hk, hK⟩ := HB.out
          have hF8 := hF.kept hk8
          have hK8 := hk8.at hK id
          have hr2 := Boxed.set (.bool true) hF8.r
          have hks := one_keeps' w8 (w.heap.size + 1) 0 (.bool true)
          have hkk := (hk.trans hk8).then hks (by rintro c rfl; right; omega)
          have hDw : w.heap.size ≤ D := by have := hK0.size; omega
          have hne : w.heap.size + 1 ≠ D := by rintro rfl; have hh := (show w8.heap[w.heap.size + 1]? = _ from hF8.r).symm.trans hK8; cases hh
          exact ⟨hF8.r.cell, hF8.r.frozen, (KeepsOthers.setCell w8 _ _).same D _ hK8 rfl, (show Boxed _ _ _ _ from (World.putObj_heap_other hne).trans hr2).cell,
            hkk.step (grownBy_putObj' (w8.setCell ⟨w.heap.size + 1, 0, none⟩ (.bool true)) D (.deferred none)) (by rintro k hk'; cases hk'; exact .inr hDw)⟩
        by_cases hz : L.length = 0
        · rw [hz] at d6 ⊢
          obtain ⟨x0, x1, x2, x3, x4⟩ := HEnd.out wr.drew (show Keeps (fun _ => False) wr wr.drew from Keeps.drewN (fun _ => False) wr 1)
          have HX := Hid.mk' (And.intro x2 (And.intro x3 x4))
          clear x2 x3 x4 hPlc
          gi_wp2
          refine wpIn_noPanic ?_
          gi_region_with_o (refine ⟨trivial, ?_⟩; (try refine ⟨fun h => (by cases h), ?_⟩))
          all_goals
            refine NoPanic.normal ?_
            gi_wp2
            refine ⟨by simp, .inl ⟨_, _, rfl, run_takeDeferred HX.out.1, ?_⟩⟩
            exact ⟨.bool true, by have this : ((wr.setCell ⟨w.heap.size + 1, 0, none⟩ (.bool true)).drew.putObj D (.deferred none)).cell? ⟨w.heap.size + 1, 0, none⟩ = some (.bool true) := HX.out.2.1; simp [results, Try.results5, go_sem, this], rfl, HX.out.2.2⟩
        · have hz' : ((L.length : Int) == 0) = false := by simpa using hz
          obtain ⟨hF, ⟨f, hT, hfv⟩, _, _⟩ := HB.out
          have hbo := lastO_bd L
          have hs1 : IntKind.i64.wrap (lastO L + 1) = lastO L + 1 := i64_id (by omega) (by omega)
          have hq := plc_lt (lastO L + 1) (show 1 ≤ 512 by omega)
          have hGet : ∀ n, Calls Try.prog 13 #[.pointer (some ⟨t, 0, none⟩), .int .i64 (plc (lastO L + 1) 512)] (wr.drewN n) fun e w' => e = .returned (.int .i64 vv) ∧ Hid (Keeps (fun _ => False) wr w') ∧ w'.cell? ⟨w1.heap.size + 1, 0, none⟩ = some (.int .i64 vv) ∧ w'.cell? ⟨w.heap.size + 1, 0, none⟩ = some (.bool false) ∧ w'.frozen? ⟨w.heap.size + 1, 0, none⟩ = false := fun n => by
            have hkn := Keeps.drewN (fun _ => False) wr n
            refine (get_any (wr.drewN n) t f _ (hT.keep hkn)).mono fun e w' ⟨h1, h2⟩ => ?_
            rw [getF_nat f hq, hfv (by omega)] at h1
            have hk2 := hkn.trans h2
            exact ⟨h1, hk2, hk2.cell d1 id, (HEnd.out w' hk2).1, (HEnd.out w' hk2).2.1⟩
          have hPl : ∀ W c, c = lastO L + 1 → Calls Try.prog 16 #[.int .i64 c, .int .i64 512] W fun e w' => e = .returned (.int .i64 (plc (lastO L + 1) 512)) ∧ W = w' := fun W c hc => by rw [hc]; exact hPlc W _
          have HGt := Hid.mk' hGet
          have HPl := Hid.mk' hPl
          clear hGet hPl hPlc hF hT hfv
          gi_wp2
          refine wpIn_noPanic ?_
          gi_region_with_o (first
            | (refine ⟨trivial, ?_⟩; (try refine ⟨fun h => (by cases h), ?_⟩); gi_at_call 16; refine (callsIn_wide.2 (HPl.out _ _ (by first | rfl | exact hs1))).mono ?_; rintro e w8 ⟨rfl, hw⟩; subst hw)
            | (refine ⟨trivial, ?_⟩; (try refine ⟨fun h => (by cases h), ?_⟩); gi_at_call 13; refine (callsIn_wide.2 (HGt.out 1)).mono ?_; rintro e w8 ⟨rfl, H8, z3, z4, z5⟩))
          all_goals
            refine NoPanic.normal ?_
            obtain ⟨_, _, x2, x3, x4⟩ := HEnd.out _ H8.out
            gi_wp2
            refine ⟨by simp, .inl ⟨_, _, rfl, run_takeDeferred x2, ?_⟩⟩
            exact ⟨.bool true, by simp [results, Try.results5, go_sem, x3], rfl, x4⟩
  case halt =>
    rintro D c pre W _ hS ⟨_, hn⟩ _
    exact absurd hS hn

end Go.Proofs.Ytndojlacdggfcaa
