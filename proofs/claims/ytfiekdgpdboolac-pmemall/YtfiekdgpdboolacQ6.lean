import Derived.Test.YtfiekdgpdboolacQ5
namespace Go.Proofs.Ytfiekdgpdboolac
open Go.RowKit Go.Maps

/-- How many of the first words have news. -/
def cntW (nw : Nat → List Int) : Nat → Nat
  | 0 => 0
  | t + 1 => cntW nw t + (if nw t = [] then 0 else 1)

theorem cntW_le (nw : Nat → List Int) (t : Nat) : cntW nw t ≤ t := by
  induction t with
  | zero => simp [cntW]
  | succ t ih => simp only [cntW]; split <;> omega

/-- The value that a choice takes. -/
def pickW (o : Int) (nw cs : List Int) (c : Nat) : Int := if 0 < cs.getD c 0 % (nw.length + 1 : Int) then nw.getD ((cs.getD c 0 % (nw.length + 1 : Int)).toNat - 1) 0 else o

def Rf.oldW (R : Rf) (t : Nat) : Int := R.old (t / 8) (t % 8)
def Rf.newsW (R : Rf) (t : Nat) : List Int := R.news (t / 8) (t % 8)
def Rf.crashW (R : Rf) (cs : List Int) (t : Nat) : Int := pickW (R.oldW t) (R.newsW t) cs (cntW R.newsW t)

theorem rwordW_any (w : World) (F : Nat → Prop) (r : Nat) (R : Rf) (M : RLay) (a t : Nat) (h : RefAt w F r R M) (ha : a = 8 * t) (ht : t < 8 * R.n) (hn : R.now ≤ 1000000000) :
    Calls Try.prog 52 #[.pointer (some ⟨r, 0, none⟩), .int .i64 a] w fun e w' => ∃ p c, e = .returned (.tuple #[.int .u64 (R.oldW t), .slice p (R.newsW t).length c]) ∧ (0 < (R.newsW t).length → ∃ g, p = some ⟨g, 0, none⟩ ∧ w.heap.size ≤ g ∧ w'.ownsRow w.heap.size 28 1 (.slice (some ⟨g, 0, none⟩) (R.newsW t).length c) (R.newsW t).length (u64s (R.newsW t))) ∧ Keeps (fun _ => False) w w' := by
  refine (rword_any w F r R M a (t / 8) (t % 8) h (by omega) (by omega) (by omega) hn).mono ?_
  rintro e w' ⟨v, rfl, hown, hk⟩
  obtain ⟨p, c, hv, hp⟩ := row_form hown
  refine ⟨p, c, by rw [hv]; rfl, fun h0 => ?_, hk⟩
  obtain ⟨g, rfl⟩ := hp h0
  rw [hv] at hown
  exact ⟨g, rfl, (hown.lt g rfl).1, hown⟩

theorem newsW_len {w : World} {F : Nat → Prop} {r : Nat} {R : Rf} {M : RLay} (h : RefAt w F r R M) (t : Nat) (ht : t < 8 * R.n) : ((R.newsW t).length : Int) ≤ R.now := by
  have h1 := newsOf_len (t % 8 : Nat) (R.settled (t / 8)) (R.puts (t / 8))
  have h2 := h.plen (t / 8) (by omega)
  show ((newsOf _ _ _).length : Int) ≤ _
  omega

set_option maxHeartbeats 4000000 in
set_option maxRecDepth 20000 in
theorem rcrash_any (w : World) (F : Nat → Prop) (r : Nat) (R : Rf) (M : RLay) (p : Option Addr) (cap : Nat) (cs : List Int) (h : RefAt w F r R M) (hn : R.now ≤ 1000000000) (hl : cs.length ≤ maxLen)
    (hcs : 0 < cs.length → ∃ cb co, p = some ⟨cb, co, none⟩ ∧ cb < w.heap.size ∧ ∀ i, i < cs.length → w.cell? ⟨cb, co + i, none⟩ = some (.int .i64 (cs.getD i 0))) :
    Calls Try.prog 18 #[.pointer (some ⟨r, 0, none⟩), .slice p cs.length cap] w fun e w' => e = .returned (.slice (some ⟨w.heap.size, 0, none⟩) (64 * R.n : Nat) (64 * R.n : Nat)) ∧ w'.heap[w.heap.size]? = some (.cells (u8s (wordsB (R.crashW cs) (64 * R.n))).toArray 5 (0, 0)) ∧ Keeps (fun _ => False) w w' := by
  have hnn := h.nn
  unfold maxLen at hl
  obtain ⟨N, hN⟩ : ∃ N : Nat, N = 64 * R.n := ⟨_, rfl⟩
  have hsz : ∀ wr, RefAt wr F r R M → Calls Try.prog 24 #[.pointer (some ⟨r, 0, none⟩)] wr fun e w' => e = .returned (.int .i64 (N : Int)) ∧ w' = wr := fun wr h => by
    have := rsize_any wr F r R M h
    rw [show (64 * (R.n : Int)) = (N : Int) by omega] at this
    exact this
  have hs0 := hsz w h
  obtain ⟨i0, hi, hz0, hz1, hz2⟩ := info_parts info5
  have HI : Hid (i0.bytes = 1) := hz2
  have HR := Hid.mk' h
  have HSZ := Hid.mk' hsz
  have HNN := Hid.mk' hN
  have HCS := Hid.mk' hcs
  have hNb : N ≤ 524288 := by omega
  rw [← hN]
  clear h hN hz2 hsz hcs
  go_enter Try.func18, Try.ntmps18
  go_wp2_with (first
    | (go_at_call 24; refine hs0.mono ?_; rintro e w' ⟨rfl, hw⟩; subst w'; clear hs0)
    | (at_make; go_must (refine wpList_make_row _ rfl _ _ 29 rfl 5 i0 (.int .u8 0) Try.underlying29 hi hz0 hz1 rfl .i64 .i64 N rfl rfl (by have := HI.out; rw [this]; omega) (by omega) ?_); rw [made_list]))
  go_loopw [6, 7] (fun c i wr => ∃ t : Nat, 8 * t ≤ N ∧ i = .int .i64 ((8 * t : Nat) : Int) ∧ c = .int .i64 (cntW R.newsW t : Nat) ∧ Hid (wr.heap[w.heap.size]? = some (.cells (u8s (wordsTo (R.crashW cs) N t)).toArray 5 (0, 0)) ∧ Keeps (fun _ => False) w wr)) (fun _ i _ => N - (intOf i).toNat)
  case atStart => exact ⟨0, by omega, rfl, rfl, by rw [wordsTo_zero, u8s_zero]; exact (MapKept.heap_alloc w _).1, Keeps.of (World.grownBy_alloc w _ none) (by simp)⟩
  case round =>
    obtain ⟨t, ht, rfl, rfl, hrel⟩ := hrel
    have hr1 := HR.out.kept hrel.out.2 (by simp)
    have hs1 := HSZ.out wr hr1
    have hN := HNN.out
    obtain ⟨a, ha⟩ : ∃ a : Nat, a = 8 * t := ⟨_, rfl⟩
    rw [← ha]
    have hcb := cntW_le R.newsW t
    by_cases hlt : 8 * t < N
    · have hlt' : (a : Int) < (N : Int) := by omega
      have hwo := rwordW_any wr F r R M a t hr1 ha (by omega) hn
      have hnl := newsW_len hr1 t (by omega)
      have HPU : Hid (∀ w2, Keeps (fun _ => False) wr w2 → Calls Try.prog 54 #[.slice (some ⟨w.heap.size, 0, none⟩) N N, .int .i64 a, .int .u64 (R.crashW cs t)] w2 fun e w' => e = .returned (.tuple #[]) ∧ w'.heap[w.heap.size]? = some (.cells (u8s (wordsTo (R.crashW cs) N (t + 1))).toArray 5 (0, 0)) ∧ Keeps (fun _ => False) w w') := fun w2 hk2 => by
        have hb := (hk2.block _ (heap_lt hrel.out.1) (by simp)).trans hrel.out.1
        have := rput_any w.heap.size N a (R.crashW cs t) (wordsTo (R.crashW cs) N t) w2 hb (wordsTo_len _ _ _) (by omega) (by omega)
        rw [ha, wordsTo_step _ _ _ _ rfl, ← ha] at this
        exact this.mono fun e w' ⟨e1, e2, e3⟩ => ⟨e1, e2, (hrel.out.2.trans hk2).step e3 (by simp)⟩
      have HA := Hid.mk' (show a = 8 * t ∧ 8 * t < N ∧ N = 64 * R.n from ⟨ha, hlt, hN⟩)
      have hcl := HCS.out
      have HK1 := Hid.mk' hrel.out.2
      have HCW : Hid (R.crashW cs t = pickW (R.oldW t) (R.newsW t) cs (cntW R.newsW t)) := rfl
      have HCN : Hid (cntW R.newsW (t + 1) = cntW R.newsW t + (if R.newsW t = [] then 0 else 1)) := rfl
      generalize R.crashW cs t = X at HPU HCW
      generalize R.newsW t = nw at *
      generalize R.oldW t = ow at *
      generalize cntW R.newsW t = ct at *
      have hctb : (ct : Int) ≤ 65536 := by omega
      clear ha hlt ht hN hr1 hrel
      by_cases hn0 : nw.length = 0
      · have hg0 : ¬ (0 : Int) < (nw.length : Int) := by omega
        have e0 : nw = [] := List.length_eq_zero_iff.1 hn0
        have eX : X = ow := by rw [HCW.out, e0]; simp [pickW, Int.emod_one]
        have eC : cntW R.newsW (t + 1) = ct := by rw [HCN.out, if_pos e0]; omega
        have HC := Hid.mk' eC
        subst eX
        clear hn0 e0 eC
        go_wp2_with (first
          | (go_at_call 24; refine hs1.mono ?_; rintro e w' ⟨rfl, hw⟩; subst w'; clear hs1)
          | (go_at_call 52; refine hwo.mono ?_; rintro e w2 ⟨vp, vc, rfl, hv2, hk2⟩
             clear hv2
             have hpu := HPU.out w2 hk2
             clear hwo hk2)
          | (go_at_call 54; refine hpu.mono ?_; rintro e w4 ⟨rfl, hb4, hg4⟩; have H4 := Hid.mk' (show _ ∧ _ from ⟨hb4, hg4⟩); clear hpu hb4 hg4))
        go_roundw
        case rel =>
          obtain ⟨q1, q2, q3⟩ := HA.out
          refine ⟨t + 1, by omega, ?_, ?_, H4.out.1, H4.out.2⟩
          · rw [q1]; first | (congr 1; omega) | go_num
          · first | (rw [HC.out]; done) | (rw [HC.out]; go_num)
        case measure => simp [intOf]; omega
      · have hg0 : (0 : Int) < (nw.length : Int) := by omega
        have eC : cntW R.newsW (t + 1) = ct + 1 := by rw [HCN.out, if_neg (fun e => hn0 (by rw [e]; rfl))]
        have HC := Hid.mk' eC
        have hpos : 0 < nw.length := by omega
        clear hn0 eC
        by_cases hck : ct < cs.length
        · have hck' : (ct : Int) < (cs.length : Int) := by omega
          have hc0 : (0 : Int) ≤ (ct : Int) := by omega
          obtain ⟨cb, co, rfl, hcb1, hcc⟩ := hcl (by omega)
          have hce := hcc ct hck
          have hre := fun w => rrest_any (cs.getD ct 0) ((nw.length : Int) + 1) w (by omega) (by omega)
          obtain ⟨rr, hrr⟩ : ∃ rr : Nat, cs.getD ct 0 % ((nw.length : Int) + 1) = (rr : Int) := Int.eq_ofNat_of_zero_le (Int.emod_nonneg _ (by omega))
          have hrl : (rr : Int) < (nw.length : Int) + 1 := by rw [← hrr]; exact Int.emod_lt_of_pos _ (by omega)
          have eX : X = if 0 < (rr : Int) then nw.getD (rr - 1) 0 else ow := by rw [HCW.out]; unfold pickW; rw [hrr]; rfl
          rw [hrr] at hre
          have HCE := Hid.mk' hce
          clear hcl hcc hck hrr hce
          by_cases hr0 : 0 < rr
          · have hr1 : (0 : Int) < (rr : Int) := by omega
            obtain ⟨j, rfl⟩ : ∃ j, rr = j + 1 := ⟨rr - 1, by omega⟩
            have eX2 : X = nw.getD j 0 := by rw [eX, if_pos hr1]; rfl
            have hj1 : ((j + 1 : Nat) : Int) - 1 = (j : Int) := by omega
            have hj2 : (0 : Int) ≤ (j : Int) := by omega
            have hj3 : (j : Int) < (nw.length : Int) := by omega
            have hj4 : IntKind.i64.wrap (j : Int) = (j : Int) := wrap_id (by omega) (by omega)
            have hjl : j < nw.length := by omega
            have HX2 := Hid.mk' eX2
            clear eX hr0 eX2
            go_wp2_with (first
              | (go_at_call 24; refine hs1.mono ?_; rintro e w' ⟨rfl, hw⟩; subst w'; clear hs1)
              | (go_at_call 52; refine hwo.mono ?_; rintro e w2 ⟨vp, vc, rfl, hv2, hk2⟩
                 have hce := (HK1.out.trans hk2).cell HCE.out (by simp)
                 obtain ⟨g, rfl, hg2, hown2⟩ := hv2 hpos
                 have hnj := (hown2.cellAt j (by omega)).trans (show (u64s nw)[j]? = some (.int .u64 X) by rw [HX2.out]; simp [u64s, List.getD_eq_getElem?_getD, hjl])
                 clear hv2 hown2
                 have hpu := HPU.out w2 hk2
                 clear hwo hk2)
              | (go_at_call 53; refine (hre _).mono ?_; rintro e w' ⟨rfl, hw⟩; subst w')
              | (go_at_call 54; refine hpu.mono ?_; rintro e w4 ⟨rfl, hb4, hg4⟩; have H4 := Hid.mk' (show _ ∧ _ from ⟨hb4, hg4⟩); clear hpu hb4 hg4))
            go_roundw
            case rel =>
              obtain ⟨q1, q2, q3⟩ := HA.out
              refine ⟨t + 1, by omega, ?_, ?_, H4.out.1, H4.out.2⟩
              · rw [q1]; first | (congr 1; omega) | go_num
              · first | (rw [HC.out]; done) | (rw [HC.out]; go_num)
            case measure => simp [intOf]; omega
          · have hr1 : ¬ (0 : Int) < (rr : Int) := by omega
            have hr2 : rr = 0 := by omega
            subst hr2
            obtain rfl : X = ow := by rw [eX, if_neg hr1]
            clear eX hr0
            go_wp2_with (first
              | (go_at_call 24; refine hs1.mono ?_; rintro e w' ⟨rfl, hw⟩; subst w'; clear hs1)
              | (go_at_call 52; refine hwo.mono ?_; rintro e w2 ⟨vp, vc, rfl, hv2, hk2⟩
                 have hce := (HK1.out.trans hk2).cell HCE.out (by simp)
                 clear hv2
                 have hpu := HPU.out w2 hk2
                 clear hwo hk2)
              | (go_at_call 53; refine (hre _).mono ?_; rintro e w' ⟨rfl, hw⟩; subst w')
              | (go_at_call 54; refine hpu.mono ?_; rintro e w4 ⟨rfl, hb4, hg4⟩; have H4 := Hid.mk' (show _ ∧ _ from ⟨hb4, hg4⟩); clear hpu hb4 hg4))
            go_roundw
            case rel =>
              obtain ⟨q1, q2, q3⟩ := HA.out
              refine ⟨t + 1, by omega, ?_, ?_, H4.out.1, H4.out.2⟩
              · rw [q1]; first | (congr 1; omega) | go_num
              · first | (rw [HC.out]; done) | (rw [HC.out]; go_num)
            case measure => simp [intOf]; omega
        · have hck' : ¬ (ct : Int) < (cs.length : Int) := by omega
          have eX : X = ow := by
            rw [HCW.out]; unfold pickW
            have : cs.getD ct 0 = 0 := by simp [List.getD_eq_getElem?_getD, List.getElem?_eq_none (show cs.length ≤ ct by omega)]
            rw [this, Int.zero_emod, if_neg (by omega)]
          subst eX
          clear hcl hck
          go_wp2_with (first
            | (go_at_call 24; refine hs1.mono ?_; rintro e w' ⟨rfl, hw⟩; subst w'; clear hs1)
            | (go_at_call 52; refine hwo.mono ?_; rintro e w2 ⟨vp, vc, rfl, hv2, hk2⟩
               clear hv2
               have hpu := HPU.out w2 hk2
               clear hwo hk2)
            | (go_at_call 54; refine hpu.mono ?_; rintro e w4 ⟨rfl, hb4, hg4⟩; have H4 := Hid.mk' (show _ ∧ _ from ⟨hb4, hg4⟩); clear hpu hb4 hg4))
          go_roundw
          case rel =>
            obtain ⟨q1, q2, q3⟩ := HA.out
            refine ⟨t + 1, by omega, ?_, ?_, H4.out.1, H4.out.2⟩
            · rw [q1]; first | (congr 1; omega) | go_num
            · first | (rw [HC.out]; done) | (rw [HC.out]; go_num)
          case measure => simp [intOf]; omega
    · have hlt' : ¬ (a : Int) < (N : Int) := by omega
      have e1 : wordsTo (R.crashW cs) N t = wordsB (R.crashW cs) N := wordsTo_all _ _ _ (by omega)
      have HF := Hid.mk' (show wr.heap[w.heap.size]? = some (.cells (u8s (wordsB (R.crashW cs) N)).toArray 5 (0, 0)) ∧ Keeps (fun _ => False) w wr from ⟨by rw [← e1]; exact hrel.out.1, hrel.out.2⟩)
      generalize cntW R.newsW t = ct at *
      clear ha hlt ht hN hr1 hrel e1
      go_wp2_with (first
        | (go_at_call 24; refine hs1.mono ?_; rintro e w' ⟨rfl, hw⟩; subst w'; clear hs1))
      go_ret
      exact ⟨rfl, HF.out⟩

end Go.Proofs.Ytfiekdgpdboolac
