import Derived.Test.YtnafocbgapianabZ2
import Derived.Test.YtnafocbgapianabZ3
namespace Go.Proofs.Ytnafocbgapianab
open Go.RowKit

/-- What holds of a take of the document's pool under way. -/
structure RTaking (s : Sh) (n e g cap B : Nat) (w : World) (X : (Nat → Bool) × Nat × List Nat) (v : Value) (wr : World) : Prop where
  pool : RpAt wr e (.slice (some ⟨g, 0, none⟩) s.pages cap) s X.1
  list : SpAt wr B v (X.2.2.foldl addP [])
  keep : Keeps (fun k => k = g ∨ B ≤ k) w wr
  num : X.2.2.length + X.2.1 = n
  low : ∀ p ∈ X.2.2, p < s.pages

section
variable {s : Sh} {n e g cap B : Nat} {w : World} {v : Value} {wr wx : World}

theorem RTaking.grown {X : (Nat → Bool) × Nat × List Nat} (h : RTaking s n e g cap B w X v wr) (k : Keeps (fun k => wr.heap.size ≤ k) wr wx) (hB : B ≤ w.heap.size) : RTaking s n e g cap B w X v wx := by
  have hs := h.keep.size
  refine ⟨h.pool.grown k, h.list.kept k ?_, h.keep.then k (fun k hk => by left; right; omega), h.num, h.low⟩
  intro g hg hx
  have := (h.list.lt g hg).2
  omega
theorem RTaking.turned {SZ : Nat → Bool} {m i : Nat} {TZ : List Nat} (h : RTaking s n e g cap B w (SZ, m, TZ) v wr) (hge : g ≠ e) (hgB : g < B) : RTaking s n e g cap B w (upd SZ i false, m, TZ) v (wr.setCell ⟨g, i, none⟩ (.bool false)) := by
  have ht := h.pool.turn i false hge (sup_upd h.pool.sup)
  refine ⟨ht.1, h.list.kept ht.2 ?_, h.keep.then ht.2 (fun k hk => by left; left; exact hk), h.num, h.low⟩
  intro g' hg' hd
  have := (h.list.lt g' hg').1
  omega
theorem RTaking.listed {m p : Nat} {SZ : Nat → Bool} {TZ : List Nat} {v6 : Value} (h : RTaking s n e g cap B w (SZ, m + 1, TZ) v wr) (h1 : SpAt wx B v6 (addP (TZ.foldl addP []) p)) (h2 : Keeps (fun k => v.ownBlock = some k) wr wx) (hgB : g < B) (heB : e < B) (hp : p < s.pages) : RTaking s n e g cap B w (SZ, m, TZ ++ [p]) v6 wx := by
  have hn := h.num
  simp only at hn
  refine ⟨h.pool.kept h2 ?_ ?_, by rw [List.foldl_append]; exact h1, h.keep.then h2 (fun k hk => by left; right; exact (h.list.lt k hk).1), by simp; omega, ?_⟩
  · intro hd
    have := (h.list.lt e hd).1
    omega
  · intro g' hg' hd
    cases hg'
    have := (h.list.lt g hd).1
    omega
  · intro q hq
    rcases List.mem_append.1 hq with hq | hq
    · exact h.low q hq
    · simp at hq; omega
end

set_option maxHeartbeats 2000000 in
theorem rtake_range (w : World) (e : Nat) (v : Value) (s : Sh) (S : Nat → Bool) (h : RpAt w e v s S) (core n : Int) (hc : ¬ ((0 ≤ core ∧ core < s.cores) ∧ 0 ≤ n)) :
    Calls Try.prog 59 #[.pointer (some ⟨e, 0, none⟩), .int .i64 core, .int .i64 n] w fun r w' => r = .returned (.tuple #[.slice none 0 0, .int .i64 52]) ∧ w' = w := by
  obtain ⟨_, _, c2, _, _⟩ := h.cells
  clear h
  by_cases h1 : core < 0
  · clear hc
    go_enter Try.func59, Try.ntmps59
    go_wp2
    go_ret2
    exact ⟨rfl, rfl⟩
  · by_cases h2 : (s.cores : Int) ≤ core
    · clear hc
      go_enter Try.func59, Try.ntmps59
      go_wp2
      go_ret2
      exact ⟨rfl, rfl⟩
    · have h3 : n < 0 := by omega
      clear hc
      go_enter Try.func59, Try.ntmps59
      go_wp2
      go_ret2
      exact ⟨rfl, rfl⟩

set_option maxHeartbeats 2000000 in
theorem rtake_full (w : World) (e : Nat) (v : Value) (s : Sh) (S : Nat → Bool) (h : RpAt w e v s S) (core n : Int) (h1 : 0 ≤ core ∧ core < s.cores) (hn : (cn S s.pages : Int) < n) :
    Calls Try.prog 59 #[.pointer (some ⟨e, 0, none⟩), .int .i64 core, .int .i64 n] w fun r w' => r = .returned (.tuple #[.slice none 0 0, .int .i64 50]) ∧ w' = w := by
  obtain ⟨_, _, c2, _, _⟩ := h.cells
  have hf := rfree_any w e v s S h
  have a1 : ¬ core < 0 := by omega
  have a2 : ¬ (s.cores : Int) ≤ core := by omega
  have a3 : ¬ n < 0 := by omega
  generalize cn S s.pages = q at *
  clear h h1
  go_enter Try.func59, Try.ntmps59
  go_wp2_with (first | (go_at_call 73; refine hf.mono ?_; clear hf; rintro r w1 ⟨rfl, hw⟩; subst w1))
  go_ret2
  exact ⟨rfl, rfl⟩

set_option maxHeartbeats 4000000 in
set_option maxRecDepth 20000 in
theorem rtake_yes (w : World) (e : Nat) (v : Value) (s : Sh) (S : Nat → Bool) (h : RpAt w e v s S) (core n : Nat) (hc : core < s.cores) (hn : n ≤ cn S s.pages) :
    Calls Try.prog 59 #[.pointer (some ⟨e, 0, none⟩), .int .i64 core, .int .i64 n] w fun r w' => ∃ x, r = .returned (.tuple #[x, .int .i64 0]) ∧ SpAt w' w.heap.size x ((tk s core S n).2.2.foldl addP []) ∧ RpAt w' e v s (tk s core S n).1 ∧ Keeps (fun k => v.ownBlock = some k ∨ w.heap.size ≤ k) w w' := by
  obtain ⟨_, _, c2, _, _⟩ := h.cells
  have hf := rfree_any w e v s S h
  have hg := h.good
  have h8 : s.cores ≤ 8 := hg.2.2.2.2.2.2.1
  have h1 : 1 ≤ s.cores := hg.2.2.2.2.2.1
  have hpg : s.pages ≤ 1024 := hg.2.1
  have hel := heap_lt h.at_
  obtain ⟨g, cap, rfl, hgl, _, _, hge⟩ := h.form
  have HG := Hid.mk' hg
  have HT0 : Hid (RTaking s n e g cap w.heap.size w (S, n, []) (.slice none 0 0) w) := ⟨h, SpAt.nil _ _, Keeps.refl _ _, by simp, by simp⟩
  have a1 : ¬ (core : Int) < 0 := by omega
  have a2 : ¬ (s.cores : Int) ≤ (core : Int) := by omega
  have a3 : ¬ (n : Int) < 0 := by omega
  have a4 : ¬ (cn S s.pages : Int) < (n : Int) := by omega
  have hcl := cn_le S s.pages
  have hn1 : n ≤ 1024 := by omega
  generalize cn S s.pages = q at *
  clear h hg
  go_enter Try.func59, Try.ntmps59
  go_wp2_with (first | (go_at_call 73; refine hf.mono ?_; clear hf; rintro r w1 ⟨rfl, hw⟩; subst w1))
  clear a1 a2 a3 a4 hn hcl
  go_loopw [9, 10, 11] (fun lv gv kv wr => ∃ (t : Nat) (SY : Nat → Bool) (nY : Nat) (TY : List Nat), t ≤ s.cores ∧ kv = .int .i64 (t : Nat) ∧ gv = .int .i64 (TY.length : Nat) ∧ Hid ((ordTo s core t).foldl stp (S, n, []) = (SY, nY, TY) ∧ RTaking s n e g cap w.heap.size w (SY, nY, TY) lv wr)) (fun _ _ i _ => s.cores - (intOf i).toNat)
  case atStart => exact ⟨0, S, n, [], by omega, rfl, rfl, rfl, HT0.out⟩
  case round =>
    obtain ⟨t, SY, nY, TY, ht, rfl, rfl, hrel⟩ := hrel
    have hT := hrel.out.2
    obtain ⟨_, _, q2, _, _⟩ := hT.pool.cells
    by_cases hlt : t < s.cores
    · have hlt' : (t : Int) < (s.cores : Int) := by omega
      have hmod : ((core : Int) + (t : Int)).tmod (s.cores : Int) = (((core + t) % s.cores : Nat) : Int) := by
        rw [Int.tmod_eq_emod_of_nonneg (by omega)]; rfl
      have hsum : IntKind.i64.wrap ((core : Int) + (t : Int)) = (core : Int) + (t : Int) := i64_id (by omega) (by omega)
      have hml : (core + t) % s.cores < s.cores := Nat.mod_lt _ (by omega)
      have harea := rarea_yes wr e _ s SY hT.pool ((core + t) % s.cores) hml
      have hm2 : IntKind.i64.wrap (((core + t) % s.cores : Nat) : Int) = (((core + t) % s.cores : Nat) : Int) := i64_id (by omega) (by omega)
      have hnz : ¬ (s.cores : Int) = 0 := by omega
      have hnz2 : ¬ s.cores = 0 := by omega
      have hb1 := bord_lt HG.out ((core + t) % s.cores)
      have hb2 := bord_le HG.out (show (core + t) % s.cores + 1 ≤ s.cores by omega)
      have HA : Hid (ordTo s core (t + 1) = ordTo s core t ++ List.range' (bord s ((core + t) % s.cores)) (bord s ((core + t) % s.cores + 1) - bord s ((core + t) % s.cores))) := ordTo_succ s core t
      generalize bord s ((core + t) % s.cores + 1) = hi at *
      generalize bord s ((core + t) % s.cores) = lo at *
      generalize (core + t) % s.cores = c at *
      obtain ⟨C, hC⟩ : ∃ C, C = hi - lo := ⟨_, rfl⟩
      rw [← hC] at harea HA
      have hCb : lo + C ≤ s.pages := by omega
      have HREL := hrel
      clear hrel hT hC hb1 hb2
      go_wp2_with (first
        | (go_at_call 74; refine harea.mono ?_; clear harea; rintro r w1 ⟨rfl, hk⟩
           have HK1 := Hid.mk' (hk.then (X := fun k => wr.heap.size ≤ k) (Keeps.of (X := fun k => wr.heap.size ≤ k) (World.grownBy_alloc w1 (.cells #[.int .i64 (lo : Int), .int .i64 (C : Int)] 46) none) (by simp)) (fun k hk => Or.inl hk))
           have hR := (MapKept.heap_alloc w1 (.cells #[.int .i64 (lo : Int), .int .i64 (C : Int)] 46)).1
           have hsz := hk.size
           have hs2 : (w1.alloc (.cells #[.int .i64 (lo : Int), .int .i64 (C : Int)] 46)).heap.size = w1.heap.size + 1 := by simp
           clear hk))
      have HT2 := Hid.mk' (HREL.out.2.grown HK1.out (Nat.le_refl _))
      have HOB : Hid (∀ b, u9.ownBlock = some b → b ≠ w1.heap.size) := by
        intro b hb
        have := (HREL.out.2.list.lt b hb).2
        omega
      have hga : g ≠ w1.heap.size := by
        have := HREL.out.2.keep.size
        omega
      obtain ⟨w2, hw2⟩ : ∃ w2, w2 = w1.alloc (.cells #[.int .i64 (lo : Int), .int .i64 (C : Int)] 46) := ⟨_, rfl⟩
      rw [← hw2] at HT2 hR hs2 ⊢
      have HR := Hid.mk' hR
      have HE0 := Hid.mk' HREL.out.1
      obtain ⟨E, hE⟩ : ∃ E, E = lo + C := ⟨_, rfl⟩
      have HE := Hid.mk' hE
      have hlc : IntKind.i64.wrap ((lo : Int) + (C : Int)) = (E : Int) := by rw [hE, Int.natCast_add]; exact i64_id (by omega) (by omega)
      have hlc2 : (lo : Int) + (C : Int) = (E : Int) := by omega
      have hEp : E ≤ s.pages := by omega
      have hlE : lo ≤ E := by omega
      obtain ⟨x0, x1, xf⟩ := cells2 hR
      clear hw2 hR HK1 HREL q2 hmod hm2 hsum xf hE hCb
      go_wp2
      clear x0 x1
      go_loopw [9, 10, 13] (fun lv gv iv wx => ∃ (i : Nat) (SZ : Nat → Bool) (nZ : Nat) (TZ : List Nat), lo ≤ i ∧ i ≤ E ∧ iv = .int .i64 i ∧ gv = .int .i64 (TZ.length : Nat) ∧ Hid ((List.range' lo (i - lo)).foldl stp (SY, nY, TY) = (SZ, nZ, TZ) ∧ RTaking s n e g cap w.heap.size w (SZ, nZ, TZ) lv wx ∧ wx.heap[w1.heap.size]? = some (.cells #[.int .i64 (lo : Int), .int .i64 (C : Int)] 46 (0, 0)) ∧ ∀ b, lv.ownBlock = some b → b ≠ w1.heap.size)) (fun _ _ i _ => E - (intOf i).toNat)
      case atStart => exact ⟨lo, SY, nY, TY, by omega, by omega, rfl, rfl, by rw [Nat.sub_self]; rfl, HT2.out, HR.out, HOB.out⟩
      case round =>
        obtain ⟨i, SZ, nZ, TZ, hi1, hi2, rfl, rfl, hrel⟩ := hrel
        obtain ⟨y0, y1, yf⟩ := cells2 hrel.out.2.2.1
        by_cases hli : i < E
        · have hli' : (i : Int) < (E : Int) := by omega
          have hi0 : (0 : Int) ≤ (i : Int) := by omega
          have hip : (i : Int) < (s.pages : Int) := by omega
          have hnum : (TZ.length + nZ = n) := hrel.out.2.1.num
          have HF : Hid ((List.range' lo (i + 1 - lo)).foldl stp (SY, nY, TY) = stp (SZ, nZ, TZ) i) := by
            show _ = _
            rw [show i + 1 - lo = (i - lo) + 1 by omega, range_snoc, List.foldl_append, hrel.out.1, show lo + (i - lo) = i by omega]
            rfl
          cases nZ with
          | zero =>
            have HREL := hrel
            have hgn : ¬ (TZ.length : Int) < (n : Int) := by omega
            clear hrel yf
            go_wp2
            go_roundw
            case rel => exact ⟨i + 1, SZ, 0, TZ, by omega, by omega, by go_num, rfl, by rw [HF.out, stp_zero], HREL.out.2⟩
            case measure => simp [intOf]; omega
          | succ m =>
            have hgn : (TZ.length : Int) < (n : Int) := by omega
            have hv4 := hrel.out.2.1.pool.cells.2.2.2.2
            obtain ⟨g', cap', hv, _, hcs, hfz, _⟩ := hrel.out.2.1.pool.form
            cases hv
            have hb := hcs i (by omega)
            have hz := hfz i
            cases hS : SZ i with
            | false =>
              have HREL := hrel
              simp only at hb
              rw [hS] at hb
              have HS := Hid.mk' hS
              clear hrel yf hcs hfz hS
              go_wp2
              go_roundw
              case rel => exact ⟨i + 1, SZ, m + 1, TZ, by omega, by omega, by go_num, rfl, by rw [HF.out, stp_held _ _ HS.out], HREL.out.2⟩
              case measure => simp [intOf]; omega
            | true =>
              simp only at hb
              rw [hS] at hb
              have HS := Hid.mk' hS
              have hbd := fold_bd TZ (l := []) (M := s.pages) (by simp) hrel.out.2.1.low
              have hTu := hrel.out.2.1.turned (i := i) hge hgl
              have hks := keep_set' wr g i (.bool false)
              have hjn := join_own (wr.setCell ⟨g, i, none⟩ (.bool false)) w.heap.size u9 (TZ.foldl addP []) i hTu.list (by have := hbd.2; simp at this; omega) (fun t ht => by have := hbd.1 t ht; omega) (by have := hks.size; have := hrel.out.2.1.keep.size; omega)
              have HTU := Hid.mk' hTu
              have HKS := Hid.mk' hks
              have hsw : IntKind.i64.wrap ((TZ.length : Int) + 1) = (TZ.length : Int) + 1 := i64_id (by omega) (by omega)
              have HREL := hrel
              clear hrel yf hcs hfz hS hTu hks hbd
              go_wp2_with (first
                | (go_at_call 75; refine hjn.mono ?_; clear hjn; rintro r w6 ⟨v6, rfl, hx⟩; have HY := Hid.mk' hx; clear hx))
              go_roundw
              case rel =>
                refine ⟨i + 1, upd SZ i false, m, TZ ++ [i], by omega, by omega, by go_num, by first | rfl | (simp; done) | go_num, by rw [HF.out, stp_free _ _ HS.out], HTU.out.listed HY.out.1 HY.out.2.1 hgl hel (by omega), ?_, ?_⟩
                · exact HY.out.2.1.at (HKS.out.at HREL.out.2.2.1 (Ne.symm hga)) (fun hg => HREL.out.2.2.2 _ hg rfl)
                · intro b hb
                  rcases HY.out.2.2 b hb with h | h
                  · exact HREL.out.2.2.2 b h
                  · have := heap_lt HREL.out.2.2.1
                    have := HKS.out.size
                    omega
              case measure => simp [intOf]; omega
        · have hli' : ¬ (i : Int) < (E : Int) := by omega
          have HJ := Hid.mk' (show i - lo = C by have := HE.out; omega)
          have HREL := hrel
          clear hrel yf hi1 hi2 hli
          go_wp2
          go_roundw
          case rel =>
            refine ⟨_, _, .int .i64 ((t + 1 : Nat) : Int), ⟨t + 1, by omega, rfl, SZ, nZ, TZ, rfl, ?_, HREL.out.2.1⟩, rfl, rfl, by go_num⟩
            rw [HA.out, List.foldl_append, HE0.out, ← HJ.out]
            exact HREL.out.1
          case measure => simp [intOf]; omega
    · have hlt' : ¬ (t : Int) < (s.cores : Int) := by omega
      have HJ := Hid.mk' (show t = s.cores by omega)
      have HREL := hrel
      clear hrel hT
      go_wp2
      go_ret2
      have h2 : tk s core S n = (SY, nY, TY) := by unfold tk; rw [← HJ.out]; exact HREL.out.1
      rw [h2]
      exact ⟨_, rfl, HREL.out.2.list, HREL.out.2.pool, HREL.out.2.keep.mono (fun k _ hk => hk.elim (fun hk => Or.inl (by rw [hk]; rfl)) Or.inr)⟩

end Go.Proofs.Ytnafocbgapianab
