import Derived.Test.YtnafocbgapianabA9
namespace Go.Proofs.Ytnafocbgapianab
open Go.RowKit

/-- Taking: one page looked at. -/
def stp (x : (Nat → Bool) × Nat × List Nat) (p : Nat) : (Nat → Bool) × Nat × List Nat :=
  if x.2.1 = 0 then x else if x.1 p = true then (upd x.1 p false, x.2.1 - 1, x.2.2 ++ [p]) else x

theorem stp_zero (S : Nat → Bool) (T : List Nat) (p : Nat) : stp (S, 0, T) p = (S, 0, T) := by simp [stp]
theorem stp_free {S : Nat → Bool} (m : Nat) (T : List Nat) {p : Nat} (h : S p = true) : stp (S, m + 1, T) p = (upd S p false, m, T ++ [p]) := by simp [stp, h]
theorem stp_held {S : Nat → Bool} (m : Nat) (T : List Nat) {p : Nat} (h : S p = false) : stp (S, m, T) p = (S, m, T) := by simp [stp, h]
theorem fold_zero (ps : List Nat) (S : Nat → Bool) (T : List Nat) : ps.foldl stp (S, 0, T) = (S, 0, T) := by
  induction ps with
  | nil => rfl
  | cons p ps ih => rw [List.foldl_cons, stp_zero, ih]

/-- The pages of a core's area. -/
def ar (s : Sh) (c : Nat) : List Nat := List.range' (bord s c) (bord s (c + 1) - bord s c)
/-- .. of the first t areas, from one core on. -/
def ordTo (s : Sh) (core t : Nat) : List Nat := (List.range t).flatMap fun i => ar s ((core + i) % s.cores)
theorem ordTo_zero (s : Sh) (core : Nat) : ordTo s core 0 = [] := rfl
theorem ordTo_succ (s : Sh) (core t : Nat) : ordTo s core (t + 1) = ordTo s core t ++ ar s ((core + t) % s.cores) := by
  unfold ordTo; rw [List.range_succ, List.flatMap_append]; simp
theorem ordTo_pre (s : Sh) (core t : Nat) (k : Nat) : ∃ r, ordTo s core (t + k) = ordTo s core t ++ r := by
  induction k with
  | zero => exact ⟨[], by simp⟩
  | succ k ih =>
    obtain ⟨r, hr⟩ := ih
    exact ⟨r ++ ar s ((core + (t + k)) % s.cores), by rw [← Nat.add_assoc, ordTo_succ, hr, List.append_assoc]⟩

/-- What Take takes: what is free then, what is missing, the pages in their order. -/
def tk (s : Sh) (core : Nat) (S : Nat → Bool) (n : Nat) : (Nat → Bool) × Nat × List Nat := (ordTo s core s.cores).foldl stp (S, n, [])

/-- unset of a mark of the bitmap, whether it was set or not. -/
theorem unset_do (w : World) (d n i : Nat) (S : Nat → Bool) (rest : List Value) (t : TypeId) (h : w.heap[d]? = some (mkObj n S rest t)) (hn : n ≤ 1024) (hi : i < n) :
    Calls Try.prog 69 #[.pointer (some ⟨d, 0, none⟩), .int .i64 i] w fun e w' => e = .returned (.bool (S i)) ∧ w'.heap[d]? = some (mkObj n (upd S i false) rest t) ∧ Keeps (fun k => k = d) w w' ∧ w'.heap.size = w.heap.size := by
  cases hs : S i with
  | true => exact unset_yes w d n i S rest t h hn hi hs
  | false =>
    refine (unset_no w d n i S rest t h hn (by rw [hasI_in hi]; exact hs)).mono ?_
    rintro e w' ⟨rfl, m, rfl⟩
    exact ⟨rfl, by rw [upd_id hs]; exact h, Keeps.drewN _ _ _, rfl⟩

/-- What holds of a take under way. -/
structure Taking (s : Sh) (S : Nat → Bool) (n : Nat) (d B : Nat) (w : World) (X : (Nat → Bool) × Nat × List Nat) (v : Value) (wr : World) : Prop where
  pool : PoolAt wr d s X.1
  list : SpAt wr B v (X.2.2.foldl addP [])
  keep : Keeps (fun k => k = d ∨ B ≤ k) w wr
  num : X.2.2.length + X.2.1 = n
  low : ∀ p ∈ X.2.2, p < s.pages

theorem Taking.grown {s : Sh} {S : Nat → Bool} {n d B : Nat} {w : World} {X : (Nat → Bool) × Nat × List Nat} {v : Value} {wr wx : World} (h : Taking s S n d B w X v wr) (k : Keeps (fun k => wr.heap.size ≤ k) wr wx) (hB : B ≤ w.heap.size) : Taking s S n d B w X v wx := by
  have hd := heap_lt h.pool.at_
  have hs := h.keep.size
  refine ⟨h.pool.kept k (by omega), h.list.kept k ?_, h.keep.then k (fun k hk => by left; right; omega), h.num, h.low⟩
  intro g hg hx
  have := (h.list.lt g hg).2
  omega

theorem sup_upd {s : Sh} {S : Nat → Bool} {p : Nat} (h : ∀ i, S i = true → s.data ≤ i ∧ i < s.pages) : ∀ i, upd S p false i = true → s.data ≤ i ∧ i < s.pages := by
  intro i hi
  unfold upd at hi
  split at hi
  · simp at hi
  · exact h i hi

theorem Taking.turned {s : Sh} {S S5 : Nat → Bool} {n d B m : Nat} {SZ : Nat → Bool} {TZ : List Nat} {w : World} {v : Value} {wr wx : World} (h : Taking s S n d B w (SZ, m, TZ) v wr) (hx : wx.heap[d]? = some (mkObj s.pages S5 s.rest 89) ∧ Keeps (fun k => k = d) wr wx ∧ wx.heap.size = wr.heap.size) (hs : ∀ i, S5 i = true → s.data ≤ i ∧ i < s.pages) (hdB : d < B) : Taking s S n d B w (S5, m, TZ) v wx := by
  refine ⟨⟨hx.1, h.pool.good, hs⟩, h.list.kept hx.2.1 ?_, h.keep.then hx.2.1 (fun k hk => by left; left; exact hk), h.num, h.low⟩
  intro g hg hd
  have := (h.list.lt g hg).1
  omega
theorem Taking.listed {s : Sh} {S : Nat → Bool} {n d B m p : Nat} {SZ : Nat → Bool} {TZ : List Nat} {w : World} {v v6 : Value} {wr wx : World} (h : Taking s S n d B w (SZ, m + 1, TZ) v wr) (h1 : SpAt wx B v6 (addP (TZ.foldl addP []) p)) (h2 : Keeps (fun k => v.ownBlock = some k) wr wx) (hdB : d < B) (hp : p < s.pages) : Taking s S n d B w (SZ, m, TZ ++ [p]) v6 wx := by
  have hn := h.num
  simp only at hn
  refine ⟨h.pool.kept h2 ?_, by rw [List.foldl_append]; exact h1, h.keep.then h2 (fun k hk => by left; right; exact (h.list.lt k hk).1), by simp; omega, ?_⟩
  · intro hd
    have := (h.list.lt d hd).1
    omega
  · intro q hq
    rcases List.mem_append.1 hq with hq | hq
    · exact h.low q hq
    · simp at hq; omega

theorem range_snoc (lo j : Nat) : List.range' lo (j + 1) = List.range' lo j ++ [lo + j] := by rw [List.range'_concat]; simp
theorem range_split (lo j C : Nat) (h : j ≤ C) : List.range' lo C = List.range' lo j ++ List.range' (lo + j) (C - j) := by
  rw [List.range'_append_1]; congr 1; omega

set_option maxHeartbeats 4000000 in
theorem takeRound_any (w : World) (d : Nat) (s : Sh) (S : Nat → Bool) (h : PoolAt w d s S) (core n : Nat) (hc : core < s.cores) (hn : n ≤ 1024) :
    Calls Try.prog 47 #[.pointer (some ⟨d, 0, none⟩), .int .i64 core, .int .i64 n] w fun e w' => ∃ v, e = .returned v ∧ SpAt w' w.heap.size v ((tk s core S n).2.2.foldl addP []) ∧ PoolAt w' d s (tk s core S n).1 ∧ Keeps (fun k => k = d ∨ w.heap.size ≤ k) w w' := by
  obtain ⟨c0, c1, c2⟩ := h.cells
  have hg := h.good
  have h8 : s.cores ≤ 8 := hg.2.2.2.2.2.2.1
  have h1 : 1 ≤ s.cores := hg.2.2.2.2.2.1
  have hpg : s.pages ≤ 1024 := hg.2.1
  have hdl := heap_lt h.at_
  have HG := Hid.mk' hg
  have HT0 : Hid (Taking s S n d w.heap.size w (S, n, []) (.slice none 0 0) w) := ⟨h, SpAt.nil _ _, Keeps.refl _ _, by simp, by simp⟩
  clear h hg
  go_enter Try.func47, Try.ntmps47
  go_wp2
  go_loopw [2, 7, 17] (fun nv v i wr => ∃ (t SY : _) (nY : Nat) (TY : List Nat), t ≤ s.cores ∧ i = .int .i64 (t : Nat) ∧ nv = .int .i64 nY ∧ Hid ((ordTo s core t).foldl stp (S, n, []) = (SY, nY, TY) ∧ Taking s S n d w.heap.size w (SY, nY, TY) v wr)) (fun _ _ i _ => s.cores - (intOf i).toNat)
  case atStart => exact ⟨0, S, n, [], by omega, rfl, rfl, rfl, HT0.out⟩
  case round =>
    obtain ⟨t, SY, nY, TY, ht, rfl, rfl, hrel⟩ := hrel
    by_cases hlt : t < s.cores
    · have hlt' : (t : Int) < (s.cores : Int) := by omega
      have hT := hrel.out.2
      obtain ⟨q0, q1, q2⟩ := hT.pool.cells
      have hmod : ((core : Int) + (t : Int)).tmod (s.cores : Int) = (((core + t) % s.cores : Nat) : Int) := by
        rw [Int.tmod_eq_emod_of_nonneg (by omega)]; rfl
      have hsum : IntKind.i64.wrap ((core : Int) + (t : Int)) = (core : Int) + (t : Int) := i64_id (by omega) (by omega)
      have hml : (core + t) % s.cores < s.cores := Nat.mod_lt _ (by omega)
      have harea := area_yes wr d s SY hT.pool ((core + t) % s.cores) hml
      have hm2 : IntKind.i64.wrap (((core + t) % s.cores : Nat) : Int) = (((core + t) % s.cores : Nat) : Int) := i64_id (by omega) (by omega)
      have hnz : ¬ (s.cores : Int) = 0 := by omega
      have hnz2 : ¬ s.cores = 0 := by omega
      have hb1 := bord_lt HG.out ((core + t) % s.cores)
      have hb2 := bord_le HG.out (show (core + t) % s.cores + 1 ≤ s.cores by omega)
      have HA : Hid (ordTo s core (t + 1) = ordTo s core t ++ List.range' (bord s ((core + t) % s.cores)) (bord s ((core + t) % s.cores + 1) - bord s ((core + t) % s.cores))) := ordTo_succ s core t
      generalize bord s ((core + t) % s.cores + 1) = hi at *
      generalize bord s ((core + t) % s.cores) = lo at *
      generalize (core + t) % s.cores = c at *
      obtain ⟨C, hC⟩ : ∃ C, C = hi - lo := ⟨_, rfl⟩
      rw [← hC] at harea HA
      have hCb : lo + C ≤ s.pages := by omega
      have HREL := hrel
      clear hrel hT hC hb1 hb2
      go_wp2_with (first
        | (go_at_call 20; refine harea.mono ?_; rintro e w1 ⟨rfl, hk⟩
           have HK1 := Hid.mk' (hk.then (X := fun k => wr.heap.size ≤ k) (Keeps.of (X := fun k => wr.heap.size ≤ k) (World.grownBy_alloc w1 (.cells #[.int .i64 (lo : Int), .int .i64 (C : Int)] 46) none) (by simp)) (fun k hk => Or.inl hk))
           have hR := (MapKept.heap_alloc w1 (.cells #[.int .i64 (lo : Int), .int .i64 (C : Int)] 46)).1
           have hsz := hk.size
           have hs2 : (w1.alloc (.cells #[.int .i64 (lo : Int), .int .i64 (C : Int)] 46)).heap.size = w1.heap.size + 1 := by simp
           clear hk))
      have HT2 := Hid.mk' (HREL.out.2.grown HK1.out (Nat.le_refl _))
      have HOB : Hid (∀ g, u7.ownBlock = some g → g ≠ w1.heap.size) := by
        intro g hg
        have := (HREL.out.2.list.lt g hg).2
        omega
      have hda : d ≠ w1.heap.size := by
        have := heap_lt HREL.out.2.pool.at_
        omega
      obtain ⟨w2, hw2⟩ : ∃ w2, w2 = w1.alloc (.cells #[.int .i64 (lo : Int), .int .i64 (C : Int)] 46) := ⟨_, rfl⟩
      rw [← hw2] at HT2 hR hs2 ⊢
      have HR := Hid.mk' hR
      have HE0 := Hid.mk' HREL.out.1
      clear hw2 hR HK1 HREL q0 q1 q2 harea hmod hm2 hsum
      go_loopw [2, 7, 33] (fun nv v i wx => ∃ (j : Nat) (SZ : Nat → Bool) (nZ : Nat) (TZ : List Nat), j ≤ C ∧ i = .int .i64 j ∧ nv = .int .i64 nZ ∧ Hid ((List.range' lo j).foldl stp (SY, nY, TY) = (SZ, nZ, TZ) ∧ Taking s S n d w.heap.size w (SZ, nZ, TZ) v wx ∧ wx.heap[w1.heap.size]? = some (.cells #[.int .i64 (lo : Int), .int .i64 (C : Int)] 46 (0, 0)) ∧ ∀ g, v.ownBlock = some g → g ≠ w1.heap.size)) (fun _ _ i _ => C - (intOf i).toNat)
      case atStart => exact ⟨0, SY, nY, TY, by omega, rfl, rfl, rfl, HT2.out, HR.out, HOB.out⟩
      case round =>
        obtain ⟨j, SZ, nZ, TZ, hj, rfl, rfl, hrel⟩ := hrel
        by_cases hlj : j < C
        · have hlj' : (j : Int) < (C : Int) := by omega
          cases nZ with
          | zero =>
            have HREL := hrel
            clear hrel
            go_wp2
            go_ret
            have h2 : tk s core S n = (SZ, 0, TZ) := by
              unfold tk
              obtain ⟨r, hr⟩ := ordTo_pre s core (t + 1) (s.cores - (t + 1))
              rw [show s.cores = t + 1 + (s.cores - (t + 1)) by omega, hr, HA.out, List.foldl_append, List.foldl_append, HE0.out, range_split lo j C hj, List.foldl_append, HREL.out.1, fold_zero, fold_zero]
            rw [h2]
            exact ⟨_, rfl, HREL.out.2.1.list, HREL.out.2.1.pool, HREL.out.2.1.keep⟩
          | succ m =>
            have hnum : (TZ.length + (m + 1) = n) := hrel.out.2.1.num
            obtain ⟨q0, q1, qf⟩ := cells2 hrel.out.2.2.1
            have hun := unset_do wr d s.pages (lo + j) SZ s.rest 89 hrel.out.2.1.pool.at_ hpg (by omega)
            rw [Int.natCast_add] at hun
            have hsum : IntKind.i64.wrap ((lo : Int) + (j : Int)) = (lo : Int) + (j : Int) := i64_id (by omega) (by omega)
            have hmw : IntKind.i64.wrap (m : Int) = m := i64_id (by omega) (by omega)
            have hm1 : ¬ ((m : Int) + 1 = 0) := by omega
            have hm2 : ((m : Int) + 1 == 0) = false := by simp; omega
            have HREL := hrel
            clear hrel qf
            cases hS : SZ (lo + j) with
            | false =>
              rw [hS, upd_id hS] at hun
              have HS := Hid.mk' hS
              clear hS
              go_wp2_with (first
                | (go_at_call 69; refine hun.mono ?_; rintro e w5 ⟨rfl, hx⟩; have HX := Hid.mk' hx; clear hx))
              go_roundw
              case rel =>
                refine ⟨j + 1, SZ, m + 1, TZ, by omega, by go_num, by go_num, ?_, HREL.out.2.1.turned HX.out HREL.out.2.1.pool.sup hdl, HX.out.2.1.at HREL.out.2.2.1 (Ne.symm hda), HREL.out.2.2.2⟩
                rw [range_snoc, List.foldl_append, HREL.out.1]
                exact (show stp (SZ, m + 1, TZ) (lo + j) = _ from stp_held _ _ HS.out)
              case measure => simp [intOf]; omega
            | true =>
              rw [hS] at hun
              have HS := Hid.mk' hS
              clear hS
              have hbd := fold_bd TZ (l := []) (M := s.pages) (by simp) HREL.out.2.1.low
              have HWP : Hid (∀ w5, w5.heap[d]? = some (mkObj s.pages (upd SZ (lo + j) false) s.rest 89) ∧ Keeps (fun k => k = d) wr w5 ∧ w5.heap.size = wr.heap.size → Calls Try.prog 67 #[u7, .int .i64 ((lo : Int) + (j : Int))] w5 fun e w' => ∃ v', e = .returned v' ∧ SpAt w' w.heap.size v' (addP (TZ.foldl addP []) (lo + j)) ∧ Keeps (fun k => u7.ownBlock = some k) w5 w' ∧ (∀ g, v'.ownBlock = some g → u7.ownBlock = some g ∨ w5.heap.size ≤ g)) := by
                intro w5 hx
                have := withPage_own w5 w.heap.size u7 (TZ.foldl addP []) (lo + j) (HREL.out.2.1.list.kept hx.2.1 (by
                  intro g hg hd
                  have := (HREL.out.2.1.list.lt g hg).1
                  omega)) (by have := hbd.2; simp at this; omega) (fun t ht => by have := hbd.1 t ht; omega) (by rw [hx.2.2]; exact HREL.out.2.1.keep.size)
                rw [Int.natCast_add] at this
                exact this
              clear hbd
              go_wp2_with (first
                | (go_at_call 69; refine hun.mono ?_; rintro e w5 ⟨rfl, hx⟩; have hwp := HWP.out w5 hx; have HX := Hid.mk' hx; clear hx)
                | (go_at_call 67; refine hwp.mono ?_; rintro e w6 ⟨v6, rfl, hx⟩; have HY := Hid.mk' hx; clear hx))
              go_roundw
              case rel =>
                refine ⟨j + 1, upd SZ (lo + j) false, m, TZ ++ [lo + j], by omega, by go_num, by go_num, ?_, (HREL.out.2.1.turned HX.out (sup_upd HREL.out.2.1.pool.sup) hdl).listed HY.out.1 HY.out.2.1 hdl (by omega), ?_, ?_⟩
                · rw [range_snoc, List.foldl_append, HREL.out.1]
                  exact (show stp (SZ, m + 1, TZ) (lo + j) = _ from stp_free _ _ HS.out)
                · exact HY.out.2.1.at (HX.out.2.1.at HREL.out.2.2.1 (Ne.symm hda)) (fun hg => HREL.out.2.2.2 _ hg rfl)
                · intro g hg
                  rcases HY.out.2.2 g hg with h | h
                  · exact HREL.out.2.2.2 g h
                  · have h5 := HX.out.2.2
                    have := heap_lt HREL.out.2.2.1
                    omega
              case measure => simp [intOf]; omega
        · have hlj' : ¬ (j : Int) < (C : Int) := by omega
          have HJ := Hid.mk' (show j = C by omega)
          have HREL := hrel
          clear hrel
          go_wp2
          go_roundw
          case rel =>
            refine ⟨t + 1, SZ, nZ, TZ, by omega, by go_num, rfl, ?_, HREL.out.2.1⟩
            rw [HA.out, List.foldl_append, HE0.out, ← HJ.out]
            exact HREL.out.1
          case measure => simp [intOf]; omega
    · have hlt' : ¬ (t : Int) < (s.cores : Int) := by omega
      have HJ := Hid.mk' (show t = s.cores by omega)
      have HREL := hrel
      clear hrel
      go_wp2
      go_ret
      have h2 : tk s core S n = (SY, nY, TY) := by unfold tk; rw [← HJ.out]; exact HREL.out.1
      rw [h2]
      exact ⟨_, rfl, HREL.out.2.list, HREL.out.2.pool, HREL.out.2.keep⟩

set_option maxHeartbeats 2000000 in
theorem take_range (w : World) (d : Nat) (s : Sh) (S : Nat → Bool) (h : PoolAt w d s S) (core n : Int) (hc : ¬ ((0 ≤ core ∧ core < s.cores) ∧ 0 ≤ n)) :
    Calls Try.prog 17 #[.pointer (some ⟨d, 0, none⟩), .int .i64 core, .int .i64 n] w fun e w' => e = .returned (.tuple #[.slice none 0 0, .int .i64 52]) ∧ w' = w := by
  have hi := isCore_any w d s S h core
  by_cases h1 : 0 ≤ core ∧ core < s.cores
  · rw [isC_yes h1] at hi
    have hn : n < 0 := by omega
    clear hc h
    go_enter Try.func17, Try.ntmps17
    go_wp2_with (first | (go_at_call 45; refine hi.mono ?_; rintro e w1 ⟨rfl, hw⟩; subst w1))
    go_ret2
    exact ⟨rfl, rfl⟩
  · rw [isC_no h1] at hi
    clear hc h h1
    go_enter Try.func17, Try.ntmps17
    go_wp2_with (first | (go_at_call 45; refine hi.mono ?_; rintro e w1 ⟨rfl, hw⟩; subst w1))
    go_ret2
    exact ⟨rfl, rfl⟩

set_option maxHeartbeats 2000000 in
theorem take_full (w : World) (d : Nat) (s : Sh) (S : Nat → Bool) (h : PoolAt w d s S) (core n : Int) (h1 : 0 ≤ core ∧ core < s.cores) (hn : (cn S s.pages : Int) < n) :
    Calls Try.prog 17 #[.pointer (some ⟨d, 0, none⟩), .int .i64 core, .int .i64 n] w fun e w' => e = .returned (.tuple #[.slice none 0 0, .int .i64 50]) ∧ w' = w := by
  have hi := isCore_any w d s S h core
  rw [isC_yes h1] at hi
  have hf := count_any w d s.pages S s.rest 89 h.at_
  rw [cn_beyond (fun i hi => (h.sup i hi).2) h.good.2.1] at hf
  have hn0 : ¬ n < 0 := by omega
  clear h h1
  go_enter Try.func17, Try.ntmps17
  go_wp2_with (first | (go_at_call 45; refine hi.mono ?_; rintro e w1 ⟨rfl, hw⟩; subst w1) | (go_at_call 46; refine hf.mono ?_; rintro e w1 ⟨rfl, hw⟩; subst w1))
  go_ret2
  exact ⟨rfl, rfl⟩

set_option maxHeartbeats 2000000 in
theorem take_yes (w : World) (d : Nat) (s : Sh) (S : Nat → Bool) (h : PoolAt w d s S) (core n : Nat) (h1 : core < s.cores) (hn : n ≤ cn S s.pages) :
    Calls Try.prog 17 #[.pointer (some ⟨d, 0, none⟩), .int .i64 core, .int .i64 n] w fun e w' => ∃ v, e = .returned (.tuple #[v, .int .i64 0]) ∧ SpAt w' w.heap.size v ((tk s core S n).2.2.foldl addP []) ∧ PoolAt w' d s (tk s core S n).1 ∧ Keeps (fun k => k = d ∨ w.heap.size ≤ k) w w' := by
  have hi := isCore_any w d s S h core
  rw [isC_yes (by omega)] at hi
  have hf := count_any w d s.pages S s.rest 89 h.at_
  rw [cn_beyond (fun i hi => (h.sup i hi).2) h.good.2.1] at hf
  have hn0 : ¬ (n : Int) < 0 := by omega
  have hn1 : ¬ (cn S s.pages : Int) < (n : Int) := by omega
  have hle := cn_le S s.pages
  have ht := takeRound_any w d s S h core n h1 (by have := h.good.2.1; omega)
  generalize cn S s.pages = q at *
  clear h h1
  go_enter Try.func17, Try.ntmps17
  go_wp2_with (first | (go_at_call 45; refine hi.mono ?_; rintro e w1 ⟨rfl, hw⟩; subst w1) | (go_at_call 46; refine hf.mono ?_; rintro e w1 ⟨rfl, hw⟩; subst w1) | (go_at_call 47; refine ht.mono ?_; rintro e w1 ⟨v, rfl, hx⟩; have HX := Hid.mk' hx; clear hx))
  go_ret2
  exact ⟨_, rfl, HX.out⟩

end Go.Proofs.Ytnafocbgapianab
