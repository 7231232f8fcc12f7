import Derived.Test.YtnafocbgapianaaN3
namespace Go.Proofs.Ytnafocbgapianaa
open Go.RowKit

set_option maxHeartbeats 4000000 in
set_option maxRecDepth 20000 in
theorem near_walk (w : World) (pages cores core n : Int) (p : Option Addr) (cap : Nat) (l : List (Bool × Int × Int)) (hl : MvIn w p l) (hll : l.length ≤ maxLen) (hpb : -9223372036854775808 ≤ pages ∧ pages ≤ 9223372036854775807) :
    Calls Try.prog 7 #[.int .i64 pages, .int .i64 cores, .slice p l.length cap, .int .i64 core, .int .i64 n] w fun e w' => e = .returned (.bool true) ∧ Keeps (fun k => w.heap.size ≤ k) w w' := by
  have hshape := shape_any pages (pages.tdiv 5) cores
  obtain ⟨s, hs⟩ : ∃ s, s = mkSh pages (pages.tdiv 5) cores := ⟨_, rfl⟩
  rw [← hs] at hshape
  have hg : s.Good := by rw [hs]; exact mkSh_good _ _ _
  have hq7 : IntKind.i64.wrap (pages.tdiv 5) = pages.tdiv 5 := tdiv_wrap hpb (by omega)
  have hpg : s.pages ≤ 119 := by rw [hs]; exact mkSh_pages _ _ _
  have HG := Hid.mk' hg
  have HLI := Hid.mk' hl
  unfold Sh.agg at hshape
  clear hs hl
  go_enter Try.func7, Try.ntmps7
  go_wp2_with (first
    | (go_at_call 9; refine (hshape _).mono ?_; rintro e w1 ⟨rfl, hk⟩
       have HK1 := Hid.mk' (hk.then (X := fun k => w.heap.size ≤ k) (Keeps.of (X := fun k => w.heap.size ≤ k) (World.grownBy_alloc w1 (.cells #[.int .i64 s.pages, .int .i64 s.inodes, .int .i64 s.cores, .int .i64 s.data] 23) none) (by simp)) (fun k hk => Or.inl hk))
       have hR := (MapKept.heap_alloc w1 (.cells #[.int .i64 s.pages, .int .i64 s.inodes, .int .i64 s.cores, .int .i64 s.data] 23)).1
       have hsz := hk.size
       clear hk))
  obtain ⟨w2, hw2⟩ : ∃ w2, w2 = w1.alloc (.cells #[.int .i64 s.pages, .int .i64 s.inodes, .int .i64 s.cores, .int .i64 s.data] 23) := ⟨_, rfl⟩
  have hs2 : w2.heap.size = w1.heap.size + 1 := by rw [hw2]; simp
  rw [← hw2] at HK1 hR ⊢
  have HR := Hid.mk' hR
  obtain ⟨a0, a1, a2, a3, af⟩ := cells4 hR
  have hwh := fun m => whole_any s HG.out (w2.drewN m)
  unfold Sh.agg at hwh
  clear hw2 hR af hshape
  go_region_held3 (fun wx => wx.cell? ⟨w1.heap.size, 0, none⟩ = some (.int .i64 s.pages) ∧ wx.cell? ⟨w1.heap.size, 1, none⟩ = some (.int .i64 s.inodes) ∧ wx.cell? ⟨w1.heap.size, 2, none⟩ = some (.int .i64 s.cores) ∧ wx.cell? ⟨w1.heap.size, 3, none⟩ = some (.int .i64 s.data))
    (first | go_keep)
    (first
      | (go_at_call 15; refine (hwh _).mono ?_; rintro e w3 ⟨b3, rfl, hx1, hx2, hx3⟩
         have hK3 : Keeps (fun k => w2.heap.size ≤ k) w2 w3 := (Keeps.drewN _ w2 0).trans ⟨hx3.os, hx3.tape, hx3.output, hx3.size, hx3.block⟩
         obtain ⟨b0, b1, b2, b3', bf⟩ := cells4 (hK3.at HR.out (by omega))
         have hnw := newWhole s HG.out w3 b3 hx1
         unfold Sh.agg at hnw
         have HK3 := Hid.mk' hK3
         clear hx1 hx2 hx3 hK3 bf)
      | (go_at_call 10; refine hnw.mono ?_; rintro e w4 ⟨d, rfl, hd4, hp4, hk4⟩
         have hK4 := HK3.out.then hk4 (fun k hk => by right; have := HK3.out.size; omega)
         obtain ⟨c0, c1, c2, c3, cf⟩ := cells4 (hK4.at HR.out (by omega))
         have HK4 := Hid.mk' hK4
         have HP4 := Hid.mk' hp4
         have hd2 : w2.heap.size ≤ d := by have := HK3.out.size; omega
         clear hk4 hK4 cf hp4 hd4))
  go_wp2
  have hmk := fun w => run_make_row' (P := Try.prog) 40 4 (.bool false) 1 Try.underlying40 info4 rfl .i64 .i64 s.pages (by omega) (by omega) w
  go_region_held3 (fun wx => wx.cell? ⟨w1.heap.size, 0, none⟩ = some (.int .i64 s.pages) ∧ wx.cell? ⟨w1.heap.size, 1, none⟩ = some (.int .i64 s.inodes) ∧ wx.cell? ⟨w1.heap.size, 2, none⟩ = some (.int .i64 s.cores) ∧ wx.cell? ⟨w1.heap.size, 3, none⟩ = some (.int .i64 s.data))
    (first | go_keep)
    (fail)
  have HD0 := Hid.mk' (duo_start HP4.out HK4.out hd2)
  have h8 : s.cores ≤ 8 := HG.out.2.2.2.2.2.2.1
  have h1c : 1 ≤ s.cores := HG.out.2.2.2.2.2.1
  have h24 : 24 ≤ s.pages := HG.out.1
  have h9 : s.data + 8 ≤ s.pages := HG.out.2.2.2.2.2.2.2.2
  obtain ⟨w5, hw5⟩ : ∃ w5, w5 = ((w4.alloc (.cells (madeCells #[.bool false] s.pages) 4)).alloc (.cells #[.int .i64 s.pages, .int .i64 s.inodes, .int .i64 s.cores, .int .i64 s.data, .slice (some ⟨w4.heap.size, 0, none⟩) s.pages s.pages, .int .i64 0] 42)).drew := ⟨_, rfl⟩
  rw [← hw5] at HD0 ⊢
  generalize w4.heap.size + 1 = k at *
  generalize w4.heap.size = hb at *
  have hpl := played_any HD0.out p cap l (HLI.out.grown HK1.out (fun b hb => hb)) (Nat.le_refl _) hll
  clear hw5 hmk hnw hwh a0 a1 a2 a3 b0 b1 b2 b3' c0 c1 c2 c3 HK3 HK4 HP4 hd2 HD0
  go_wp2_with (first
    | (go_at_call 16; refine hpl.mono ?_; clear hpl; rintro e w7 ⟨rfl, ⟨S, H, hd7⟩, _⟩
       have hfr := free_any w7 d s S hd7.pool
       have HD7 := Hid.mk' hd7
       clear hd7)
    | (go_at_call 11; refine hfr.mono ?_; clear hfr; rintro e w' ⟨rfl, hw'⟩; subst w'))
  obtain ⟨k0, k2, k3, k4, k5, kf⟩ := HD7.out.book.cells
  obtain ⟨r0, r1, r2, r3, rf⟩ := cells4 (HD7.out.keep.at HR.out (by omega))
  have hnum := HD7.out.num
  have hcl := cn_le S s.pages
  have hs1 : IntKind.i64.wrap ((s.pages : Int) - (s.data : Int)) = (s.pages : Int) - (s.data : Int) := i64_id (by omega) (by omega)
  have hs3 : IntKind.i64.wrap ((s.pages : Int) - (s.data : Int) - (hc s H : Int)) = (cn S s.pages : Int) := by rw [i64_id (by omega) (by omega)]; omega
  have hs4 : (s.pages : Int) - (s.data : Int) - (hc s H : Int) = (cn S s.pages : Int) := by omega
  obtain ⟨Q, hQ⟩ : ∃ Q, Q = cn S s.pages := ⟨_, rfl⟩
  rw [← hQ] at hs3 hs4 hcl hnum ⊢
  have HQ := Hid.mk' hQ
  clear hQ kf rf k0 k2 k3 k4
  go_quiet (fail)
  clear hs1 hs3 hs4 k5 r0 r1 r2 r3
  have HD8 := Hid.mk' (HD7.out.drewN nq)
  generalize w7.drewN nq = w8 at *
  clear HD7
  have HSUP := Hid.mk' HD8.out.pool.sup
  have hpc := fun w => place_any core s.cores w h1c (by omega)
  have hpn := fun w => place_any n (Q + 1) w (by omega) (by omega)
  rw [Int.natCast_add] at hpn
  have hcc := plc_lt core h1c
  have hwn := plc_lt n (show 1 ≤ Q + 1 by omega)
  generalize plc core s.cores = c at *
  generalize plc n (Q + 1) = want at *
  have hQw : IntKind.i64.wrap ((Q : Int) + 1) = (Q : Int) + 1 := i64_id (by omega) (by omega)
  have hmk := fun w => run_make_row' (P := Try.prog) 49 3 (.int .i64 0) 8 Try.underlying49 info3 rfl .i64 .i64 s.cores (by omega) (by omega) w
  obtain ⟨r0, r1, r2, r3, rf⟩ := cells4 (HD8.out.keep.at HR.out (by omega))
  clear r0 r1 r3 rf
  go_wp2_with (first
    | (go_at_call_of 20 core; refine (hpc _).mono ?_; clear hpc; rintro e w' ⟨rfl, hw'⟩; subst w')
    | (go_at_call_of 20 n; refine (hpn _).mono ?_; clear hpn; rintro e w' ⟨rfl, hw'⟩; subst w'))
  have hn0 : Keeps (fun j => w8.heap.size ≤ j) w8 (w8.alloc (.cells (madeCells #[.int .i64 0] s.cores) 3)) := Keeps.of (World.grownBy_alloc w8 _ none) (by simp)
  have hb0 := (MapKept.heap_alloc w8 (.cells (madeCells #[.int .i64 0] s.cores) 3)).1
  rw [← befL_zero s S] at hb0 hn0 ⊢
  have HN0 := Hid.mk' (And.intro hn0 hb0)
  generalize w8.alloc (.cells (befL s S 0).toArray 3) = w9 at *
  obtain ⟨B, hB⟩ : ∃ B, B = w8.heap.size := ⟨_, rfl⟩
  rw [← hB] at HN0 ⊢
  have HB := Hid.mk' hB
  clear hn0 hb0 hmk r2
  have HSHP : Hid (∀ wx, Keeps (fun j => B ≤ j) w8 wx → wx.cell? ⟨w1.heap.size, 2, none⟩ = some (.int .i64 s.cores) ∧ PoolAt wx d s S) := by
    intro wx hx
    have h1 := HD8.out.keep.at HR.out (by omega)
    have h2 := heap_lt h1
    have h3 := heap_lt HD8.out.pool.at_
    have h4 := HB.out
    exact ⟨(cells4 (hx.at h1 (by omega))).2.2.1, HD8.out.pool.kept hx (by omega)⟩
  have hCl : ∀ t, t < s.cores → bord s t < bord s (t + 1) ∧ bord s (t + 1) ≤ s.pages := fun t ht => ⟨bord_lt HG.out t, bord_le HG.out ht⟩
  have HCL := Hid.mk' hCl
  clear hCl hB
  go_loopw [19] (fun kv wr => ∃ t : Nat, t ≤ s.cores ∧ kv = .int .i64 t ∧ Hid (Keeps (fun j => B ≤ j) w8 wr ∧ wr.heap[B]? = some (.cells (befL s S t).toArray 3 (0, 0)))) (fun kv _ => s.cores - (intOf kv).toNat)
  case atStart => exact ⟨0, by omega, rfl, HN0.out⟩
  case round =>
    obtain ⟨t, ht, rfl, hrel⟩ := hrel
    obtain ⟨y2, hy⟩ := HSHP.out wr hrel.out.1
    by_cases hlt : t < s.cores
    · have hlt' : (t : Int) < (s.cores : Int) := by omega
      have ht0 : (0 : Int) ≤ (t : Int) := by omega
      have hco := pcore_any wr d s S hy (t : Int)
      rw [(area_in hlt).1, (area_in hlt).2] at hco
      have hcl := HCL.out t hlt
      have hbd := sp_bd S (bord s t) (bord s (t + 1) - bord s t)
      have hne := sp_neat S (bord s t) (bord s (t + 1) - bord s t)
      have hpg2 := fa_pages s S t
      obtain ⟨LC, hLC⟩ : ∃ LC, LC = sp S (bord s t) (bord s (t + 1) - bord s t) := ⟨_, rfl⟩
      rw [← hLC] at hco hbd hne hpg2
      have hpl2 : (pagesOf LC).length = (fa s S t).length := by rw [hpg2]
      clear hpg2
      have hfl : (fa s S t).length ≤ 1024 := by
        unfold fa
        have := fl_len_le S (bord s t) (bord s (t + 1) - bord s t)
        omega
      have HREL := hrel
      have HSET := Hid.mk' (befL_set s S t)
      have hfz : ∀ (wx : World) (o : Nat), wx.heap[B]? = some (.cells (befL s S t).toArray 3 (0, 0)) → wx.frozen? ⟨B, o, none⟩ = false := fun wx o hx => by simp [World.frozen?, hx]
      have hold : ∀ (wx : World), wx.heap[B]? = some (.cells (befL s S t).toArray 3 (0, 0)) → wx.cell? ⟨B, t, none⟩ = some (.int .i64 ((if t < t then (fa s S t).length else 0 : Nat) : Int)) := fun wx hx => by
        rw [cell_of_row _ _ t _ _ _ hx]; simpa using befL_get s S t t hlt
      have HBD := Hid.mk' hbd
      clear hrel hLC hy hcl hbd
      generalize (fa s S t).length = FL at *
      go_wp2_with (first
        | (go_at_call 13; refine hco.mono ?_; clear hco; rintro e w10 ⟨v10, rfl, hx1, hx2⟩
           obtain ⟨p10, cap10, hv10, hin10, _⟩ := hx1.toIn
           subst v10
           have hct := count_spans w10 p10 cap10 LC hin10 (by have := HBD.out.2; have := (HCL.out t hlt).2; omega) (fun u hu => by
             obtain ⟨i, hi, rfl⟩ := List.getElem_of_mem hu
             have h1 := (neat_get hne i hi).1
             have h2 := HBD.out.1 _ (List.getElem_mem hi)
             have := (HCL.out t hlt).2
             have := (HCL.out t hlt).1
             omega) (by rw [hpl2]; have := hfl; omega)
           rw [hpl2] at hct
           have hB10 := hx2.at HREL.out.2 (by have := heap_lt HREL.out.2; omega)
           have o1 := hold w10 hB10
           have o2 := hfz w10 t hB10
           have HX2 := Hid.mk' (And.intro hx2 hB10)
           clear hx1 hx2 hin10 hB10)
        | (go_at_call 26; refine hct.mono ?_; clear hct; rintro e w' ⟨rfl, hw'⟩; subst w'))
      have HST1 := Hid.mk' (setCell_block (a := ⟨B, t, none⟩) (v := .int .i64 (FL : Int)) HX2.out.2 rfl)
      simp only at HST1
      rw [HSET.out] at HST1
      have HST2 : Hid (Keeps (fun j => j = B) w10 (w10.setCell ⟨B, t, none⟩ (.int .i64 (FL : Int)))) := Keeps.of (grownBy_setCell w10 ⟨B, t, none⟩ _) (by rintro j hj; cases hj; exact Or.inl rfl)
      go_roundw
      case rel =>
        refine ⟨t + 1, by omega, by go_num, ?_, HST1.out⟩
        have := HREL.out.1.size
        have := HB.out
        exact (HREL.out.1.then HX2.out.1 (fun j hj => by left; omega)).then HST2.out (fun j hj => by left; omega)
      case measure => simp [intOf]; omega
    · have hlt' : ¬ (t : Int) < (s.cores : Int) := by omega
      have hte : t = s.cores := by omega
      have HBR := Hid.mk' hrel.out.2
      rw [hte] at HBR
      have HKR := Hid.mk' hrel.out.1
      have htk := take_yes wr d s S hy c want hcc (by rw [← HQ.out]; omega)
      obtain ⟨t1, t2, t3, t4⟩ := tk_all HG.out HSUP.out (core := c) (n := want) hcc (by rw [← HQ.out]; omega)
      have hTb := fold_bd (tk s c S want).2.2 (l := []) (M := s.pages) (by simp) (fun q hq => (HSUP.out q (t3 q hq)).2)
      have hTn := neat_fold (tk s c S want).2.2 [] trivial
      have hTp : pagesOf ((tk s c S want).2.2.foldl addP []) = (tk s c S want).2.2 := by rw [pagesOf_fold]; simp [pagesOf]
      obtain ⟨T, hT⟩ : ∃ T, T = (tk s c S want).2.2 := ⟨_, rfl⟩
      rw [← hT] at htk t1 t2 t3 t4 hTb hTn hTp
      generalize (tk s c S want).1 = S1 at *
      have HT := Hid.mk' hT
      have HT4 := Hid.mk' t4
      have HCM := Hid.mk' (cn_minus (n := s.pages) T t2 (fun q hq => ⟨t3 q hq, (HSUP.out q (t3 q hq)).2⟩) t4)
      obtain ⟨Lt, hLt⟩ : ∃ Lt, Lt = T.foldl addP [] := ⟨_, rfl⟩
      rw [← hLt] at htk hTb hTn hTp
      have hLl : Lt.length ≤ 1024 := by have := hTb.2; simp at this; omega
      have HLt : Hid ((∀ u ∈ Lt, 1 ≤ u.2 ∧ u.1 + u.2 ≤ 1024) ∧ pagesOf Lt = T) := ⟨fun u hu => by
        obtain ⟨i, hi, rfl⟩ := List.getElem_of_mem hu
        have h1 := (neat_get hTn i hi).1
        have h2 := hTb.1 _ (List.getElem_mem hi)
        omega, hTp⟩
      have ht1' : T.length = want := t1
      have hszr := hrel.out.1.size
      clear hrel hte t2 t3 t4 hTb hTn hTp hT hLt t1
      go_wp2_with (first
        | (go_at_call 19; refine htk.mono ?_; clear htk; rintro e w10 ⟨v10, rfl, hx1, hx2, hx3⟩
           obtain ⟨pl, capl, hv10, hin10, hob10⟩ := hx1.toIn
           subst v10
           have hct := count_spans w10 pl capl Lt hin10 hLl (fun u hu => HLt.out.1 u hu) (by rw [HLt.out.2, ht1']; omega)
           rw [HLt.out.2, ht1'] at hct
           have HI10 := Hid.mk' hin10
           have HP10 := Hid.mk' hx2
           have HK10 := Hid.mk' hx3
           have hs10 := hx3.size
           have HB10 : Hid (∀ b, pl.map (·.block) = some b → wr.heap.size ≤ b ∧ b < w10.heap.size) := fun b hb => hx1.lt b (hob10 b hb)
           clear hx1 hx2 hx3 hin10 hob10)
        | (go_at_call 26; refine hct.mono ?_; clear hct; rintro e w' ⟨rfl, hw'⟩; subst w'))
      have HST : Hid (∀ wx, Keeps (fun j => w10.heap.size ≤ j) w10 wx → PoolAt wx d s S1 ∧ SpIn wx pl (castL Lt) ∧ wx.heap[B]? = some (.cells (befL s S s.cores).toArray 3 (0, 0)) ∧ wx.cell? ⟨w1.heap.size, 2, none⟩ = some (.int .i64 s.cores)) := by
        intro wx hx
        have hBl := heap_lt HBR.out
        have hdl := heap_lt HP10.out.at_
        have h1 := HKR.out.at (HD8.out.keep.at HR.out (by omega)) (by have := heap_lt (HD8.out.keep.at HR.out (by omega)); have := HB.out; omega)
        have hdB : d < B := by have := heap_lt HD8.out.pool.at_; have := HB.out; omega
        have hlow := HD8.out.low
        have h2 := heap_lt h1
        refine ⟨HP10.out.kept hx (by omega), spIn_grown HI10.out hx, hx.at (HK10.out.at HBR.out (by omega)) (by omega), ?_⟩
        exact (cells4 (hx.at (HK10.out.at h1 (by omega)) (by omega))).2.2.1
      have hw2k : want ≤ 2000 := by omega
      go_loopw [22, 23, 24] (fun lv av kv wr => ∃ t P a l : Nat, t ≤ s.cores ∧ a + l = want ∧ lv = .int .i64 l ∧ av = .int .i64 a ∧ kv = .int .i64 t ∧ Hid (P = (pre s S c t).length ∧ a = min want P ∧ Keeps (fun j => w10.heap.size ≤ j) w10 wr)) (fun _ _ kv _ => s.cores - (intOf kv).toNat)
      case atStart => exact ⟨0, 0, 0, want, by omega, by omega, rfl, rfl, rfl, by simp [pre_zero], by simp, Keeps.refl _ _⟩
      case round =>
        obtain ⟨t, P, a, l', ht, hal, rfl, rfl, rfl, hrel⟩ := hrel
        obtain ⟨x1, x2, x3, x4⟩ := HST.out wr hrel.out.2.2
        by_cases hlt : t < s.cores
        · have hlt' : (t : Int) < (s.cores : Int) := by omega
          obtain ⟨i1, i2, i3, i4⟩ := near_round HG.out hlt HT.out HT4.out
          have hPe := hrel.out.1
          have hae := hrel.out.2.1
          rw [← hPe] at i1 i2 i3 i4
          rw [← hae, show want - a = l' by omega] at i1 i2 i3
          have hmod : ((c : Int) + (t : Int)).tmod (s.cores : Int) = (((c + t) % s.cores : Nat) : Int) := by rw [Int.tmod_eq_emod_of_nonneg (by omega)]; rfl
          have hmw : IntKind.i64.wrap ((c : Int) + (t : Int)) = (c : Int) + (t : Int) := i64_id (by omega) (by omega)
          have hol : (c + t) % s.cores < s.cores := Nat.mod_lt _ (by omega)
          generalize (c + t) % s.cores = o at *
          have hmw2 : IntKind.i64.wrap (o : Int) = (o : Int) := i64_id (by omega) (by omega)
          have hcz : ¬ (s.cores : Int) = 0 := by omega
          have hcz2 : ¬ s.cores = 0 := by omega
          have har := area_yes wr d s S1 x1 o hol
          have hbo := HCL.out o hol
          have HFM := Hid.mk' (fun q (hq : q ∈ fa s S o) => (mem_fa.1 hq).1)
          have HFS := Hid.mk' (fun (i j x y : Nat) (hij : i < j) hx hy => fa_lt' (s := s) (S := S) (c := o) (i := i) (j := j) (x := x) (y := y) hij hx hy)
          have hbd := sp_bd S1 (bord s o) (bord s (o + 1) - bord s o)
          have hne := sp_neat S1 (bord s o) (bord s (o + 1) - bord s o)
          have hpg3 := fa_pages s S1 o
          have HHD := Hid.mk' (fun (x y : Nat) (r : List (Nat × Nat)) (h : sp S1 (bord s o) (bord s (o + 1) - bord s o) = (x, y) :: r) => sp_head h)
          have hco := fun wx h => pcore_any wx d s S1 h (o : Int)
          rw [(area_in hol).1, (area_in hol).2] at hco
          have hfl : (fa s S o).length ≤ 1024 := by
            unfold fa
            have := fl_len_le S (bord s o) (bord s (o + 1) - bord s o)
            omega
          have bo : wr.cell? ⟨B, o, none⟩ = some (.int .i64 ((fa s S o).length : Nat)) := by
            rw [cell_of_row _ _ o _ _ _ x3]
            simpa [hol] using befL_get s S s.cores o hol
          generalize hF : fa s S o = F at *
          obtain ⟨FL, hFL⟩ : ∃ FL, FL = F.length := ⟨_, rfl⟩
          rw [← hFL] at i1 i2 i3 i4 hfl bo
          have HFL := Hid.mk' hFL
          have hiins : ins T (bord s o) (bord s o + (bord s (o + 1) - bord s o)) = min l' FL := by rw [show bord s o + (bord s (o + 1) - bord s o) = bord s (o + 1) by omega]; exact i1
          obtain ⟨C, hC⟩ : ∃ C, C = bord s (o + 1) - bord s o := ⟨_, rfl⟩
          obtain ⟨z, hz⟩ : ∃ z, z = bord s o := ⟨_, rfl⟩
          rw [← hC, ← hz] at hiins hbd hne hpg3 HHD hco har
          have hzC : z + C ≤ 119 := by omega
          have hCz : bord s (o + 1) = z + C := by omega
          rw [← hz, hCz] at HFM
          obtain ⟨m, hm⟩ : ∃ m, m = min l' FL := ⟨_, rfl⟩
          rw [← hm] at hiins i2 i3
          have hml : m ≤ l' ∧ m ≤ FL := by omega
          have hpl3 : (pagesOf (sp S1 z C)).length = FL - m := by rw [hpg3, i2, List.length_drop, HFL.out]
          obtain ⟨LR, hLR⟩ : ∃ LR, LR = sp S1 z C := ⟨_, rfl⟩
          rw [← hLR] at hpl3 hco hbd hne HHD hpg3
          have HI3 := Hid.mk' i3
          have HI2 : Hid (pagesOf LR = F.drop m) := by show _ = _; rw [hpg3, i2]
          have HP4 := Hid.mk' i4
          have HPE := Hid.mk' (And.intro hPe (And.intro hae hm))
          have HKW := Hid.mk' hrel.out.2.2
          have HLR := Hid.mk' (And.intro hbd hne)
          have HX := Hid.mk' (And.intro x1 (And.intro x2 x3))
          have hswr := HKW.out.size
          clear hrel i1 i2 i3 i4 hPe hae hm hF hFL hLR hpg3 hC hz hCz hbd hne x1 x2 x3 hbo
          obtain ⟨D, hD⟩ : ∃ D, D = FL - m := ⟨_, rfl⟩
          obtain ⟨l2, hl2⟩ : ∃ l2, l2 = l' - m := ⟨_, rfl⟩
          rw [← hD] at hpl3
          have hal2 : a + m + l2 = want := by omega
          have hme := HPE.out.2.2
          have hD3 : D + m = FL := by omega
          have HNEXT : Hid (P + FL = (pre s S c (t + 1)).length ∧ a + m = min want (P + FL)) := ⟨HP4.out.symm, by have := HPE.out.2.1; omega⟩
          have hl3 : l2 + m = l' := by omega
          rcases Nat.lt_or_ge FL l' with hfl1 | hfl1
          · obtain rfl : m = FL := by omega
            obtain rfl : D = 0 := by omega
            clear hD hl2 hme hD3
            have hsb3 : IntKind.i64.wrap ((l' : Int) - (m : Int)) = (l2 : Int) := by rw [i64_id (by omega) (by omega)]; omega
            have hsb4 : (l' : Int) - (m : Int) = (l2 : Int) := by omega
            go_wp2_with (first
              | (go_at_call 12; refine har.mono ?_; clear har; rintro e w11 ⟨rfl, hk11⟩
                 have hR11 := (MapKept.heap_alloc w11 (.cells #[.int .i64 (z : Int), .int .i64 (C : Int)] 31)).1
                 have hK12 := (HKW.out.then hk11 (fun j hj => by left; omega)).step (World.grownBy_alloc w11 (.cells #[.int .i64 (z : Int), .int .i64 (C : Int)] 31) none) (by simp)
                 have hs11 := hk11.size
                 have bo2 : (w11.alloc (.cells #[.int .i64 (z : Int), .int .i64 (C : Int)] 31)).cell? ⟨B, o, none⟩ = some (.int .i64 (m : Int)) :=
                   (Keeps.of (X := fun _ => False) (World.grownBy_alloc w11 (.cells #[.int .i64 (z : Int), .int .i64 (C : Int)] 31) none) (by simp)).cell (hk11.cell bo (by have := heap_lt HX.out.2.2; simp; omega)) (by simp)
                 have hin := inside_any _ pl capl Lt (HST.out _ hK12).2.1 hLl (fun u hu => (HLt.out.1 u hu).2) (by rw [HLt.out.2, ht1']; omega) z C (by omega)
                 rw [HLt.out.2, hiins] at hin
                 have HK12 := Hid.mk' hK12
                 have HR11 := Hid.mk' (And.intro hR11 bo2)
                 clear hk11 hK12 hR11)
              | (go_at_call 27; refine hin.mono ?_; clear hin; rintro e w13 ⟨rfl, hk13⟩
                 have hsz12 : (w11.alloc (.cells #[.int .i64 (z : Int), .int .i64 (C : Int)] 31)).heap.size = w11.heap.size + 1 := by simp
                 have hK13 := HK12.out.then hk13 (fun j hj => by left; omega)
                 have hco13 := hco w13 (HST.out w13 hK13).1
                 have hR13 := hk13.at HR11.out.1 (by omega)
                 have bo3 := hk13.cell HR11.out.2 (by have := heap_lt HX.out.2.2; simp; omega)
                 have HK13 := Hid.mk' hK13
                 have HR13 := Hid.mk' (And.intro hR13 bo3)
                 have hs13 := hk13.size
                 clear hk13 hK13 hR13 HR11)
              | (go_at_call 13; refine hco13.mono ?_; clear hco13; rintro e w14 ⟨v14, rfl, hx1, hx2⟩
                 obtain ⟨pr, capr, hv14, hin14, _⟩ := hx1.toIn
                 subst v14
                 have hK14 := HK13.out.then hx2 (fun j hj => by left; omega)
                 obtain ⟨u0, u1, uf⟩ := cells2 (hx2.at HR13.out.1 (by omega))
                 have bo4 := hx2.cell HR13.out.2 (by have := heap_lt HX.out.2.2; simp; omega)
                 have hpa := fun i q hi hq => pageAt_any w14 pl capl Lt (HST.out w14 hK14).2.1 hLl (fun u hu => (HLt.out.1 u hu).2) i q hi (by rw [HLt.out.2]; exact hq)
                 have hct := fun q => count_spans (w14.drewN q) pr capr LR (spIn_grown hin14 (Keeps.drewN _ _ q)) (by have := HLR.out.1.2; omega) (fun u hu => by
                   obtain ⟨i, hi, rfl⟩ := List.getElem_of_mem hu
                   have h1 := (neat_get HLR.out.2 i hi).1
                   have h2 := HLR.out.1.1 _ (List.getElem_mem hi)
                   omega) (by rw [hpl3]; omega)
                 rw [hpl3] at hct
                 have HIN14 := Hid.mk' hin14
                 have HK14 := Hid.mk' hK14
                 have HPA := Hid.mk' hpa
                 clear hx1 hx2 hin14 hK14 uf hpa))
            have hzw : IntKind.i64.wrap ((z : Int) + (C : Int)) = (z : Int) + (C : Int) := i64_id (by omega) (by omega)
            go_loop [23, 29, 30] (fun av lv dv => ∃ (j : Nat) (la : Int), j ≤ m ∧ av = .int .i64 ((a + j : Nat) : Int) ∧ lv = .int .i64 la ∧ dv = .int .i64 j ∧ -1 ≤ la ∧ la ≤ 2000 ∧ Hid (∀ q, F[j]? = some q → la < (q : Int))) (fun _ _ dv => m - (intOf dv).toNat)
            case atStart =>
              refine ⟨0, (z : Int) - 1, by omega, by simp, by go_num, rfl, by omega, by omega, ?_⟩
              intro q hq
              have := HFM.out q (List.mem_of_getElem? hq)
              omega
            case round =>
              obtain ⟨j, la, hj, rfl, rfl, rfl, hla1, hla2, hrel⟩ := hrel
              rw [Int.natCast_add]
              by_cases hjm : j < m
              · have hjm' : (j : Int) < (m : Int) := by omega
                obtain ⟨q, hq1, hq2⟩ := HI3.out j hjm
                have hfm := HFM.out q (List.mem_of_getElem? hq2)
                have hlq := hrel.out q hq2
                have hpq := HPA.out (a + j) q (by omega) hq1
                rw [Int.natCast_add] at hpq
                have HNX : Hid (∀ q', F[j + 1]? = some q' → (q : Int) < (q' : Int)) := fun q' hq' => by
                  have := HFS.out j (j + 1) q q' (by omega) hq2 hq'
                  omega
                have hsj : IntKind.i64.wrap ((a : Int) + (j : Int) + 1) = (a : Int) + (j : Int) + 1 := i64_id (by omega) (by omega)
                have q1 : ¬ (q : Int) ≤ la := by omega
                have q2 : ¬ (q : Int) < (z : Int) := by omega
                have q3 : ¬ (z : Int) + (C : Int) ≤ (q : Int) := by omega
                clear hrel hq1 hq2
                go_wp2_with (first
                  | (go_at_call 28; refine hpq.mono ?_; clear hpq; rintro e w' ⟨rfl, hw'⟩; subst w'))
                go_round
                case rel => exact ⟨j + 1, (q : Int), by omega, by go_num, rfl, by go_num, by omega, by omega, HNX.out⟩
                case measure => simp [intOf]; omega
              · have hjm' : ¬ (j : Int) < (m : Int) := by omega
                have hje : j = m := by omega
                have HLA := Hid.mk' hrel.out
                rw [hje] at HLA
                have HJE := Hid.mk' hje
                clear hrel hje
                go_wp2
                by_cases hR0 : LR = []
                · have hz1 : decide ((0 : Int) < (LR.length : Int)) = false := by rw [hR0]; rfl
                  have hz2 : decide (0 < LR.length) = false := by rw [hR0]; rfl
                  clear hR0
                  go_quiet (first | (go_at_call 26; exact Calls.quiet_of_same (hct _)))
                  go_wp2
                  go_roundw
                  case rel => exact ⟨t + 1, _, a + m, l2, by omega, hal2, by go_num, by rw [← HJE.out]; go_num, by go_num, HNEXT.out.1, HNEXT.out.2, HK14.out.trans (Keeps.drewN _ _ _)⟩
                  case measure => simp [intOf]; omega
                · obtain ⟨b9, o9, rfl, hb9, hc9⟩ := HIN14.out (by rw [castL_len]; exact List.length_pos_iff.2 hR0)
                  have hRl : 0 < LR.length := List.length_pos_iff.2 hR0
                  have hRl' : (0 : Int) < (LR.length : Int) := by omega
                  have hce := (hc9 0 (by rw [castL_len]; exact hRl)).1
                  rw [castL_get] at hce
                  obtain ⟨f0, hf0⟩ : ∃ f0, f0 = (LR.getD 0 (0, 0)).1 := ⟨_, rfl⟩
                  rw [← hf0] at hce
                  simp only [Nat.zero_mul, Nat.add_zero] at hce
                  have hFm : F[m]? = some f0 := by
                    have h1 := HI2.out
                    have h2 := (neat_get HLR.out.2 0 hRl).1
                    have h3 := drop_getD (0, 0) hRl
                    rw [List.drop_zero] at h3
                    have h4 : LR.getD 0 (0, 0) = LR[0] := by rw [List.getD_eq_getElem?_getD, List.getElem?_eq_getElem hRl]; rfl
                    rw [← h4] at h2
                    rw [h3, pagesOf_cons, ← hf0] at h1
                    obtain ⟨c9, hc9⟩ : ∃ c9, (LR.getD 0 (0, 0)).2 = c9 + 1 := ⟨(LR.getD 0 (0, 0)).2 - 1, by omega⟩
                    rw [hc9, List.range'_succ, List.cons_append] at h1
                    have h5 : (F.drop m)[0]? = some f0 := by rw [← h1]; rfl
                    simpa using h5
                  have hla3 := HLA.out f0 hFm
                  have hlt0 : ¬ (f0 : Int) < la := by omega
                  have hlt1 : decide ((f0 : Int) < la) = false := by simp; omega
                  clear hR0 hc9 hFm hf0
                  go_quiet (first | (go_at_call 26; exact Calls.quiet_of_same (hct _)))
                  go_wp2
                  go_roundw
                  case rel => exact ⟨t + 1, _, a + m, l2, by omega, hal2, by go_num, by rw [← HJE.out]; go_num, by go_num, HNEXT.out.1, HNEXT.out.2, HK14.out.trans (Keeps.drewN _ _ _)⟩
                  case measure => simp [intOf]; omega
          · obtain rfl : m = l' := by omega
            obtain rfl : l2 = 0 := by omega
            clear hD hl2 hme hl3
            have hsb1 : IntKind.i64.wrap ((FL : Int) - (m : Int)) = (D : Int) := by rw [i64_id (by omega) (by omega)]; omega
            have hsb2 : (FL : Int) - (m : Int) = (D : Int) := by omega
            go_wp2_with (first
              | (go_at_call 12; refine har.mono ?_; clear har; rintro e w11 ⟨rfl, hk11⟩
                 have hR11 := (MapKept.heap_alloc w11 (.cells #[.int .i64 (z : Int), .int .i64 (C : Int)] 31)).1
                 have hK12 := (HKW.out.then hk11 (fun j hj => by left; omega)).step (World.grownBy_alloc w11 (.cells #[.int .i64 (z : Int), .int .i64 (C : Int)] 31) none) (by simp)
                 have hs11 := hk11.size
                 have bo2 : (w11.alloc (.cells #[.int .i64 (z : Int), .int .i64 (C : Int)] 31)).cell? ⟨B, o, none⟩ = some (.int .i64 (FL : Int)) :=
                   (Keeps.of (X := fun _ => False) (World.grownBy_alloc w11 (.cells #[.int .i64 (z : Int), .int .i64 (C : Int)] 31) none) (by simp)).cell (hk11.cell bo (by have := heap_lt HX.out.2.2; simp; omega)) (by simp)
                 have hin := inside_any _ pl capl Lt (HST.out _ hK12).2.1 hLl (fun u hu => (HLt.out.1 u hu).2) (by rw [HLt.out.2, ht1']; omega) z C (by omega)
                 rw [HLt.out.2, hiins] at hin
                 have HK12 := Hid.mk' hK12
                 have HR11 := Hid.mk' (And.intro hR11 bo2)
                 clear hk11 hK12 hR11)
              | (go_at_call 27; refine hin.mono ?_; clear hin; rintro e w13 ⟨rfl, hk13⟩
                 have hsz12 : (w11.alloc (.cells #[.int .i64 (z : Int), .int .i64 (C : Int)] 31)).heap.size = w11.heap.size + 1 := by simp
                 have hK13 := HK12.out.then hk13 (fun j hj => by left; omega)
                 have hco13 := hco w13 (HST.out w13 hK13).1
                 have hR13 := hk13.at HR11.out.1 (by omega)
                 have bo3 := hk13.cell HR11.out.2 (by have := heap_lt HX.out.2.2; simp; omega)
                 have HK13 := Hid.mk' hK13
                 have HR13 := Hid.mk' (And.intro hR13 bo3)
                 have hs13 := hk13.size
                 clear hk13 hK13 hR13 HR11)
              | (go_at_call 13; refine hco13.mono ?_; clear hco13; rintro e w14 ⟨v14, rfl, hx1, hx2⟩
                 obtain ⟨pr, capr, hv14, hin14, _⟩ := hx1.toIn
                 subst v14
                 have hK14 := HK13.out.then hx2 (fun j hj => by left; omega)
                 obtain ⟨u0, u1, uf⟩ := cells2 (hx2.at HR13.out.1 (by omega))
                 have bo4 := hx2.cell HR13.out.2 (by have := heap_lt HX.out.2.2; simp; omega)
                 have hpa := fun i q hi hq => pageAt_any w14 pl capl Lt (HST.out w14 hK14).2.1 hLl (fun u hu => (HLt.out.1 u hu).2) i q hi (by rw [HLt.out.2]; exact hq)
                 have hct := fun q => count_spans (w14.drewN q) pr capr LR (spIn_grown hin14 (Keeps.drewN _ _ q)) (by have := HLR.out.1.2; omega) (fun u hu => by
                   obtain ⟨i, hi, rfl⟩ := List.getElem_of_mem hu
                   have h1 := (neat_get HLR.out.2 i hi).1
                   have h2 := HLR.out.1.1 _ (List.getElem_mem hi)
                   omega) (by rw [hpl3]; omega)
                 rw [hpl3] at hct
                 have HIN14 := Hid.mk' hin14
                 have HK14 := Hid.mk' hK14
                 have HPA := Hid.mk' hpa
                 clear hx1 hx2 hin14 hK14 uf hpa))
            have hzw : IntKind.i64.wrap ((z : Int) + (C : Int)) = (z : Int) + (C : Int) := i64_id (by omega) (by omega)
            go_loop [23, 29, 30] (fun av lv dv => ∃ (j : Nat) (la : Int), j ≤ m ∧ av = .int .i64 ((a + j : Nat) : Int) ∧ lv = .int .i64 la ∧ dv = .int .i64 j ∧ -1 ≤ la ∧ la ≤ 2000 ∧ Hid (∀ q, F[j]? = some q → la < (q : Int))) (fun _ _ dv => m - (intOf dv).toNat)
            case atStart =>
              refine ⟨0, (z : Int) - 1, by omega, by simp, by go_num, rfl, by omega, by omega, ?_⟩
              intro q hq
              have := HFM.out q (List.mem_of_getElem? hq)
              omega
            case round =>
              obtain ⟨j, la, hj, rfl, rfl, rfl, hla1, hla2, hrel⟩ := hrel
              rw [Int.natCast_add]
              by_cases hjm : j < m
              · have hjm' : (j : Int) < (m : Int) := by omega
                obtain ⟨q, hq1, hq2⟩ := HI3.out j hjm
                have hfm := HFM.out q (List.mem_of_getElem? hq2)
                have hlq := hrel.out q hq2
                have hpq := HPA.out (a + j) q (by omega) hq1
                rw [Int.natCast_add] at hpq
                have HNX : Hid (∀ q', F[j + 1]? = some q' → (q : Int) < (q' : Int)) := fun q' hq' => by
                  have := HFS.out j (j + 1) q q' (by omega) hq2 hq'
                  omega
                have hsj : IntKind.i64.wrap ((a : Int) + (j : Int) + 1) = (a : Int) + (j : Int) + 1 := i64_id (by omega) (by omega)
                have q1 : ¬ (q : Int) ≤ la := by omega
                have q2 : ¬ (q : Int) < (z : Int) := by omega
                have q3 : ¬ (z : Int) + (C : Int) ≤ (q : Int) := by omega
                clear hrel hq1 hq2
                go_wp2_with (first
                  | (go_at_call 28; refine hpq.mono ?_; clear hpq; rintro e w' ⟨rfl, hw'⟩; subst w'))
                go_round
                case rel => exact ⟨j + 1, (q : Int), by omega, by go_num, rfl, by go_num, by omega, by omega, HNX.out⟩
                case measure => simp [intOf]; omega
              · have hjm' : ¬ (j : Int) < (m : Int) := by omega
                have hje : j = m := by omega
                have HLA := Hid.mk' hrel.out
                rw [hje] at HLA
                have HJE := Hid.mk' hje
                clear hrel hje
                go_wp2
                by_cases hR0 : LR = []
                · have hz1 : decide ((0 : Int) < (LR.length : Int)) = false := by rw [hR0]; rfl
                  have hz2 : decide (0 < LR.length) = false := by rw [hR0]; rfl
                  clear hR0
                  go_quiet (first | (go_at_call 26; exact Calls.quiet_of_same (hct _)))
                  go_wp2
                  go_roundw
                  case rel => exact ⟨t + 1, _, a + m, 0, by omega, hal2, by go_num, by rw [← HJE.out]; go_num, by go_num, HNEXT.out.1, HNEXT.out.2, HK14.out.trans (Keeps.drewN _ _ _)⟩
                  case measure => simp [intOf]; omega
                · obtain ⟨b9, o9, rfl, hb9, hc9⟩ := HIN14.out (by rw [castL_len]; exact List.length_pos_iff.2 hR0)
                  have hRl : 0 < LR.length := List.length_pos_iff.2 hR0
                  have hRl' : (0 : Int) < (LR.length : Int) := by omega
                  have hce := (hc9 0 (by rw [castL_len]; exact hRl)).1
                  rw [castL_get] at hce
                  obtain ⟨f0, hf0⟩ : ∃ f0, f0 = (LR.getD 0 (0, 0)).1 := ⟨_, rfl⟩
                  rw [← hf0] at hce
                  simp only [Nat.zero_mul, Nat.add_zero] at hce
                  have hFm : F[m]? = some f0 := by
                    have h1 := HI2.out
                    have h2 := (neat_get HLR.out.2 0 hRl).1
                    have h3 := drop_getD (0, 0) hRl
                    rw [List.drop_zero] at h3
                    have h4 : LR.getD 0 (0, 0) = LR[0] := by rw [List.getD_eq_getElem?_getD, List.getElem?_eq_getElem hRl]; rfl
                    rw [← h4] at h2
                    rw [h3, pagesOf_cons, ← hf0] at h1
                    obtain ⟨c9, hc9⟩ : ∃ c9, (LR.getD 0 (0, 0)).2 = c9 + 1 := ⟨(LR.getD 0 (0, 0)).2 - 1, by omega⟩
                    rw [hc9, List.range'_succ, List.cons_append] at h1
                    have h5 : (F.drop m)[0]? = some f0 := by rw [← h1]; rfl
                    simpa using h5
                  have hla3 := HLA.out f0 hFm
                  have hlt0 : ¬ (f0 : Int) < la := by omega
                  have hlt1 : decide ((f0 : Int) < la) = false := by simp; omega
                  clear hR0 hc9 hFm hf0
                  go_quiet (first | (go_at_call 26; exact Calls.quiet_of_same (hct _)))
                  go_wp2
                  go_roundw
                  case rel => exact ⟨t + 1, _, a + m, 0, by omega, hal2, by go_num, by rw [← HJE.out]; go_num, by go_num, HNEXT.out.1, HNEXT.out.2, HK14.out.trans (Keeps.drewN _ _ _)⟩
                  case measure => simp [intOf]; omega
        · have hlt' : ¬ (t : Int) < (s.cores : Int) := by omega
          have hte : t = s.cores := by omega
          have hPl : want ≤ P := by
            have h1 := tk_take HG.out c S want
            rw [← HT.out] at h1
            have h2 := congrArg List.length h1
            rw [List.length_take, ht1', ← hte, ← hrel.out.1] at h2
            omega
          have hl0 : l' = 0 := by have := hrel.out.2.1; omega
          have hl00 : ((l' : Int) == 0) = true := by simp [hl0]
          have hfr := free_any wr d s S1 x1
          have hcm := HCM.out
          rw [ht1', ← HQ.out] at hcm
          obtain ⟨Q1, hQ1⟩ : ∃ Q1, Q1 = cn S1 s.pages := ⟨_, rfl⟩
          rw [← hQ1] at hcm hfr
          have hsq : IntKind.i64.wrap ((Q : Int) - (want : Int)) = (Q1 : Int) := by rw [i64_id (by omega) (by omega)]; omega
          have hsq2 : (Q : Int) - (want : Int) = (Q1 : Int) := by omega
          have HKE : Hid (Keeps (fun j => w.heap.size ≤ j) w wr) := by
            have h1 := HD8.out.keep.size
            have h2 := HB.out
            have h3 := HD8.out.low
            exact (((HK1.out.then HD8.out.keep (fun j hj => by left; omega)).then HKR.out (fun j hj => by left; omega)).then HK10.out (fun j hj => by left; omega)).then hrel.out.2.2 (fun j hj => by left; omega)
          clear hrel hte hPl hl0 hQ1 x1 x2 x3
          go_wp2_with (first
            | (go_at_call 11; refine hfr.mono ?_; clear hfr; rintro e w' ⟨rfl, hw'⟩; subst w'))
          go_ret
          exact ⟨ret_bool (by simp), HKE.out⟩

end Go.Proofs.Ytnafocbgapianaa
