import Derived.Test.YtnafocbgapianaaG0
namespace Go.Proofs.Ytnafocbgapianaa
open Go.RowKit

set_option maxHeartbeats 4000000 in
set_option maxRecDepth 20000 in
theorem refuses_walk2 (w : World) (pages cores bad at_ : Int) (p : Option Addr) (cap : Nat) (l : List (Bool × Int × Int)) (hl : MvIn w p l) (hll : l.length ≤ maxLen) (hbe : plc bad 4 = 2) (hpb : -9223372036854775808 ≤ pages ∧ pages ≤ 9223372036854775807) :
    Calls Try.prog 5 #[.int .i64 pages, .int .i64 cores, .slice p l.length cap, .int .i64 bad, .int .i64 at_] w fun e w' => e = .returned (.bool true) ∧ Keeps (fun k => w.heap.size ≤ k) w w' := by
  have hshape := shape_any pages (pages.tdiv 3) cores
  obtain ⟨s, hs⟩ : ∃ s, s = mkSh pages (pages.tdiv 3) cores := ⟨_, rfl⟩
  rw [← hs] at hshape
  have hg : s.Good := by rw [hs]; exact mkSh_good _ _ _
  have hq7 : IntKind.i64.wrap (pages.tdiv 3) = pages.tdiv 3 := tdiv_wrap hpb (by omega)
  have hpg : s.pages ≤ 119 := by rw [hs]; exact mkSh_pages _ _ _
  have HG := Hid.mk' hg
  have HLI := Hid.mk' hl
  unfold Sh.agg at hshape
  have HBE := Hid.mk' hbe
  clear hs hl hbe
  go_enter Try.func5, Try.ntmps5
  go_wp2_with (first
    | (go_at_call 9; refine (hshape _).mono ?_; rintro e w1 ⟨rfl, hk⟩
       have HK1 := Hid.mk' (hk.then (X := fun k => w.heap.size ≤ k) (Keeps.of (X := fun k => w.heap.size ≤ k) (World.grownBy_alloc w1 (.cells #[.int .i64 s.pages, .int .i64 s.inodes, .int .i64 s.cores, .int .i64 s.data] 23) none) (by simp)) (fun k hk => Or.inl hk))
       have hR := (MapKept.heap_alloc w1 (.cells #[.int .i64 s.pages, .int .i64 s.inodes, .int .i64 s.cores, .int .i64 s.data] 23)).1
       have hsz := hk.size
       clear hk))
  obtain ⟨w2, hw2⟩ : ∃ w2, w2 = w1.alloc (.cells #[.int .i64 s.pages, .int .i64 s.inodes, .int .i64 s.cores, .int .i64 s.data] 23) := ⟨_, rfl⟩
  have hs2 : w2.heap.size = w1.heap.size + 1 := by rw [hw2]; simp
  rw [← hw2] at HK1 hR ⊢
  have HR := Hid.mk' hR
  obtain ⟨a0, a1, a2, a3, af⟩ := cells4 hR
  have hwh := fun m => whole_any s HG.out (w2.drewN m)
  unfold Sh.agg at hwh
  clear hw2 hR af hshape
  go_region_held3 (fun wx => wx.cell? ⟨w1.heap.size, 0, none⟩ = some (.int .i64 s.pages) ∧ wx.cell? ⟨w1.heap.size, 1, none⟩ = some (.int .i64 s.inodes) ∧ wx.cell? ⟨w1.heap.size, 2, none⟩ = some (.int .i64 s.cores) ∧ wx.cell? ⟨w1.heap.size, 3, none⟩ = some (.int .i64 s.data))
    (first | go_keep)
    (first
      | (go_at_call 15; refine (hwh _).mono ?_; rintro e w3 ⟨b3, rfl, hx1, hx2, hx3⟩
         have hK3 : Keeps (fun k => w2.heap.size ≤ k) w2 w3 := (Keeps.drewN _ w2 0).trans ⟨hx3.os, hx3.tape, hx3.output, hx3.size, hx3.block⟩
         obtain ⟨b0, b1, b2, b3', bf⟩ := cells4 (hK3.at HR.out (by omega))
         have hnw := newWhole s HG.out w3 b3 hx1
         unfold Sh.agg at hnw
         have HK3 := Hid.mk' hK3
         clear hx1 hx2 hx3 hK3 bf)
      | (go_at_call 10; refine hnw.mono ?_; rintro e w4 ⟨d, rfl, hd4, hp4, hk4⟩
         have hK4 := HK3.out.then hk4 (fun k hk => by right; have := HK3.out.size; omega)
         obtain ⟨c0, c1, c2, c3, cf⟩ := cells4 (hK4.at HR.out (by omega))
         have HK4 := Hid.mk' hK4
         have HP4 := Hid.mk' hp4
         have hd2 : w2.heap.size ≤ d := by have := HK3.out.size; omega
         clear hk4 hK4 cf hp4 hd4))
  go_wp2
  have hmk := fun w => run_make_row' (P := Try.prog) 40 4 (.bool false) 1 Try.underlying40 info4 rfl .i64 .i64 s.pages (by omega) (by omega) w
  go_region_held3 (fun wx => wx.cell? ⟨w1.heap.size, 0, none⟩ = some (.int .i64 s.pages) ∧ wx.cell? ⟨w1.heap.size, 1, none⟩ = some (.int .i64 s.inodes) ∧ wx.cell? ⟨w1.heap.size, 2, none⟩ = some (.int .i64 s.cores) ∧ wx.cell? ⟨w1.heap.size, 3, none⟩ = some (.int .i64 s.data))
    (first | go_keep)
    (fail)
  have HD0 := Hid.mk' (duo_start HP4.out HK4.out hd2)
  have h8 : s.cores ≤ 8 := HG.out.2.2.2.2.2.2.1
  have h1c : 1 ≤ s.cores := HG.out.2.2.2.2.2.1
  have h24 : 24 ≤ s.pages := HG.out.1
  have h9 : s.data + 8 ≤ s.pages := HG.out.2.2.2.2.2.2.2.2
  obtain ⟨w5, hw5⟩ : ∃ w5, w5 = ((w4.alloc (.cells (madeCells #[.bool false] s.pages) 4)).alloc (.cells #[.int .i64 s.pages, .int .i64 s.inodes, .int .i64 s.cores, .int .i64 s.data, .slice (some ⟨w4.heap.size, 0, none⟩) s.pages s.pages, .int .i64 0] 42)).drew := ⟨_, rfl⟩
  rw [← hw5] at HD0 ⊢
  generalize w4.heap.size + 1 = k at *
  generalize w4.heap.size = hb at *
  have hpl := played_any HD0.out p cap l (HLI.out.grown HK1.out (fun b hb => hb)) (Nat.le_refl _) hll
  clear hw5 hmk hnw hwh a0 a1 a2 a3 b0 b1 b2 b3' c0 c1 c2 c3 HK3 HK4 HP4 hd2 HD0
  obtain ⟨i31, hi31, z31a, z31b, z31c⟩ := info_parts info31
  obtain ⟨i3, hi3, z3a, z3b, z3c⟩ := info_parts info3
  go_wp2_with (first
    | (go_at_call 16; refine hpl.mono ?_; clear hpl; rintro e w7 ⟨rfl, ⟨S, H, hd7⟩, _⟩
       have hsp := pspans_any w7 d s S hd7.pool
       have HD7 := Hid.mk' hd7
       clear hd7)
    | (go_at_call 18; refine hsp.mono ?_; clear hsp; rintro e w8 ⟨v8, rfl, hx1, hx2⟩
       obtain ⟨p8, cap8, hv8, hin8, _⟩ := hx1.toIn
       subst v8
       have hbd := sp_bd S 0 s.pages
       have hcp := copySpans_any w8 p8 cap8 (sp S 0 s.pages) hin8 (by omega)
       have HD8 := Hid.mk' (HD7.out.grown hx2)
       clear hx1 hx2 hin8 hbd HD7)
    | (go_at_call 17; refine hcp.mono ?_; clear hcp; rintro e w9 ⟨v9, rfl, hx1, hx2⟩
       obtain ⟨pF, capF, hv9, hin9, hob9⟩ := hx1.toIn
       subst v9
       have hbd := sp_bd S 0 s.pages
       have hd9 := HD8.out.grown hx2
       have hw89 := hx2.size
       have HF9 := Hid.mk' hin9
       have HB9 : Hid (∀ b, pF.map (·.block) = some b → w8.heap.size ≤ b ∧ b < w9.heap.size) := fun b hb => hx1.lt b (hob9 b hb)
       have HL8 := Hid.mk' (And.intro (heap_lt HD8.out.pool.at_) (And.intro (heap_lt HD8.out.book.at_) (heap_lt HD8.out.book.held)))
       have HD9 := Hid.mk' hd9
       have hLl : (sp S 0 s.pages).length ≤ 119 := by omega
       have HBD := Hid.mk' hbd
       clear hx1 hx2 hin9 hob9 hd9 HD8 hbd))
  obtain ⟨k0, k2, k3, k4, k5, kf⟩ := HD9.out.book.cells
  obtain ⟨r0, r1, r2, r3, rf⟩ := cells4 (HD9.out.keep.at HR.out (by omega))
  have hnum := HD9.out.num
  have hcl := cn_le S s.pages
  have hs1 : IntKind.i64.wrap ((s.pages : Int) - (s.data : Int)) = (s.pages : Int) - (s.data : Int) := i64_id (by omega) (by omega)
  have hs3 : IntKind.i64.wrap ((s.pages : Int) - (s.data : Int) - (hc s H : Int)) = (cn S s.pages : Int) := by rw [i64_id (by omega) (by omega)]; omega
  have hs4 : (s.pages : Int) - (s.data : Int) - (hc s H : Int) = (cn S s.pages : Int) := by omega
  have HSUP := Hid.mk' HD9.out.pool.sup
  obtain ⟨LF, hLF⟩ : ∃ LF, LF = sp S 0 s.pages := ⟨_, rfl⟩
  rw [← hLF] at HF9 HBD hLl ⊢
  have HLF := Hid.mk' hLF
  obtain ⟨Q, hQ⟩ : ∃ Q, Q = cn S s.pages := ⟨_, rfl⟩
  rw [← hQ] at hs3 hs4 hcl hnum
  have HQ := Hid.mk' hQ
  clear hLF hQ kf rf k0 k2 k3 k4
  go_quiet (fail)
  clear hs1 hs3 hs4 k5
  have hpc := fun w => place_any at_ s.cores w h1c (by omega)
  have hcc := plc_lt at_ h1c
  generalize plc at_ s.cores = c at *
  have hQw : IntKind.i64.wrap ((Q : Int) + 1) = (Q : Int) + 1 := i64_id (by omega) (by omega)
  have HD10 := Hid.mk' (HD9.out.drewN nq)
  have HF10 := Hid.mk' (spIn_grown HF9.out (Keeps.drewN _ w9 nq))
  have hs910 : (w9.drewN nq).heap.size = w9.heap.size := rfl
  clear HF9 HD9 r0 r1 r2 r3
  generalize w9.drewN nq = w10 at *
  obtain ⟨r0, r1, r2, r3, rf⟩ := cells4 (HD10.out.keep.at HR.out (by omega))
  have ht1 := take_full w10 d s S HD10.out.pool (c : Int) ((Q : Int) + 1) (by omega) (by rw [← HQ.out]; omega)
  have ht2 := take_range w10 d s S HD10.out.pool (s.cores : Int) 0 (by omega)
  have ht3 := take_range w10 d s S HD10.out.pool (-1) 0 (by omega)
  have ht4 := take_range w10 d s S HD10.out.pool 0 (-1) (by omega)
  have hso := duo_some HD10.out s.pages 0 (by omega) (by omega)
  clear rf r1
  go_wp2_with (first
    | (go_at_call_of 20 at_; refine (hpc _).mono ?_; clear hpc; rintro e w' ⟨rfl, hw'⟩; subst w')
    | (go_at_call 19; refine ht1.mono ?_; clear ht1; rintro e w' ⟨rfl, hw'⟩; subst w')
    | (go_at_call 19; refine ht2.mono ?_; clear ht2; rintro e w' ⟨rfl, hw'⟩; subst w')
    | (go_at_call 19; refine ht3.mono ?_; clear ht3; rintro e w' ⟨rfl, hw'⟩; subst w')
    | (go_at_call 19; refine ht4.mono ?_; clear ht4; rintro e w' ⟨rfl, hw'⟩; subst w')
    | (go_at_call 21; refine hso.mono ?_; clear hso; rintro e w15 ⟨v15, rfl, hx1, hx2⟩
       obtain ⟨T, H', n1, n2, n3, n4, n5, n6, n7, n8, n9, n10, n11⟩ := hx1
       have hlo : ∀ b, v15.ownBlock = some b → w10.heap.size ≤ b ∧ b < w15.heap.size := fun b hb => n1.lt b hb
       obtain ⟨p15, cap15, hv15, hin15, hob15⟩ := n1.toIn
       have HB15 : Hid (∀ b, p15.map (·.block) = some b → w10.heap.size ≤ b ∧ b < w15.heap.size) := fun b hb => hlo b (hob15 b hb)
       subst v15
       have hc15 := numAt_cap n1
       have hTl : T.length ≤ 119 := by have := n2.num; have := hc_le s H; omega
       have HG15 := Hid.mk' n2
       have HA15 := Hid.mk' (gathered_all HG.out n2 n3)
       have HM15 := Hid.mk' n6
       have HI15 := Hid.mk' hin15
       have HK15 := Hid.mk' hx2
       have HP15 := Hid.mk' n5
       have hs15 := hx2.size
       clear n1 n2 n3 n4 n5 n6 n7 n8 n9 n10 n11 hx2 hlo hin15 hob15))
  have hpk := fun w => place_any at_ (T.length + 1) w (by omega) (by omega)
  rw [Int.natCast_add] at hpk
  have hKl := plc_lt at_ (show 1 ≤ T.length + 1 by omega)
  generalize plc at_ (T.length + 1) = K at *
  have hTw : IntKind.i64.wrap ((T.length : Int) + 1) = (T.length : Int) + 1 := i64_id (by omega) (by omega)
  have hsl1 := fun wx => slice_to wx p15 T.length cap15 K (by omega)
  have hsl2 := fun wx => slice_from wx p15 T.length cap15 K (by omega)
  obtain ⟨TI, hTI⟩ : ∃ TI : List Int, TI = T.map fun q : Nat => (q : Int) := ⟨_, rfl⟩
  have hTIl : TI.length = T.length := by rw [hTI]; simp
  rw [← hTI] at HI15
  have HTI := Hid.mk' hTI
  have HP2 : Hid (∀ wx, IntIn wx p15 TI → 0 < T.length - K → ∃ ad, (if cap15 = K then p15 else p15.map (·.add K)) = some ad ∧ ∀ j u, (numCells (TI.drop K))[j]? = some u → wx.cell? (ad.add j) = some u) := fun wx hx h0 => hx.behind cap15 K (by omega) (by omega)
  generalize (if cap15 = K then p15 else p15.map (·.add K)) = p2 at *
  have HC1 := Hid.mk' (HI15.out.ahead K (by omega))
  have hb4 := plc_lt bad (show 1 ≤ 4 by omega)
  have hpb4 := fun w => place_any bad 4 w (by omega) (by omega)
  have HSH : Hid (∀ wx, Keeps (fun j => w15.heap.size ≤ j) w15 wx → (wx.cell? ⟨w1.heap.size, 0, none⟩ = some (.int .i64 s.pages) ∧ wx.cell? ⟨w1.heap.size, 3, none⟩ = some (.int .i64 s.data)) ∧ PoolAt wx d s S ∧ SpIn wx pF (castL LF) ∧ IntIn wx p15 TI) := by
    intro wx hx
    have hl8 := HL8.out
    have h15 := HK15.out.at (HD10.out.keep.at HR.out (by omega)) (by
      have := HD10.out.low
      have := heap_lt (HD10.out.keep.at HR.out (by omega))
      omega)
    have hh := cells4 (hx.at h15 (by have := heap_lt h15; omega))
    refine ⟨⟨hh.1, hh.2.2.2.1⟩, HP15.out.kept hx (by have := heap_lt HP15.out.at_; omega), ?_, HI15.out.grown hx (fun b hb => hb)⟩
    exact spIn_grown (HF10.out.kept HK15.out (fun b hb e => by have := HB9.out b e; omega)) hx
  clear hTI
  have HGB : Hid (∀ (X wv : Int) (wx : World) (pp : Option Addr) (cc : Nat), ((inD s X = false ∧ wv = 52) ∨ (∃ x : Nat, X = x ∧ s.data ≤ x ∧ x < s.pages ∧ (S x = true ∨ x ∈ T) ∧ wv = 51)) → PoolAt wx d s S → IntIn wx pp (TI.take K ++ X :: TI.drop K) →
      Calls Try.prog 23 #[.pointer (some ⟨d, 0, none⟩), .slice pp (K + 1 + (T.length - K)) cc] wx fun e w' => e = .returned (.int .i64 wv) ∧ PoolAt w' d s S ∧ Keeps (fun j => wx.heap.size ≤ j) wx w') := by
    intro X wv wx pp cc hX hpx hix
    have hlen : (TI.take K ++ X :: TI.drop K).length = K + 1 + (T.length - K) := by simp; omega
    have hTin : ∀ y ∈ TI, inD s y = true := by
      intro y hy
      rw [HTI.out, List.mem_map] at hy
      obtain ⟨q, hq, rfl⟩ := hy
      have := HG15.out.mem q hq
      exact inD_iff.2 ⟨by omega, by omega⟩
    have hall : (TI.take K ++ X :: TI.drop K).all (inD s) = inD s X := by
      rw [List.all_append, List.all_cons]
      have h1 : (TI.take K).all (inD s) = true := List.all_eq_true.2 fun y hy => hTin y (List.mem_of_mem_take hy)
      have h2 : (TI.drop K).all (inD s) = true := List.all_eq_true.2 fun y hy => hTin y (List.mem_of_mem_drop hy)
      rw [h1, h2]; simp
    have hmap : (TI.take K ++ X :: TI.drop K).map Int.toNat = T.take K ++ X.toNat :: T.drop K := by
      rw [List.map_append, List.map_cons, List.map_take, List.map_drop, HTI.out, map_toNat]
    have hg := give_bad wx d s S hpx pp cc _ hix (by rw [hlen]; unfold maxLen; omega) (by
      rcases hX with ⟨h1, _⟩ | ⟨x, rfl, h1, h2, h3, _⟩
      · left; rw [hall]; exact h1
      · right
        rw [hmap, Int.toNat_natCast]
        rcases h3 with h3 | h3
        · exact gv_dup _ _ x h3 (by simp)
        · rw [← List.take_append_drop K T] at h3
          rcases List.mem_append.1 h3 with h3 | h3
          · exact gv_twice _ _ S x h3
          · exact gv_back _ _ S x h3)
    rw [hlen, hall] at hg
    refine hg.mono ?_
    rintro e w' ⟨h1, h2, h3⟩
    refine ⟨?_, h2, h3⟩
    rw [h1]
    rcases hX with ⟨h1, rfl⟩ | ⟨x, rfl, h4, h5, _, rfl⟩
    · rw [h1]; rfl
    · rw [inD_iff.2 ⟨by omega, by omega⟩]; rfl
  have hSb : ∀ q : Nat, q ∈ T → S q = false := fun q hq => by
    have h1 := HG15.out.mem q hq
    rw [HM15.out q h1.1 h1.2.1, h1.2.2]; rfl
  have HFU := Hid.mk' (pool_full HM15.out HSUP.out (fun q hq => ⟨(HG15.out.mem q hq).1, (HG15.out.mem q hq).2.1⟩) HA15.out)
  have HGI : Hid (∀ wx, PoolAt wx d s S → IntIn wx p15 TI → Calls Try.prog 23 #[.pointer (some ⟨d, 0, none⟩), .slice p15 T.length cap15] wx fun e w' => e = .returned (.int .i64 0) ∧ PoolAt w' d s (allS s) ∧ Keeps (fun k => k = d ∨ wx.heap.size ≤ k) wx w') := by
    intro wx h1 h2
    have hall : TI.all (inD s) = true := by
      rw [List.all_eq_true, HTI.out]
      intro x hx
      rw [List.mem_map] at hx
      obtain ⟨q, hq, rfl⟩ := hx
      have := HG15.out.mem q hq
      exact inD_iff.2 ⟨by omega, by omega⟩
    have hg := give_in wx d s S h1 p15 cap15 _ h2 (by rw [hTIl]; unfold maxLen; omega) hall
    rw [hTIl, HTI.out, map_toNat, gv_all T S HG15.out.nodup hSb, HFU.out] at hg
    refine hg.mono ?_
    rintro e w' (⟨h0, _⟩ | ⟨S', h0, h1, h2, h3⟩)
    · cases h0
    · cases h0; exact ⟨h1, h2, h3⟩
  have HK0 : Hid (∀ wx, Keeps (fun j => j = d ∨ w15.heap.size ≤ j) w15 wx → Keeps (fun j => w.heap.size ≤ j) w wx) := by
    intro wx hx
    have := HD10.out.low
    have := HD10.out.keep.size
    exact ((HK1.out.then HD10.out.keep (fun j hj => by left; omega)).then HK15.out (fun j hj => by left; omega)).then hx (fun j hj => by left; omega)
  have hcn := cn_allS HG.out
  obtain ⟨Q2, hQ2⟩ : ∃ Q2, Q2 = cn (allS s) s.pages := ⟨_, rfl⟩
  rw [← hQ2] at hcn
  have HQ2 := Hid.mk' hQ2
  have hu1 : IntKind.i64.wrap ((s.pages : Int) - (s.data : Int)) = (Q2 : Int) := by rw [i64_id (by omega) (by omega)]; omega
  have hu2 : (s.pages : Int) - (s.data : Int) = (Q2 : Int) := by omega
  have hu3 : IntKind.i64.wrap ((s.data : Int) - 1) = (s.data : Int) - 1 := i64_id (by omega) (by omega)
  have hdd : 5 ≤ s.data := by have := HG.out.2.2.2.2.2.2.2.1; have := HG.out.2.2.1; omega
  obtain ⟨B4, hB4⟩ : ∃ B4, B4 = plc bad 4 := ⟨_, rfl⟩
  rw [← hB4] at hpb4 hb4
  obtain rfl : B4 = 2 := by rw [hB4, HBE.out]
  clear hB4 hQ2 hSb
  · by_cases hL0 : LF.length = 0
    · obtain rfl : LF = [] := List.length_eq_zero_iff.1 hL0
      clear hL0
      go_wp2_with (first
        | (go_at_call_of 20 at_; refine (hpk _).mono ?_; clear hpk; rintro e w' ⟨rfl, hw'⟩; subst w')
        | (go_at_call_of 20 bad; refine (hpb4 _).mono ?_; clear hpb4; rintro e w' ⟨rfl, hw'⟩; subst w')
        | (at_builtin; refine wpList_append_copy _ rfl _ _ 49 rfl 3 i3 (.int .i64 0) 1 8 Try.underlying49 hi3 z3a z3b z3c rfl (by decide) rfl p15 K cap15 (numCells (TI.take K)) rfl (by rw [numCells_len]; simp; omega) HC1.out (numCells_ones _) (by unfold maxLen; omega) (by omega) ?_; intro v16 w16 hown16 hgrow16
           have hK16 : Keeps (fun j => w15.heap.size ≤ j) w15 w16 := Keeps.of hgrow16 (by simp)
           have hsp2 := pspans_any w16 d s S (HSH.out w16 hK16).2.1
           rw [← HLF.out] at hsp2
           have HK16 := Hid.mk' hK16
           have hs16 := hK16.size
           clear hown16 hgrow16 hK16 HC1)
        | (go_at_call 18; refine hsp2.mono ?_; clear hsp2; rintro e w20 ⟨v20, rfl, hx1, hx2⟩
           obtain ⟨p20, cap20, hv20, hin20, _⟩ := hx1.toIn
           subst v20
           have hK20 := HK16.out.then hx2 (fun j hj => by left; omega)
           have hsm := sameSpans_yes w20 p20 pF cap20 capF [] hin20 (HSH.out w20 hK20).2.2.1 (by simp); simp only [List.length_nil] at hsm ⊢
           have HF22 := Hid.mk' (HK0.out w20 (hK20.mono (fun j _ hj => Or.inr hj)))
           clear hx1 hx2 hin20 hK20)
        | (go_at_call 22; refine hsm.mono ?_; clear hsm; rintro e w' ⟨rfl, m21, hw'⟩; subst w'))
      go_ret
      exact ⟨rfl, HF22.out.trans (Keeps.drewN _ _ _)⟩
    · obtain ⟨bF, oF, rfl, hbF, hcF⟩ := HF10.out (by rw [castL_len]; omega)
      have hpF := fun w => place_any at_ LF.length w (by omega) (by omega)
      have hIl := plc_lt at_ (show 1 ≤ LF.length by omega)
      generalize plc at_ LF.length = I at *
      obtain ⟨f, hf⟩ : ∃ f, f = (LF.getD I (0, 0)).1 := ⟨_, rfl⟩
      have HF := Hid.mk' hf
      have hLz : ((LF.length : Int) == 0) = false := by rw [beq_eq_false_iff_ne]; omega
      have hLz2 : ¬ (LF.length : Int) = 0 := by omega
      have hLz3 : ¬ LF.length = 0 := by omega
      have hI1 : (I : Int) < (LF.length : Int) := by omega
      have hI0 : (0 : Int) ≤ (I : Int) := by omega
      have HMEM : Hid (S f = true) := by
        have h1 : f ∈ pagesOf LF := by
          rw [hf]
          have hm := getD_mem (d := (0, 0)) hIl
          unfold pagesOf
          rw [List.mem_flatMap]
          refine ⟨_, hm, ?_⟩
          rw [List.mem_range'_1]
          have h2 : LF.getD I (0, 0) = LF[I] := by rw [List.getD_eq_getElem?_getD, List.getElem?_eq_getElem hIl]; rfl
          have hn : Neat LF := by rw [HLF.out]; exact sp_neat _ _ _
          have := (neat_get hn I hIl).1
          rw [h2]
          omega
        rw [HLF.out, sp_pages] at h1
        exact (mem_fl.1 h1).2.2
      clear hf hcF
      have HGX := Hid.mk' (fun (wx : World) (pp : Option Addr) (cc : Nat) => HGB.out ((f : Int)) 51 wx pp cc (by
        right; exact ⟨f, rfl, (HSUP.out f HMEM.out).1, (HSUP.out f HMEM.out).2, Or.inl HMEM.out, rfl⟩))
      go_wp2_with (first
        | (go_at_call_of 20 at_; refine (hpk _).mono ?_; clear hpk; rintro e w' ⟨rfl, hw'⟩; subst w')
        | (go_at_call_of 20 bad; refine (hpb4 _).mono ?_; clear hpb4; rintro e w' ⟨rfl, hw'⟩; subst w')
        | (go_at_call_of 20 at_; refine (hpF _).mono ?_; clear hpF; rintro e w' ⟨rfl, hw'⟩; subst w')
        | (at_builtin; refine wpList_append_copy _ rfl _ _ 49 rfl 3 i3 (.int .i64 0) 1 8 Try.underlying49 hi3 z3a z3b z3c rfl (by decide) rfl p15 K cap15 (numCells (TI.take K)) rfl (by rw [numCells_len]; simp; omega) HC1.out (numCells_ones _) (by unfold maxLen; omega) (by omega) ?_; intro v16 w16 hown16 hgrow16
           have HO16 := Hid.mk' hown16
           have hK16 : Keeps (fun j => w15.heap.size ≤ j) w15 w16 := Keeps.of hgrow16 (by simp)
           obtain ⟨⟨y0, y3⟩, hy1, hy2, hy3⟩ := HSH.out w16 hK16
           have yF : w16.cell? ⟨bF, oF + I * 2, none⟩ = some (.int .i64 (f : Int)) := by
             obtain ⟨b', o', e', _, hc'⟩ := hy2 (by rw [castL_len]; omega)
             cases e'
             have := (hc' I (by rw [castL_len]; exact hIl)).1
             rw [castL_get, ← HF.out] at this
             exact this
           have HK16 := Hid.mk' hK16
           have hs16 := hK16.size
           clear hown16 hgrow16 hK16 HC1 hy1 hy2 hy3)
        | (at_builtin; refine wpList_append_lies _ rfl _ _ 49 rfl w15.heap.size 3 i3 (.int .i64 0) 1 8 Try.underlying49 hi3 z3a z3b z3c rfl (by decide) _ K (numCells (TI.take K)) rfl (World.ownsRow.alloc HO16.out _) ⟨w16.heap.size, 0, none⟩ 1 1 [.int .i64 ((f : Int))] rfl rfl (World.news_of_block (MapKept.heap_alloc w16 _).1) (by simp [Value.oneCell']) (by decide) (by unfold maxLen; omega) (by omega) (by simp; omega) (w16.heap.size + 1) (by simp) ?_; intro g3 c17 w17 hown17 hgrow17 hloc17 hlt17
           have HO17 := Hid.mk' hown17
           have hK17 : Keeps (fun j => w15.heap.size ≤ j) w15 w17 := (HK16.out.step (World.grownBy_alloc w16 (.cells #[.int .i64 ((f : Int))] 3) none) (by simp)).step hgrow17 (fun k hk => Or.inl (HO16.out.lt k hk).1)
           have HI17 := Hid.mk' (HSH.out w17 hK17).2.2.2
           have HK17 := Hid.mk' hK17
           have hs17 := hK17.size
           clear hown17 hgrow17 hloc17 hlt17 hK17 HO16)
        | (at_builtin; refine wpList_append_any _ rfl _ _ 49 rfl w15.heap.size 3 i3 (.int .i64 0) 1 8 Try.underlying49 hi3 z3a z3b z3c rfl (by decide) (.slice (some ⟨g3, 0, none⟩) (K + 1) c17) (K + 1) (numCells (TI.take K) ++ [.int .i64 ((f : Int))]) rfl HO17.out p2 (T.length - K) (cap15 - K) (numCells (TI.drop K)) rfl (by rw [numCells_len]; simp; omega) (HP2.out w17 HI17.out) (numCells_ones _) (by unfold maxLen; omega) (by omega) (by omega) ?_; intro v18 w18 hown18 hgrow18
           have hK18 : Keeps (fun j => w15.heap.size ≤ j) w15 w18 := HK17.out.step hgrow18 (fun k hk => Or.inl (HO17.out.lt k hk).1)
           obtain ⟨g4, c18, hv18, _, _⟩ := World.ownsRow.form hown18 (by omega)
           subst v18
           have hin18 : IntIn w18 (some ⟨g4, 0, none⟩) (TI.take K ++ ((f : Int)) :: TI.drop K) := by
             refine intIn_row (B := w15.heap.size) (n := K + 1 + (T.length - K)) (cap := c18) (xs := []) ?_
             have e : numCells (TI.take K ++ ((f : Int)) :: TI.drop K) ++ [] = numCells (TI.take K) ++ [.int .i64 ((f : Int))] ++ numCells (TI.drop K) := by simp [numCells]
             rw [e]; exact hown18
           have hgb := HGX.out w18 (some ⟨g4, 0, none⟩) c18 (HSH.out w18 hK18).2.1 hin18
           have HK18 := Hid.mk' hK18
           have hs18 := hK18.size
           clear hown18 hgrow18 hK18 hin18 HO17)
        | (go_at_call 23; refine hgb.mono ?_; clear hgb; rintro e w19 ⟨rfl, hp19, hk19⟩
           have hK19 := HK18.out.then hk19 (fun j hj => by left; omega)
           have hsp2 := pspans_any w19 d s S hp19
           rw [← HLF.out] at hsp2
           have HK19 := Hid.mk' hK19
           have hs19 := hK19.size
           clear hp19 hk19 hK19)
        | (go_at_call 18; refine hsp2.mono ?_; clear hsp2; rintro e w20 ⟨v20, rfl, hx1, hx2⟩
           obtain ⟨p20, cap20, hv20, hin20, _⟩ := hx1.toIn
           subst v20
           have hK20 := HK19.out.then hx2 (fun j hj => by left; omega)
           obtain ⟨_, hy1, hy2, hy3⟩ := HSH.out w20 hK20
           have hsm := sameSpans_yes w20 p20 (some ⟨bF, oF, none⟩) cap20 capF LF hin20 hy2 (by omega)
           have hfr := fun m => free_any (w20.drewN m) d s S (hy1.kept (Keeps.drewN (fun _ => False) _ m) (by simp))
           rw [← HQ.out] at hfr
           have hgi := fun m => HGI.out (w20.drewN m) (hy1.kept (Keeps.drewN (fun _ => False) _ m) (by simp)) (hy3.grown (Keeps.drewN (fun _ => False) w20 m) (by simp))
           have HK20 := Hid.mk' hK20
           have hs20 := hK20.size
           clear hx1 hx2 hin20 hK20 hy1 hy2 hy3)
        | (go_at_call 22; refine hsm.mono ?_; clear hsm; rintro e w' ⟨rfl, m21, hw'⟩; subst w')
        | (go_at_call 11; refine (hfr _).mono ?_; clear hfr; rintro e w' ⟨rfl, hw'⟩; subst w')
        | (go_at_call 23; refine (hgi _).mono ?_; clear hgi; rintro e w22 ⟨rfl, hp22, hk22⟩
           have hK22 : Keeps (fun j => j = d ∨ w15.heap.size ≤ j) w15 w22 := ((HK20.out.mono (fun j _ hj => Or.inr hj)).trans (Keeps.drewN _ w20 m21)).then hk22 (fun j hj => by have e : (w20.drewN m21).heap.size = w20.heap.size := rfl; omega)
           have h15 := HK15.out.at (HD10.out.keep.at HR.out (by omega)) (by
             have := HD10.out.low
             have := heap_lt (HD10.out.keep.at HR.out (by omega))
             omega)
           have hlow := HD10.out.low
           obtain ⟨z0, z1, z2, z3, zf⟩ := cells4 (hK22.at h15 (by have := heap_lt (HD10.out.keep.at HR.out (by omega)); have := HK15.out.size; omega))
           have hfr2 := fun m => free_any (w22.drewN m) d s (allS s) (hp22.kept (Keeps.drewN (fun _ => False) _ m) (by simp))
           rw [← HQ2.out] at hfr2
           have HF22 := Hid.mk' (HK0.out w22 hK22)
           clear hp22 hk22 hK22 h15 zf z1 z2))
      go_quiet (first | (go_at_call 11; exact Calls.quiet_of_same (hfr2 _)))
      go_wp2
      go_ret
      exact ⟨ret_bool (by simp), HF22.out.trans (Keeps.drewN _ _ _)⟩

end Go.Proofs.Ytnafocbgapianaa
