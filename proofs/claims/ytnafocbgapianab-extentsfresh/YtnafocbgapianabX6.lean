import Derived.Test.YtnafocbgapianabX5
namespace Go.Proofs.Ytnafocbgapianab
open Go.RowKit

theorem pages_fl' (S : Nat → Bool) (n : Nat) : (pagesOf (sp S 0 n)).length = cn S n := by
  rw [sp_pages, fl_length]; simp

/-- What is taken in two steps, all of it, and given back. -/
theorem two_takes {s : Sh} (hg : s.Good) {S : Nat → Bool} (hs : ∀ i, S i = true → s.data ≤ i ∧ i < s.pages) {c n : Nat} (hc : c < s.cores) (hn : n ≤ cn S s.pages) {S1 S2 : Nat → Bool} {T1 T2 : List Nat} (e1 : S1 = (tk s c S n).1) (e2 : T1 = (tk s c S n).2.2) (e3 : S2 = (tk s c S1 (cn S1 s.pages)).1) (e4 : T2 = (tk s c S1 (cn S1 s.pages)).2.2) :
    T1.length = n ∧ cn S1 s.pages + n = cn S s.pages ∧ T2.length = cn S1 s.pages ∧ cn S2 s.pages = 0 ∧ T1.Nodup ∧ T2.Nodup ∧ (∀ i, S1 i = true → s.data ≤ i ∧ i < s.pages) ∧ (∀ q ∈ T1, S2 q = false ∧ s.data ≤ q ∧ q < s.pages) ∧ (∀ q ∈ T2, setH S2 T1 q = false ∧ s.data ≤ q ∧ q < s.pages) ∧ setH (setH S2 T1) T2 = S := by
  obtain ⟨a1, a2, a3, a4⟩ := tk_all hg hs hc hn
  rw [← e1, ← e2] at *
  have hs1 : ∀ i, S1 i = true → s.data ≤ i ∧ i < s.pages := fun i hi => hs i (by rw [a4] at hi; exact (Bool.and_eq_true_iff.1 hi).1)
  obtain ⟨b1, b2, b3, b4⟩ := tk_all hg hs1 hc (Nat.le_refl (cn S1 s.pages))
  rw [← e3, ← e4] at *
  have hm1 := cn_minus (n := s.pages) T1 a2 (fun q hq => ⟨a3 q hq, (hs q (a3 q hq)).2⟩) a4
  have hm2 := cn_minus (n := s.pages) T2 b2 (fun q hq => ⟨b3 q hq, (hs1 q (b3 q hq)).2⟩) b4
  have hd : ∀ q ∈ T2, q ∉ T1 := fun q hq h => by
    have := b3 q hq
    rw [a4 q] at this
    simp [h] at this
  refine ⟨a1, by omega, b1, by omega, a2, b2, hs1, ?_, ?_, ?_⟩
  · intro q hq
    have h1 := hs q (a3 q hq)
    refine ⟨?_, h1.1, h1.2⟩
    rw [b4 q, a4 q]; simp [hq]
  · intro q hq
    have h1 := hs1 q (b3 q hq)
    refine ⟨?_, h1.1, h1.2⟩
    unfold setH
    rw [b4 q]
    simp [hq, hd q hq]
  · funext j
    unfold setH
    rw [b4 j, a4 j]
    by_cases h1 : j ∈ T1
    · simp [h1, a3 j h1]
    · by_cases h2 : j ∈ T2
      · have := b3 j h2
        rw [a4 j] at this
        simp [h1] at this
        simp [h1, h2, this]
      · simp [h1, h2]

theorem taken_list {s : Sh} {T : List Nat} (h : ∀ q ∈ T, q < s.pages) (hg : s.Good) : Neat (T.foldl addP []) ∧ (∀ u ∈ T.foldl addP [], u.1 + u.2 ≤ 1024) ∧ pagesOf (T.foldl addP []) = T := by
  have hb := fold_bd T (l := []) (M := s.pages) (by simp) h
  have := hg.2.1
  exact ⟨neat_fold _ _ trivial, fun u hu => by have := hb.1 u hu; omega, by rw [pagesOf_fold]; simp [pagesOf]⟩

set_option maxHeartbeats 16000000 in
set_option maxRecDepth 20000 in
theorem fresh_walk (w : World) (pages cores core n : Int) (p : Option Addr) (cap : Nat) (l : List (Bool × Int × Int)) (hl : MvIn w p l) (hll : l.length ≤ maxLen) (hpb : -9223372036854775808 ≤ pages ∧ pages ≤ 9223372036854775807) :
    Calls Try.prog 7 #[.int .i64 pages, .int .i64 cores, .slice p l.length cap, .int .i64 core, .int .i64 n] w fun e w' => e = .returned (.bool true) ∧ Keeps (fun k => w.heap.size ≤ k) w w' := by
  have hshape := shape_any pages (pages.tdiv 3) cores
  obtain ⟨s, hs⟩ : ∃ s, s = mkSh pages (pages.tdiv 3) cores := ⟨_, rfl⟩
  rw [← hs] at hshape
  have hg : s.Good := by rw [hs]; exact mkSh_good _ _ _
  have hq7 : IntKind.i64.wrap (pages.tdiv 3) = pages.tdiv 3 := tdiv_wrap hpb (by omega)
  have hpg : s.pages ≤ 119 := by rw [hs]; exact mkSh_pages _ _ _
  have HG := Hid.mk' hg
  have HLI := Hid.mk' hl
  unfold Sh.agg at hshape
  clear hs hl
  go_enter Try.func7, Try.ntmps7
  go_wp2_with (first
    | (go_at_call 9; refine (hshape _).mono ?_; rintro e w1 ⟨rfl, hk⟩
       have HK1 := Hid.mk' (hk.then (X := fun k => w.heap.size ≤ k) (Keeps.of (X := fun k => w.heap.size ≤ k) (World.grownBy_alloc w1 (.cells #[.int .i64 s.pages, .int .i64 s.inodes, .int .i64 s.cores, .int .i64 s.data] 24) none) (by simp)) (fun k hk => Or.inl hk))
       have hR := (MapKept.heap_alloc w1 (.cells #[.int .i64 s.pages, .int .i64 s.inodes, .int .i64 s.cores, .int .i64 s.data] 24)).1
       have hsz := hk.size
       clear hk))
  obtain ⟨w2, hw2⟩ : ∃ w2, w2 = w1.alloc (.cells #[.int .i64 s.pages, .int .i64 s.inodes, .int .i64 s.cores, .int .i64 s.data] 24) := ⟨_, rfl⟩
  have hs2 : w2.heap.size = w1.heap.size + 1 := by rw [hw2]; simp
  rw [← hw2] at HK1 hR ⊢
  have HR := Hid.mk' hR
  obtain ⟨a0, a1, a2, a3, af⟩ := cells4 hR
  have hwh := fun m => whole_any s HG.out (w2.drewN m)
  unfold Sh.agg at hwh
  clear hw2 hR af hshape
  go_region_held3 (fun wx => wx.cell? ⟨w1.heap.size, 0, none⟩ = some (.int .i64 s.pages) ∧ wx.cell? ⟨w1.heap.size, 1, none⟩ = some (.int .i64 s.inodes) ∧ wx.cell? ⟨w1.heap.size, 2, none⟩ = some (.int .i64 s.cores) ∧ wx.cell? ⟨w1.heap.size, 3, none⟩ = some (.int .i64 s.data))
    (first | go_keep)
    (first
      | (go_at_call 11; refine (hwh _).mono ?_; rintro e w3 ⟨b3, rfl, hx1, hx2, hx3⟩
         have hK3 : Keeps (fun k => w2.heap.size ≤ k) w2 w3 := (Keeps.drewN _ w2 0).trans ⟨hx3.os, hx3.tape, hx3.output, hx3.size, hx3.block⟩
         obtain ⟨b0, b1, b2, b3', bf⟩ := cells4 (hK3.at HR.out (by omega))
         have hnw := newWhole s HG.out w3 b3 hx1
         unfold Sh.agg at hnw
         have HK3 := Hid.mk' hK3
         clear hx1 hx2 hx3 hK3 bf)
      | (go_at_call 10; refine hnw.mono ?_; rintro e w4 ⟨d, rfl, hd4, hp4, hk4⟩
         have hK4 := HK3.out.then hk4 (fun k hk => by right; have := HK3.out.size; omega)
         obtain ⟨c0, c1, c2, c3, cf⟩ := cells4 (hK4.at HR.out (by omega))
         have HK4 := Hid.mk' hK4
         have HP4 := Hid.mk' hp4
         have hd2 : w2.heap.size ≤ d := by have := HK3.out.size; omega
         clear hk4 hK4 cf hp4 hd4))
  go_wp2
  have hmk := fun w => run_make_row' (P := Try.prog) 33 4 (.bool false) 1 Try.underlying33 info4 rfl .i64 .i64 s.pages (by omega) (by omega) w
  go_region_held3 (fun wx => wx.cell? ⟨w1.heap.size, 0, none⟩ = some (.int .i64 s.pages) ∧ wx.cell? ⟨w1.heap.size, 1, none⟩ = some (.int .i64 s.inodes) ∧ wx.cell? ⟨w1.heap.size, 2, none⟩ = some (.int .i64 s.cores) ∧ wx.cell? ⟨w1.heap.size, 3, none⟩ = some (.int .i64 s.data))
    (first | go_keep)
    (fail)
  have HD0 := Hid.mk' (duo_start HP4.out HK4.out hd2)
  have h8 : s.cores ≤ 8 := HG.out.2.2.2.2.2.2.1
  have h1c : 1 ≤ s.cores := HG.out.2.2.2.2.2.1
  have h24 : 24 ≤ s.pages := HG.out.1
  have h9 : s.data + 8 ≤ s.pages := HG.out.2.2.2.2.2.2.2.2
  obtain ⟨w5, hw5⟩ : ∃ w5, w5 = ((w4.alloc (.cells (madeCells #[.bool false] s.pages) 4)).alloc (.cells #[.int .i64 s.pages, .int .i64 s.inodes, .int .i64 s.cores, .int .i64 s.data, .slice (some ⟨w4.heap.size, 0, none⟩) s.pages s.pages, .int .i64 0] 35)).drew := ⟨_, rfl⟩
  rw [← hw5] at HD0 ⊢
  generalize w4.heap.size + 1 = k at *
  generalize w4.heap.size = hb at *
  have hf25 := fun m => first_any (w5.drewN m)
  clear hw5 hmk hnw hwh a0 a1 a2 a3 b0 b1 b2 b3' c0 c1 c2 c3 HK3 HK4 HP4 hd2
  go_wp2_with (first
    | (go_at_call 25; refine (hf25 0).mono ?_; clear hf25; rintro e w6 ⟨rfl, hk6⟩
       have hk6' : Keeps (fun j => w5.heap.size ≤ j) w5 w6 := (Keeps.drewN _ w5 0).trans ⟨hk6.os, hk6.tape, hk6.output, hk6.size, hk6.block⟩
       have hpl := played_any (HD0.out.grown hk6') p cap l (HLI.out.grown HK1.out (fun b hb => hb)) (Nat.le_refl _) hll
       clear hk6 hk6')
    | (go_at_call 12; refine hpl.mono ?_; clear hpl; rintro e w7 ⟨rfl, ⟨S, H, hd7⟩, _⟩
       obtain ⟨r0, r1, r2, r3, rf⟩ := cells4 (hd7.keep.at HR.out (by omega))
       have HD7 := Hid.mk' hd7
       clear hd7 rf r0 r1 r3))
  have hpc := fun w => place_any core s.cores w h1c (by omega)
  have hcc := plc_lt core h1c
  generalize plc core s.cores = c at *
  have HF0 : Hid (FR w2 w2.heap.size d k hb s S H (fun _ => none) (fun _ => none) w7) := by
    have h7 := HD7.out
    exact ⟨⟨(fun _ _ h => by cases h), (fun _ _ h => by cases h), (fun _ _ h => by cases h), (fun _ _ _ _ _ h => by cases h), (fun _ _ _ _ h => by cases h), (fun _ _ h => by cases h), h7.keep, h7.keep.size⟩, h7.pool, h7.book, h7.low.1⟩
  have HSUP := Hid.mk' HD7.out.pool.sup
  obtain ⟨LF, hLF⟩ : ∃ LF, LF = sp S 0 s.pages := ⟨_, rfl⟩
  obtain ⟨LC, hLC⟩ : ∃ LC, LC = sp S (areaF s (c : Int)) (areaC s (c : Int)) := ⟨_, rfl⟩
  obtain ⟨Q, hQ⟩ : ∃ Q, Q = cn S s.pages := ⟨_, rfl⟩
  have hQl : Q ≤ 119 := by rw [hQ]; have := cn_le S s.pages; omega
  have HLF : Hid (LF = sp S 0 s.pages ∧ Neat LF ∧ (∀ u ∈ LF, u.1 + u.2 ≤ 1024) ∧ (pagesOf LF).length = Q) := by
    refine ⟨hLF, ?_, ?_, ?_⟩
    · rw [hLF]; exact sp_neat _ _ _
    · rw [hLF]; intro u hu; have := (sp_bd S 0 s.pages).1 u hu; omega
    · rw [hLF, pages_fl', hQ]
  have HLC := Hid.mk' hLC
  have HQ := Hid.mk' hQ
  have hpn := fun w => place_any n (Q + 1) w (by omega) (by omega)
  rw [Int.natCast_add] at hpn
  have hwn := plc_lt n (show 1 ≤ Q + 1 by omega)
  generalize plc n (Q + 1) = want at *
  have hQw : IntKind.i64.wrap ((Q : Int) + 1) = (Q : Int) + 1 := i64_id (by omega) (by omega)
  obtain ⟨S1, hS1⟩ : ∃ S1, S1 = (tk s c S want).1 := ⟨_, rfl⟩
  obtain ⟨T1, hT1⟩ : ∃ T1, T1 = (tk s c S want).2.2 := ⟨_, rfl⟩
  obtain ⟨S2, hS2⟩ : ∃ S2, S2 = (tk s c S1 (cn S1 s.pages)).1 := ⟨_, rfl⟩
  obtain ⟨T2, hT2⟩ : ∃ T2, T2 = (tk s c S1 (cn S1 s.pages)).2.2 := ⟨_, rfl⟩
  obtain ⟨u1, u2, u3, u4, u5, u6, u7, u8, u9, u10⟩ := two_takes HG.out HSUP.out hcc (by rw [← hQ]; omega) hS1 hT1 hS2 hT2
  obtain ⟨Q1, hQ1⟩ : ∃ Q1, Q1 = cn S1 s.pages := ⟨_, rfl⟩
  rw [← hQ1] at u2 u3 hS2 hT2
  rw [← hQ] at u2
  have HU := Hid.mk' (And.intro u1 (And.intro u3 (And.intro u4 (And.intro u5 (And.intro u6 (And.intro u8 (And.intro u9 u10)))))))
  have HL1 := Hid.mk' (taken_list (s := s) (T := T1) (fun q hq => (u8 q hq).2.2) HG.out)
  have HL2 := Hid.mk' (taken_list (s := s) (T := T2) (fun q hq => (u9 q hq).2.2) HG.out)
  have HTK := Hid.mk' (And.intro hS1 (And.intro hT1 (And.intro hS2 (And.intro hT2 hQ1))))
  obtain ⟨L1, hL1⟩ : ∃ L1, L1 = T1.foldl addP [] := ⟨_, rfl⟩
  obtain ⟨L2, hL2⟩ : ∃ L2, L2 = T2.foldl addP [] := ⟨_, rfl⟩
  rw [← hL1] at HL1
  rw [← hL2] at HL2
  have HLL := Hid.mk' (And.intro hL1 hL2)
  have hw1 : want + Q1 = Q := by omega
  clear hLF hLC hQ hS1 hT1 hS2 hT2 hQ1 hL1 hL2 u1 u2 u3 u4 u5 u6 u7 u8 u9 u10 HD7 HD0
  have hsp1 := fr_spans HF0.out 0
  rw [← HLF.out.1] at hsp1
  go_wp2_with (first
    | (go_at_call_of 16 core; refine (hpc _).mono ?_; clear hpc; rintro e w' ⟨rfl, hw'⟩; subst w')
    | (go_at_call 14; refine hsp1.mono ?_; clear hsp1; rintro e w8 ⟨p1, e1, rfl, h8⟩
       have hco1 := fr_core h8 (c : Int) 1
       rw [← HLC.out] at hco1
       clear h8)
    | (go_at_call 19; refine hco1.mono ?_; clear hco1; rintro e w9 ⟨p2, e2, rfl, h9⟩
       have hcp1 := fr_copy h9 (i := 0) (x := ⟨p1, e1, LF⟩) rfl 2
       clear h9)
    | (go_at_call 13; refine hcp1.mono ?_; clear hcp1; rintro e w10 ⟨p3, e3, rfl, h10⟩
       have hcp2 := fr_copy h10 (i := 1) (x := ⟨p2, e2, LC⟩) rfl 3
       clear h10)
    | (go_at_call 13; refine hcp2.mono ?_; clear hcp2; rintro e w11 ⟨p4, e4, rfl, h11⟩
       have hsp2 := fr_spans h11 4
       rw [← HLF.out.1] at hsp2
       clear h11)
    | (go_at_call 14; refine hsp2.mono ?_; clear hsp2; rintro e w12 ⟨p5, e5, rfl, h12⟩
       have hco2 := fr_core h12 (c : Int) 5
       rw [← HLC.out] at hco2
       clear h12)
    | (go_at_call 19; refine hco2.mono ?_; clear hco2; rintro e w13 ⟨p6, e6, rfl, h13⟩
       have hsl1 := fr_spoil h13 (i := 0) (x := ⟨p1, e1, LF⟩) rfl (-11) 0
       clear h13)
    | (go_at_call 35; refine hsl1.mono ?_; clear hsl1; rintro e w14 ⟨q1, f1, rfl, h14⟩
       have hsl2 := fr_spoil h14 (i := 1) (x := ⟨p2, e2, LC⟩) rfl (-12) 1
       clear h14)
    | (go_at_call 35; refine hsl2.mono ?_; clear hsl2; rintro e w15 ⟨q2, f2, rfl, h15⟩
       have hsm1 := fr_same h15 (i := 4) (j := 2) (x := ⟨p5, e5, LF⟩) (y := ⟨p3, e3, LF⟩) rfl rfl rfl
       clear h15)
    | (go_at_call 18; refine hsm1.mono ?_; clear hsm1; rintro e w16 ⟨rfl, h16⟩
       have hsm2 := fr_same h16 (i := 5) (j := 3) (x := ⟨p6, e6, LC⟩) (y := ⟨p4, e4, LC⟩) rfl rfl rfl
       clear h16)
    | (go_at_call 18; refine hsm2.mono ?_; clear hsm2; rintro e w17 ⟨rfl, h17⟩
       obtain ⟨x0, x1, x2⟩ := fr_kept h17 (j := 0) rfl
       have hpt1 := fr_spoilt h17 (j := 0) rfl
       clear h17)
    | (go_at_call 36; refine hpt1.mono ?_; clear hpt1; rintro e w18 ⟨rfl, h18⟩
       obtain ⟨z0, z1, z2⟩ := fr_kept h18 (j := 1) rfl
       have hpt2 := fr_spoilt h18 (j := 1) rfl
       clear h18 x0 x1 x2)
    | (go_at_call 36; refine hpt2.mono ?_; clear hpt2; rintro e w19 ⟨rfl, h19⟩
       have hsl3 := fr_spoil h19 (i := 4) (x := ⟨p5, e5, LF⟩) rfl (-13) 2
       clear h19 z0 z1 z2)
    | (go_at_call 35; refine hsl3.mono ?_; clear hsl3; rintro e w20 ⟨q3, f3, rfl, h20⟩
       have hsl4 := fr_spoil h20 (i := 5) (x := ⟨p6, e6, LC⟩) rfl (-14) 3
       clear h20)
    | (go_at_call 35; refine hsl4.mono ?_; clear hsl4; rintro e w21 ⟨q4, f4, rfl, h21⟩
       have HF21 := Hid.mk' h21
       clear h21))
  have hfr1 := free_any _ d s S HF21.out.pool
  rw [← HQ.out] at hfr1
  have htk1 := fr_take HF21.out c want hcc (by rw [← HQ.out]; omega) 6
  rw [← HTK.out.1, ← HTK.out.2.1, ← HLL.out.1] at htk1
  have hpn2 := hpn
  clear HF21 HSUP
  go_wp2_with (first
    | (go_at_call 23; refine hfr1.mono ?_; clear hfr1; rintro e w' ⟨rfl, hw'⟩; subst w')
    | (go_at_call_of 16 n; refine (hpn _).mono ?_; clear hpn; rintro e w' ⟨rfl, hw'⟩; subst w')
    | (go_at_call 17; refine htk1.mono ?_; clear htk1; rintro e w22 ⟨p7, e7, rfl, h22⟩
       have hcp3 := fr_copy h22 (i := 6) (x := ⟨p7, e7, L1⟩) rfl 7
       clear h22)
    | (go_at_call 13; refine hcp3.mono ?_; clear hcp3; rintro e w23 ⟨p8, e8, rfl, h23⟩
       have hct1 := fr_count h23 (i := 7) (x := ⟨p8, e8, L1⟩) rfl HL1.out.1 HL1.out.2.1 (by show (pagesOf L1).length ≤ 100000; rw [HL1.out.2.2, HU.out.1]; omega)
       have hct2 := fr_count h23 (i := 2) (x := ⟨p3, e3, LF⟩) rfl HLF.out.2.1 HLF.out.2.2.1 (by show (pagesOf LF).length ≤ 100000; rw [HLF.out.2.2.2]; omega)
       simp only [] at hct1 hct2
       rw [HL1.out.2.2, HU.out.1] at hct1
       rw [HLF.out.2.2.2] at hct2
       have hsl5 := fr_spoil h23 (i := 6) (x := ⟨p7, e7, L1⟩) rfl (-15) 4
       clear h23)
    | (go_at_call 15; refine hct1.mono ?_; clear hct1; rintro e w' ⟨rfl, hw'⟩; subst w')
    | (go_at_call 15; refine hct2.mono ?_; clear hct2; rintro e w' ⟨rfl, hw'⟩; subst w')
    | (go_at_call_of 16 n; refine (hpn2 _).mono ?_; clear hpn2; rintro e w' ⟨rfl, hw'⟩; subst w')
    | (go_at_call 35; refine hsl5.mono ?_; clear hsl5; rintro e w24 ⟨q5, f5, rfl, h24⟩
       have hfr2 := free_any _ d s S1 h24.pool
       rw [← HTK.out.2.2.2.2] at hfr2
       have htk2 := fr_take h24 c Q1 hcc (by rw [HTK.out.2.2.2.2]; exact Nat.le_refl _) 8
       rw [← HTK.out.2.2.1, ← HTK.out.2.2.2.1, ← HLL.out.2] at htk2
       clear h24)
    | (go_at_call 23; refine hfr2.mono ?_; clear hfr2; rintro e w' ⟨rfl, hw'⟩; subst w')
    | (go_at_call 17; refine htk2.mono ?_; clear htk2; rintro e w25 ⟨p9, e9, rfl, h25⟩
       have hcp4 := fr_copy h25 (i := 8) (x := ⟨p9, e9, L2⟩) rfl 9
       clear h25)
    | (go_at_call 13; refine hcp4.mono ?_; clear hcp4; rintro e w26 ⟨p10, e10, rfl, h26⟩
       have hct3 := fr_count h26 (i := 7) (x := ⟨p8, e8, L1⟩) rfl HL1.out.1 HL1.out.2.1 (by show (pagesOf L1).length ≤ 100000; rw [HL1.out.2.2, HU.out.1]; omega)
       have hct4 := fr_count h26 (i := 9) (x := ⟨p10, e10, L2⟩) rfl HL2.out.1 HL2.out.2.1 (by show (pagesOf L2).length ≤ 100000; rw [HL2.out.2.2, HU.out.2.1]; omega)
       have hct5 := fr_count h26 (i := 2) (x := ⟨p3, e3, LF⟩) rfl HLF.out.2.1 HLF.out.2.2.1 (by show (pagesOf LF).length ≤ 100000; rw [HLF.out.2.2.2]; omega)
       simp only [] at hct3 hct4 hct5
       rw [HL1.out.2.2, HU.out.1] at hct3
       rw [HL2.out.2.2, HU.out.2.1] at hct4
       rw [HLF.out.2.2.2, ← hw1] at hct5
       have hwq : IntKind.i64.wrap ((want : Int) + (Q1 : Int)) = ((want + Q1 : Nat) : Int) := by rw [Int.natCast_add]; exact i64_id (by omega) (by omega)
       have hfr3 := free_any _ d s S2 h26.pool
       rw [HU.out.2.2.1] at hfr3
       obtain ⟨x0, x1, x2⟩ := fr_kept h26 (j := 4) rfl
       have hpt4 := fr_spoilt h26 (j := 4) rfl
       clear h26)
    | (go_at_call 15; refine hct3.mono ?_; clear hct3; rintro e w' ⟨rfl, hw'⟩; subst w')
    | (go_at_call 15; refine hct4.mono ?_; clear hct4; rintro e w' ⟨rfl, hw'⟩; subst w')
    | (go_at_call 15; refine hct5.mono ?_; clear hct5; rintro e w' ⟨rfl, hw'⟩; subst w')
    | (go_at_call 23; refine hfr3.mono ?_; clear hfr3; rintro e w' ⟨rfl, hw'⟩; subst w')
    | (go_at_call 36; refine hpt4.mono ?_; clear hpt4; rintro e w27 ⟨rfl, h27⟩
       have hsl6 := fr_spoil h27 (i := 8) (x := ⟨p9, e9, L2⟩) rfl (-16) 5
       clear h27 x0 x1 x2)
    | (go_at_call 35; refine hsl6.mono ?_; clear hsl6; rintro e w28 ⟨q6, f6, rfl, h28⟩
       have hpg1 := fr_pages h28 (i := 7) (x := ⟨p8, e8, L1⟩) rfl HL1.out.2.1 (by show (pagesOf L1).length ≤ 100000; rw [HL1.out.2.2, HU.out.1]; omega)
       simp only [] at hpg1
       rw [HL1.out.2.2] at hpg1
       clear h28)
    | (go_at_call 22; refine hpg1.mono ?_; clear hpg1; rintro e w29 ⟨pp1, cp1, rfl, hin1, h29⟩
       have hbk1 := fr_back h29 pp1 cp1 T1 hin1 HU.out.2.2.2.2.2.1 HU.out.2.2.2.1 (by rw [HU.out.1]; omega)
       clear h29 hin1)
    | (go_at_call 21; refine hbk1.mono ?_; clear hbk1; rintro e w30 ⟨rfl, h30⟩
       have hpg2 := fr_pages h30 (i := 9) (x := ⟨p10, e10, L2⟩) rfl HL2.out.2.1 (by show (pagesOf L2).length ≤ 100000; rw [HL2.out.2.2, HU.out.2.1]; omega)
       simp only [] at hpg2
       rw [HL2.out.2.2] at hpg2
       clear h30)
    | (go_at_call 22; refine hpg2.mono ?_; clear hpg2; rintro e w31 ⟨pp2, cp2, rfl, hin2, h31⟩
       have hbk2 := fr_back h31 pp2 cp2 T2 hin2 HU.out.2.2.2.2.2.2.1 HU.out.2.2.2.2.1 (by rw [HU.out.2.1]; omega)
       rw [HU.out.2.2.2.2.2.2.2] at hbk2
       clear h31 hin2)
    | (go_at_call 21; refine hbk2.mono ?_; clear hbk2; rintro e w32 ⟨rfl, h32⟩
       have hsp3 := fr_spans h32 10
       rw [← HLF.out.1] at hsp3
       clear h32)
    | (go_at_call 14; refine hsp3.mono ?_; clear hsp3; rintro e w33 ⟨p11, e11, rfl, h33⟩
       have hsm3 := fr_same h33 (i := 10) (j := 2) (x := ⟨p11, e11, LF⟩) (y := ⟨p3, e3, LF⟩) rfl rfl rfl
       clear h33)
    | (go_at_call 18; refine hsm3.mono ?_; clear hsm3; rintro e w34 ⟨rfl, h34⟩
       have hco3 := fr_core h34 (c : Int) 11
       rw [← HLC.out] at hco3
       clear h34)
    | (go_at_call 19; refine hco3.mono ?_; clear hco3; rintro e w35 ⟨p12, e12, rfl, h35⟩
       have hsm4 := fr_same h35 (i := 11) (j := 3) (x := ⟨p12, e12, LC⟩) (y := ⟨p4, e4, LC⟩) rfl rfl rfl
       clear h35)
    | (go_at_call 18; refine hsm4.mono ?_; clear hsm4; rintro e w36 ⟨rfl, h36⟩
       obtain ⟨x0, x1, x2⟩ := fr_kept h36 (j := 0) rfl
       have hqt0 := fr_spoilt h36 (j := 0) rfl
       clear h36)
    | (go_at_call 36; refine hqt0.mono ?_; clear hqt0; rintro e w37 ⟨rfl, h37⟩
       obtain ⟨z0, z1, z2⟩ := fr_kept h37 (j := 1) rfl
       have hqt1 := fr_spoilt h37 (j := 1) rfl
       clear h37 x0 x1 x2)
    | (go_at_call 36; refine hqt1.mono ?_; clear hqt1; rintro e w38 ⟨rfl, h38⟩
       obtain ⟨x0, x1, x2⟩ := fr_kept h38 (j := 2) rfl
       have hqt2 := fr_spoilt h38 (j := 2) rfl
       clear h38 z0 z1 z2)
    | (go_at_call 36; refine hqt2.mono ?_; clear hqt2; rintro e w39 ⟨rfl, h39⟩
       obtain ⟨z0, z1, z2⟩ := fr_kept h39 (j := 3) rfl
       have hqt3 := fr_spoilt h39 (j := 3) rfl
       clear h39 x0 x1 x2)
    | (go_at_call 36; refine hqt3.mono ?_; clear hqt3; rintro e w40 ⟨rfl, h40⟩
       obtain ⟨x0, x1, x2⟩ := fr_kept h40 (j := 4) rfl
       have hqt4 := fr_spoilt h40 (j := 4) rfl
       clear h40 z0 z1 z2)
    | (go_at_call 36; refine hqt4.mono ?_; clear hqt4; rintro e w41 ⟨rfl, h41⟩
       obtain ⟨z0, z1, z2⟩ := fr_kept h41 (j := 5) rfl
       have hqt5 := fr_spoilt h41 (j := 5) rfl
       clear h41 x0 x1 x2)
    | (go_at_call 36; refine hqt5.mono ?_; clear hqt5; rintro e w42 ⟨rfl, h42⟩
       have hhf := holesFresh_any h42
       have hkp := h42.env.keep
       have hk4 : w42.cell? ⟨k, 4, none⟩ = some (.slice (some ⟨hb, 0, none⟩) s.pages s.pages) := h42.book.cells.2.2.2.1
       have HKP := Hid.mk' hkp
       clear h42 z0 z1 z2 hkp)
    | (go_at_call 37; refine hhf.mono ?_; clear hhf; rintro e w43 ⟨rfl, hk43⟩
       have HK43 := Hid.mk' hk43
       clear hk43))
  go_ret
  refine ⟨ret_bool (by simp), ?_⟩
  have hA := HK1.out.then HKP.out (X := fun k => w.heap.size ≤ k) (fun j hj => Or.inl ?_)
  · exact hA.then HK43.out (fun j hj => by left; have := hA.size; omega)
  · omega

end Go.Proofs.Ytnafocbgapianab
