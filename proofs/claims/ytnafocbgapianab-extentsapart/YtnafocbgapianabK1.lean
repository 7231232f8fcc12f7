import Derived.Test.YtnafocbgapianabK0
import Derived.Laws.CopyOwn
namespace Go.Proofs.Ytnafocbgapianab
open Go.RowKit

set_option maxRecDepth 100000 in
theorem slice_one (w : World) (b o n cap i : Nat) (hi : i < n) (hn : n ≤ cap) :
    (Instr.slice 22 (.slice (some ⟨b, o, none⟩) n cap) (some (.int .i64 (i : Int))) (some (.int .i64 ((i : Int) + 1))) none).run Try.prog w = .ok (.slice (some ⟨b, o + i * 3, none⟩) 1 (cap - i)) w := by
  have he : Try.prog.elem 22 = 91 := by kernel_rfl
  have hz : (sizeOf (Try.prog.elem 22)).run Try.prog w = .ok 3 w := by rw [he]; rfl
  have ht : Try.prog.underlying 22 = some (.slice (Try.prog.elem 22)) := by rw [he]; exact Try.underlying22
  rw [run_slice_lh w 22 (some ⟨b, o, none⟩) n cap ht .i64 .i64 (i : Int) ((i : Int) + 1) (by omega) (by omega) (by omega), hz]
  have e1 : ((i : Int) + 1).toNat = i + 1 := by omega
  have e2 : (⟨b, o, none⟩ : Addr).add (i * 3) = ⟨b, o + i * 3, none⟩ := by unfold Addr.add; split <;> simp_all
  have e3 : ¬ cap = i := by omega
  simp [Result.andThen, sliced, e1, e2, e3]

set_option maxHeartbeats 4000000 in
set_option maxRecDepth 20000 in
theorem apart_walk (w : World) (pages cores : Int) (p : Option Addr) (cap : Nat) (l : List (Bool × Int × Int)) (hl : MvIn w p l) (hll : l.length ≤ maxLen) (pm : Option Addr) (capm : Nat) (lm : List (Bool × Int × Int)) (hlm : MvIn w pm lm) (hllm : lm.length ≤ maxLen) (hcm : lm.length ≤ capm) (hpb : -9223372036854775808 ≤ pages ∧ pages ≤ 9223372036854775807) :
    Calls Try.prog 5 #[.int .i64 pages, .int .i64 cores, .slice p l.length cap, .slice pm lm.length capm] w fun e w' => e = .returned (.bool true) ∧ Keeps (fun k => w.heap.size ≤ k) w w' := by
  have hshape := shape_any pages (pages.tdiv 3) cores
  obtain ⟨s, hs⟩ : ∃ s, s = mkSh pages (pages.tdiv 3) cores := ⟨_, rfl⟩
  rw [← hs] at hshape
  have hg : s.Good := by rw [hs]; exact mkSh_good _ _ _
  have hq7 : IntKind.i64.wrap (pages.tdiv 3) = pages.tdiv 3 := tdiv_wrap hpb (by omega)
  have hpg : s.pages ≤ 119 := by rw [hs]; exact mkSh_pages _ _ _
  have HG := Hid.mk' hg
  have HLI := Hid.mk' hl
  have HLM := Hid.mk' hlm
  unfold Sh.agg at hshape
  clear hs hl hlm
  go_enter Try.func5, Try.ntmps5
  go_wp2_with (first
    | (go_at_call 9; refine (hshape _).mono ?_; rintro e w1 ⟨rfl, hk⟩
       have HK1 := Hid.mk' (hk.then (X := fun k => w.heap.size ≤ k) (Keeps.of (X := fun k => w.heap.size ≤ k) (World.grownBy_alloc w1 (.cells #[.int .i64 s.pages, .int .i64 s.inodes, .int .i64 s.cores, .int .i64 s.data] 24) none) (by simp)) (fun k hk => Or.inl hk))
       have hR := (MapKept.heap_alloc w1 (.cells #[.int .i64 s.pages, .int .i64 s.inodes, .int .i64 s.cores, .int .i64 s.data] 24)).1
       have hsz := hk.size
       clear hk))
  obtain ⟨w2, hw2⟩ : ∃ w2, w2 = w1.alloc (.cells #[.int .i64 s.pages, .int .i64 s.inodes, .int .i64 s.cores, .int .i64 s.data] 24) := ⟨_, rfl⟩
  have hs2 : w2.heap.size = w1.heap.size + 1 := by rw [hw2]; simp
  rw [← hw2] at HK1 hR ⊢
  have HR := Hid.mk' hR
  obtain ⟨a0, a1, a2, a3, af⟩ := cells4 hR
  have hwh := fun m => whole_any s HG.out (w2.drewN m)
  unfold Sh.agg at hwh
  clear hw2 hR af hshape
  go_region_held3 (fun wx => wx.cell? ⟨w1.heap.size, 0, none⟩ = some (.int .i64 s.pages) ∧ wx.cell? ⟨w1.heap.size, 1, none⟩ = some (.int .i64 s.inodes) ∧ wx.cell? ⟨w1.heap.size, 2, none⟩ = some (.int .i64 s.cores) ∧ wx.cell? ⟨w1.heap.size, 3, none⟩ = some (.int .i64 s.data))
    (first | go_keep)
    (first
      | (go_at_call 11; refine (hwh _).mono ?_; rintro e w3 ⟨b3, rfl, hx1, hx2, hx3⟩
         have hK3 : Keeps (fun k => w2.heap.size ≤ k) w2 w3 := (Keeps.drewN _ w2 0).trans ⟨hx3.os, hx3.tape, hx3.output, hx3.size, hx3.block⟩
         obtain ⟨b0, b1, b2, b3', bf⟩ := cells4 (hK3.at HR.out (by omega))
         have hnw := newWhole s HG.out w3 b3 hx1
         unfold Sh.agg at hnw
         have HK3 := Hid.mk' hK3
         clear hx1 hx2 hx3 hK3 bf)
      | (go_at_call 10; refine hnw.mono ?_; rintro e w4 ⟨d, rfl, hd4, hp4, hk4⟩
         have hK4 := HK3.out.then hk4 (fun k hk => by right; have := HK3.out.size; omega)
         obtain ⟨c0, c1, c2, c3, cf⟩ := cells4 (hK4.at HR.out (by omega))
         have HK4 := Hid.mk' hK4
         have HP4 := Hid.mk' hp4
         have hd2 : w2.heap.size ≤ d := by have := HK3.out.size; omega
         clear hk4 hK4 cf hp4 hd4))
  go_wp2
  have hmk := fun w => run_make_row' (P := Try.prog) 33 4 (.bool false) 1 Try.underlying33 info4 rfl .i64 .i64 s.pages (by omega) (by omega) w
  go_region_held3 (fun wx => wx.cell? ⟨w1.heap.size, 0, none⟩ = some (.int .i64 s.pages) ∧ wx.cell? ⟨w1.heap.size, 1, none⟩ = some (.int .i64 s.inodes) ∧ wx.cell? ⟨w1.heap.size, 2, none⟩ = some (.int .i64 s.cores) ∧ wx.cell? ⟨w1.heap.size, 3, none⟩ = some (.int .i64 s.data))
    (first | go_keep)
    (fail)
  have HD0 := Hid.mk' (duo_start HP4.out HK4.out hd2)
  have h8 : s.cores ≤ 8 := HG.out.2.2.2.2.2.2.1
  have h1c : 1 ≤ s.cores := HG.out.2.2.2.2.2.1
  have h24 : 24 ≤ s.pages := HG.out.1
  have h9 : s.data + 8 ≤ s.pages := HG.out.2.2.2.2.2.2.2.2
  obtain ⟨w5, hw5⟩ : ∃ w5, w5 = ((w4.alloc (.cells (madeCells #[.bool false] s.pages) 4)).alloc (.cells #[.int .i64 s.pages, .int .i64 s.inodes, .int .i64 s.cores, .int .i64 s.data, .slice (some ⟨w4.heap.size, 0, none⟩) s.pages s.pages, .int .i64 0] 35)).drew := ⟨_, rfl⟩
  rw [← hw5] at HD0 ⊢
  generalize w4.heap.size + 1 = k at *
  generalize w4.heap.size = hb at *
  have hpl := played_any HD0.out p cap l (HLI.out.grown HK1.out (fun b hb => hb)) (Nat.le_refl _) hll
  have HLM2 := Hid.mk' (HLM.out.grown HK1.out (fun b hb => hb))
  have hllm' := hllm
  unfold maxLen at hllm'
  clear hw5 hmk hnw hwh a0 a1 a2 a3 b0 b1 b2 b3' c0 c1 c2 c3 HK3 HK4 HP4 hd2 HD0
  go_wp2_with (first
    | (go_at_call 12; refine hpl.mono ?_; clear hpl; rintro e w7 ⟨rfl, ⟨S, H, hd7⟩, _⟩
       have hcy := copy_any w7 d s S hd7.pool
       have HD7 := Hid.mk' hd7
       clear hd7)
    | (go_at_call 32; refine hcy.mono ?_; clear hcy; rintro e w8 ⟨dq, rfl, hdq, hpq, hk8⟩
       have hd8 := HD7.out.grown hk8
       have hag := agrees_any w8 dq k hb s S H (hc s H) hpq hd8.book hd8.agree
       have HD8 := Hid.mk' hd8
       have HPQ := Hid.mk' hpq
       have hl7 := And.intro (heap_lt HD7.out.pool.at_) (And.intro (heap_lt HD7.out.book.at_) (heap_lt HD7.out.book.held))
       have HK8 := Hid.mk' hk8
       clear hk8 hd8 hpq)
    | (go_at_call 33; refine hag.mono ?_; clear hag; rintro e w9 ⟨rfl, hk9⟩
       have hd9 := HD8.out.grown hk9
       have hp9 := HPQ.out.kept hk9 (by have := heap_lt HPQ.out.at_; omega)
       have hsp := pspans_any w9 d s S hd9.pool
       have HD9 := Hid.mk' hd9
       have HP9 := Hid.mk' hp9
       have hs9 := hk9.size
       have hs8 := HK8.out.size
       clear hk9 hd9 hp9 HD8 HPQ)
    | (go_at_call 14; refine hsp.mono ?_; clear hsp; rintro e w10 ⟨v10, rfl, hx1, hx2⟩
       obtain ⟨p10, cap10, hv10, hin10, _⟩ := hx1.toIn
       subst v10
       have hbd := sp_bd S 0 s.pages
       have hcp := copySpans_any w10 p10 cap10 (sp S 0 s.pages) hin10 (by omega)
       have HD10 := Hid.mk' (HD9.out.grown hx2)
       have HP10 := Hid.mk' (HP9.out.kept hx2 (by have := heap_lt HP9.out.at_; omega))
       have hs10 := hx2.size
       clear hx1 hx2 hin10 hbd HD9 HP9)
    | (go_at_call 13; refine hcp.mono ?_; clear hcp; rintro e w11 ⟨v11, rfl, hx1, hx2⟩
       obtain ⟨pF, capF, hv11, hin11, hob11⟩ := hx1.toIn
       subst v11
       have HD11 := Hid.mk' (HD10.out.grown hx2)
       have HP11 := Hid.mk' (HP10.out.kept hx2 (by have := heap_lt HP10.out.at_; omega))
       have HF11 := Hid.mk' hin11
       have HB11 : Hid (∀ b, pF.map (·.block) = some b → w10.heap.size ≤ b ∧ b < w11.heap.size) := fun b hb => hx1.lt b (hob11 b hb)
       have hs11 := hx2.size
       clear hx1 hx2 hin11 hob11 HD10 HP10))
  obtain ⟨k0, k2, k3, k4, k5, kf⟩ := HD11.out.book.cells
  obtain ⟨r0, r1, r2, r3, rf⟩ := cells4 (HD11.out.keep.at HR.out (by omega))
  have hmk2 := fun w => run_make_row' (P := Try.prog) 33 4 (.bool false) 1 Try.underlying33 info4 rfl .i64 .i64 s.pages (by omega) (by omega) w
  clear kf rf k0 k2 k3 k4
  go_region_held3 (fun wx => wx.cell? ⟨w1.heap.size, 0, none⟩ = some (.int .i64 s.pages) ∧ wx.cell? ⟨w1.heap.size, 1, none⟩ = some (.int .i64 s.inodes) ∧ wx.cell? ⟨w1.heap.size, 2, none⟩ = some (.int .i64 s.cores) ∧ wx.cell? ⟨w1.heap.size, 3, none⟩ = some (.int .i64 s.data) ∧ wx.cell? ⟨k, 5, none⟩ = some (.int .i64 (hc s H : Int)))
    (first | go_keep)
    (fail)
  obtain ⟨n1, n2, n3, n4⟩ := two_new w11 (.cells (madeCells #[.bool false] s.pages) 4) (.cells #[.int .i64 s.pages, .int .i64 s.inodes, .int .i64 s.cores, .int .i64 s.data, .slice (some ⟨w11.heap.size, 0, none⟩) s.pages s.pages, .int .i64 (hc s H : Int)] 35)
  rw [← boolCells_none s.pages] at n1 n2 n3 n4 ⊢
  obtain ⟨w12, hw12⟩ : ∃ w12, w12 = ((w11.alloc (.cells (boolCells (fun _ => false) s.pages).toArray 4)).alloc (.cells #[.int .i64 s.pages, .int .i64 s.inodes, .int .i64 s.cores, .int .i64 s.data, .slice (some ⟨w11.heap.size, 0, none⟩) s.pages s.pages, .int .i64 (hc s H : Int)] 35)).drew := ⟨_, rfl⟩
  have m1 : w12.heap[w11.heap.size]? = some (.cells (boolCells (fun _ => false) s.pages).toArray 4 (0, 0)) := by rw [hw12]; exact n1
  have m2 : w12.heap[w11.heap.size + 1]? = some (.cells #[.int .i64 s.pages, .int .i64 s.inodes, .int .i64 s.cores, .int .i64 s.data, .slice (some ⟨w11.heap.size, 0, none⟩) s.pages s.pages, .int .i64 (hc s H : Int)] 35 (0, 0)) := by rw [hw12]; exact n2
  have m3 : Keeps (fun j => w11.heap.size ≤ j) w11 w12 := by rw [hw12]; exact n3.trans (Keeps.drewN _ _ 1)
  rw [← hw12]
  clear hw12 n1 n2 n3 n4 r0 r1 r2 r3 k5 hmk2
  have HD12 := Hid.mk' (HD11.out.grown m3)
  have HP12 := Hid.mk' (HP11.out.kept m3 (by have := heap_lt HP11.out.at_; omega))
  have HF12 := Hid.mk' (HF11.out.grown m3 (fun _ hb => hb))
  obtain ⟨k0, k2, k3, k4, k5, kf⟩ := HD12.out.book.cells
  have q4 : w12.cell? ⟨w11.heap.size + 1, 4, none⟩ = some (.slice (some ⟨w11.heap.size, 0, none⟩) s.pages s.pages) := by simp [World.cell?, m2]
  have HM := Hid.mk' (And.intro m1 (And.intro m2 m3))
  have hs12 := m3.size
  have hl12 := heap_lt m2
  generalize hhc : w11.heap.size = hq at *
  clear m1 m2 m3 kf k0 k2 k3 k5
  have hbl : (boolCells H s.pages).length = s.pages := by simp [boolCells]
  have hbl2 : (boolCells (fun _ => false) s.pages).length = s.pages := by simp [boolCells]
  have HCS : Hid (∀ j v, (boolCells H s.pages)[j]? = some v → w12.cell? ((⟨hb, 0, none⟩ : Addr).add j) = some v) := World.news_of_block HD12.out.book.held
  go_wp2
  go_region_law (refine step_copy_row rfl (.tmp 74) (.tmp 78) 33 33 rfl 4 Try.underlying33 (by kernel_rfl) hq 0 s.pages s.pages ⟨hb, 0, none⟩ s.pages s.pages rfl rfl (boolCells (fun _ => false) s.pages).toArray 4 HM.out.1 (boolCells H s.pages) (by rw [hbl]; simp) HCS.out (by simp [boolCells]) (by intro v hv; simp [boolCells] at hv; obtain ⟨x, _, rfl⟩ := hv; rfl) ?_; intro w13 hg13 hk13)
  all_goals
    have hk12 : Keeps (fun j => j = hq) w12 w13 := (Keeps.drewN _ w12 1).trans hk13
    have hg13' : w13.heap[hq]? = some (.cells (boolCells H s.pages).toArray 4 (0, 0)) := by
      rw [hg13]
      have e : (boolCells (fun _ => false) s.pages).toArray.toList.drop (0 + (boolCells H s.pages).length) = [] := List.drop_eq_nil_of_le (by simp [boolCells])
      rw [e]; simp
    have hdqq : dq < hq := by rw [← hhc]; exact heap_lt HP11.out.at_
    have hlw := HD12.out.low
    have hk7 := HD7.out.keep.size
    have hD13 := HD12.out.but hk12 (by omega) (by omega) (by omega) (fun j hj => by omega)
    have hB13 : BookAt w13 (hq + 1) hq s H (hc s H) := ⟨hk12.at HM.out.2.1 (by omega), hg13', by omega⟩
    have hE13 : Duo w2 w2.heap.size dq (hq + 1) hq s S H w13 := ⟨HP12.out.kept hk12 (by omega), hB13, HD12.out.mark, by omega, by omega, hD13.keep⟩
    have hF13 : SpIn w13 pF (castL (sp S 0 s.pages)) := HF12.out.kept hk12 (fun b hb e => by have := HB11.out b e; omega)
    have hpl2 := played_any hD13 pm capm lm HLM2.out (Nat.le_refl _) hllm
    have HE13 := Hid.mk' hE13
    have HF13 := Hid.mk' hF13
    have hs13 := hk12.size
    have hbd := sp_bd S 0 s.pages
    clear hg13 hk13 hk12 hg13' hB13 hE13 hF13 hD13
    go_wp2_with (first
      | (go_at_call 12; refine hpl2.mono ?_; clear hpl2; rintro e w14 ⟨rfl, ⟨S1, H1, hd14⟩, hk14⟩
         have he14 := HE13.out.but hk14 (by omega) (by omega) (by omega) (fun j hj => by omega)
         have hf14 := HF13.out.kept hk14 (fun b hb e => by have := HB11.out b e; omega)
         have hsq := pspans_any w14 dq s S he14.pool
         have HD14 := Hid.mk' hd14
         have HE14 := Hid.mk' he14
         have HF14 := Hid.mk' hf14
         clear hd14 he14 hf14 hk14)
      | (go_at_call 14; refine hsq.mono ?_; clear hsq; rintro e w15 ⟨v15, rfl, hx1, hx2⟩
         obtain ⟨p15, cap15, hv15, hin15, _⟩ := hx1.toIn
         subst v15
         have hsm := sameSpans_yes w15 p15 pF cap15 capF (sp S 0 s.pages) hin15 (HF14.out.grown hx2 (fun _ hb => hb)) (by omega)
         have hd15 := HD14.out.grown hx2
         have he15 := HE14.out.grown hx2
         have hac := fun m => duo_agrees (he15.drewN m)
         have HD15 := Hid.mk' hd15
         have HE15 := Hid.mk' he15
         clear hx1 hx2 hin15 hd15 he15)
      | (go_at_call 18; refine hsm.mono ?_; clear hsm; rintro e w' ⟨rfl, m16, hw'⟩; subst w')
      | (go_at_call 33; refine (hac _).mono ?_; clear hac; rintro e w17 ⟨rfl, he17, hk17⟩
         have hd17 := (HD15.out.drewN m16).grown hk17
         have hab := duo_agrees hd17
         have HE17 := Hid.mk' he17
         clear he17 hk17 hd17)
      | (go_at_call 33; refine hab.mono ?_; clear hab; rintro e w18 ⟨rfl, hd18, hk18⟩
         have HE18 := Hid.mk' (HE17.out.grown hk18)
         have HD18 := Hid.mk' hd18
         clear hd18 hk18))
    go_loopw [16] (fun iv wr => ∃ i : Nat, i ≤ lm.length ∧ iv = .int .i64 ((i : Int) - 1) ∧ Hid (∃ S1 H1 S2 H2, Duo w2 w2.heap.size d k hb s S1 H1 wr ∧ Duo w2 w2.heap.size dq (hq + 1) hq s S2 H2 wr)) (fun iv _ => (intOf iv + 1).toNat)
    case atStart => exact ⟨lm.length, by omega, by go_num, _, _, _, _, HD18.out, HE18.out⟩
    case round =>
      obtain ⟨i, hi, rfl, hrel⟩ := hrel
      obtain ⟨S1, H1, S2, H2, hd, he⟩ := hrel.out
      clear hrel
      by_cases h0 : 0 < i
      · obtain ⟨j, rfl⟩ : ∃ j, i = j + 1 := ⟨i - 1, by omega⟩
        have e0 : ((j + 1 : Nat) : Int) - 1 = (j : Int) := by omega
        rw [e0]
        have hj0 : (0 : Int) ≤ (j : Int) := by omega
        obtain ⟨bm, om, rfl, hbm, hcm'⟩ := HLM2.out (by omega)
        have hmv : MvIn w2 (some ⟨bm, om + j * 3, none⟩) [lm.getD j (false, 0, 0)] := by
          intro _
          refine ⟨bm, om + j * 3, rfl, hbm, ?_⟩
          intro q hq
          obtain rfl : q = 0 := by simp at hq; omega
          simpa using hcm' j (by omega)
        have hsl := fun wx => slice_one wx bm om lm.length capm j (by omega) hcm
        have hpl3 := played_any he (some ⟨bm, om + j * 3, none⟩) (capm - j) [lm.getD j (false, 0, 0)] hmv (Nat.le_refl _) (by simp [maxLen])
        simp only [List.length_singleton] at hpl3
        have hjw : IntKind.i64.wrap ((j : Int) + 1) = (j : Int) + 1 := i64_id (by omega) (by omega)
        have hjw2 : IntKind.i64.wrap ((j : Int) - 1) = (j : Int) - 1 := i64_id (by omega) (by omega)
        have HD := Hid.mk' hd
        have hld := And.intro (heap_lt hd.pool.at_) (And.intro (heap_lt hd.book.at_) (heap_lt hd.book.held))
        clear hd he hmv hcm'
        go_wp2_with (first
          | (go_at_call 12; refine hpl3.mono ?_; clear hpl3; rintro e w20 ⟨rfl, ⟨S3, H3, he20⟩, hk20⟩
             have HD20 := Hid.mk' (HD.out.but hk20 (by omega) (by omega) (by omega) (fun j hj => by omega))
             have HE20 := Hid.mk' he20
             clear he20 hk20))
        go_roundw
        case rel => exact ⟨j, by omega, by go_num, _, _, _, _, HD20.out, HE20.out⟩
        case measure => simp [intOf]
      · obtain rfl : i = 0 := by omega
        have hag1 := duo_agrees he
        have HD := Hid.mk' hd
        clear hd he
        go_wp2_with (first
          | (go_at_call 33; refine hag1.mono ?_; clear hag1; rintro e w21 ⟨rfl, he21, hk21⟩
             have hd21 := HD.out.grown hk21
             have hag2 := duo_agrees hd21
             clear he21 hk21 hd21)
          | (go_at_call 33; refine hag2.mono ?_; clear hag2; rintro e w22 ⟨rfl, hd22, hk22⟩
             have HKE := Hid.mk' (HK1.out.then hd22.keep (fun j hj => by left; omega))
             clear hd22 hk22))
        go_ret
        exact ⟨rfl, HKE.out⟩

end Go.Proofs.Ytnafocbgapianab
