import Derived.Test.YtnafocbgapianabF1
import Derived.Test.YtnafocbgapianabC2
namespace Go.Proofs.Ytnafocbgapianab
open Go.RowKit

theorem spIn_grown {w w' : World} {p : Option Addr} {l : List (Int × Int)} (h : SpIn w p l) (k : Keeps (fun j => w.heap.size ≤ j) w w') : SpIn w' p l := h.grown k (fun _ hb => hb)

theorem SpIn.but {w w' : World} {p : Option Addr} {l : List (Int × Int)} {d : Nat} (h : SpIn w p l) (k : Keeps (fun j => j = d ∨ w.heap.size ≤ j) w w') (hd : ∀ b, p.map (·.block) = some b → b ≠ d) : SpIn w' p l := by
  intro h0
  obtain ⟨b, o, e, hb, hc⟩ := h h0
  have hn : ¬ (b = d ∨ w.heap.size ≤ b) := by have := hd b (by rw [e]; rfl); omega
  exact ⟨b, o, e, Nat.lt_of_lt_of_le hb k.size, fun i hi => ⟨k.cell (hc i hi).1 hn, k.cell (hc i hi).2 hn⟩⟩

/-- Two pools of the same free pages, lists beside them. -/
structure FS (w0 : World) (B d dq a : Nat) (s : Sh) (S1 : Nat → Bool) (pF pl pm : Option Addr) (LF Lt : List (Nat × Nat)) (w : World) : Prop where
  one : PoolAt w d s S1
  two : PoolAt w dq s S1
  free : SpIn w pF (castL LF)
  list : SpIn w pl (castL Lt)
  mist : SpIn w pm (castL Lt)
  shape : w.heap[a]? = some (.cells #[.int .i64 s.pages, .int .i64 s.inodes, .int .i64 s.cores, .int .i64 s.data] 24 (0, 0))
  ap : d ≠ dq ∧ d ≠ a ∧ (∀ b, pF.map (·.block) = some b → b ≠ d) ∧ (∀ b, pl.map (·.block) = some b → b ≠ d)
  low : B ≤ d
  keep : Keeps (fun j => B ≤ j) w0 w
  bs : B ≤ w.heap.size

theorem FS.grown {w0 : World} {B d dq a : Nat} {s : Sh} {S1 : Nat → Bool} {pF pl pm : Option Addr} {LF Lt : List (Nat × Nat)} {w w' : World} (h : FS w0 B d dq a s S1 pF pl pm LF Lt w) (k : Keeps (fun j => w.heap.size ≤ j) w w') : FS w0 B d dq a s S1 pF pl pm LF Lt w' := by
  have l1 := heap_lt h.one.at_
  have l2 := heap_lt h.two.at_
  have l3 := heap_lt h.shape
  have hb := h.bs
  have hk := k.size
  exact ⟨h.one.kept k (by omega), h.two.kept k (by omega), spIn_grown h.free k, spIn_grown h.list k, spIn_grown h.mist k, k.at h.shape (by omega), h.ap, h.low, h.keep.then k (fun j hj => by left; omega), by omega⟩
theorem FS.drewN {w0 : World} {B d dq a : Nat} {s : Sh} {S1 : Nat → Bool} {pF pl pm : Option Addr} {LF Lt : List (Nat × Nat)} {w : World} (h : FS w0 B d dq a s S1 pF pl pm LF Lt w) (m : Nat) : FS w0 B d dq a s S1 pF pl pm LF Lt (w.drewN m) := h.grown (Keeps.drewN _ _ _)

theorem pages_fl (S : Nat → Bool) (n : Nat) : (pagesOf (sp S 0 n)).length = cn S n := by
  rw [sp_pages, fl_length]; simp

/-- What is taken and given back leaves what was. -/
theorem tk_back {S S1 : Nat → Bool} {T : List Nat} (h1 : ∀ q ∈ T, S q = true) (h2 : ∀ j, S1 j = (S j && decide (j ∉ T))) : setH S1 T = S := by
  funext j
  unfold setH
  rw [h2]
  by_cases hj : j ∈ T
  · simp [hj, h1 j hj]
  · simp [hj]

set_option maxHeartbeats 4000000 in
set_option maxRecDepth 20000 in
theorem forgets_walk (w : World) (pages cores core n : Int) (p : Option Addr) (cap : Nat) (l : List (Bool × Int × Int)) (hl : MvIn w p l) (hll : l.length ≤ maxLen) (hpb : -9223372036854775808 ≤ pages ∧ pages ≤ 9223372036854775807) :
    Calls Try.prog 3 #[.int .i64 pages, .int .i64 cores, .slice p l.length cap, .int .i64 core, .int .i64 n] w fun e w' => e = .returned (.bool true) ∧ Keeps (fun k => w.heap.size ≤ k) w w' := by
  have hshape := shape_any pages (pages.tdiv 3) cores
  obtain ⟨s, hs⟩ : ∃ s, s = mkSh pages (pages.tdiv 3) cores := ⟨_, rfl⟩
  rw [← hs] at hshape
  have hg : s.Good := by rw [hs]; exact mkSh_good _ _ _
  have hq7 : IntKind.i64.wrap (pages.tdiv 3) = pages.tdiv 3 := tdiv_wrap hpb (by omega)
  have hpg : s.pages ≤ 119 := by rw [hs]; exact mkSh_pages _ _ _
  have HG := Hid.mk' hg
  have HLI := Hid.mk' hl
  unfold Sh.agg at hshape
  clear hs hl
  go_enter Try.func3, Try.ntmps3
  go_wp2_with (first
    | (go_at_call 9; refine (hshape _).mono ?_; rintro e w1 ⟨rfl, hk⟩
       have HK1 := Hid.mk' (hk.then (X := fun k => w.heap.size ≤ k) (Keeps.of (X := fun k => w.heap.size ≤ k) (World.grownBy_alloc w1 (.cells #[.int .i64 s.pages, .int .i64 s.inodes, .int .i64 s.cores, .int .i64 s.data] 24) none) (by simp)) (fun k hk => Or.inl hk))
       have hR := (MapKept.heap_alloc w1 (.cells #[.int .i64 s.pages, .int .i64 s.inodes, .int .i64 s.cores, .int .i64 s.data] 24)).1
       have hsz := hk.size
       clear hk))
  obtain ⟨w2, hw2⟩ : ∃ w2, w2 = w1.alloc (.cells #[.int .i64 s.pages, .int .i64 s.inodes, .int .i64 s.cores, .int .i64 s.data] 24) := ⟨_, rfl⟩
  have hs2 : w2.heap.size = w1.heap.size + 1 := by rw [hw2]; simp
  rw [← hw2] at HK1 hR ⊢
  have HR := Hid.mk' hR
  obtain ⟨a0, a1, a2, a3, af⟩ := cells4 hR
  have hwh := fun m => whole_any s HG.out (w2.drewN m)
  unfold Sh.agg at hwh
  clear hw2 hR af hshape
  go_region_held3 (fun wx => wx.cell? ⟨w1.heap.size, 0, none⟩ = some (.int .i64 s.pages) ∧ wx.cell? ⟨w1.heap.size, 1, none⟩ = some (.int .i64 s.inodes) ∧ wx.cell? ⟨w1.heap.size, 2, none⟩ = some (.int .i64 s.cores) ∧ wx.cell? ⟨w1.heap.size, 3, none⟩ = some (.int .i64 s.data))
    (first | go_keep)
    (first
      | (go_at_call 11; refine (hwh _).mono ?_; rintro e w3 ⟨b3, rfl, hx1, hx2, hx3⟩
         have hK3 : Keeps (fun k => w2.heap.size ≤ k) w2 w3 := (Keeps.drewN _ w2 0).trans ⟨hx3.os, hx3.tape, hx3.output, hx3.size, hx3.block⟩
         obtain ⟨b0, b1, b2, b3', bf⟩ := cells4 (hK3.at HR.out (by omega))
         have hnw := newWhole s HG.out w3 b3 hx1
         unfold Sh.agg at hnw
         have HK3 := Hid.mk' hK3
         clear hx1 hx2 hx3 hK3 bf)
      | (go_at_call 10; refine hnw.mono ?_; rintro e w4 ⟨d, rfl, hd4, hp4, hk4⟩
         have hK4 := HK3.out.then hk4 (fun k hk => by right; have := HK3.out.size; omega)
         obtain ⟨c0, c1, c2, c3, cf⟩ := cells4 (hK4.at HR.out (by omega))
         have HK4 := Hid.mk' hK4
         have HP4 := Hid.mk' hp4
         have hd2 : w2.heap.size ≤ d := by have := HK3.out.size; omega
         clear hk4 hK4 cf hp4 hd4))
  go_wp2
  have hmk := fun w => run_make_row' (P := Try.prog) 33 4 (.bool false) 1 Try.underlying33 info4 rfl .i64 .i64 s.pages (by omega) (by omega) w
  go_region_held3 (fun wx => wx.cell? ⟨w1.heap.size, 0, none⟩ = some (.int .i64 s.pages) ∧ wx.cell? ⟨w1.heap.size, 1, none⟩ = some (.int .i64 s.inodes) ∧ wx.cell? ⟨w1.heap.size, 2, none⟩ = some (.int .i64 s.cores) ∧ wx.cell? ⟨w1.heap.size, 3, none⟩ = some (.int .i64 s.data))
    (first | go_keep)
    (fail)
  have HD0 := Hid.mk' (duo_start HP4.out HK4.out hd2)
  have h8 : s.cores ≤ 8 := HG.out.2.2.2.2.2.2.1
  have h1c : 1 ≤ s.cores := HG.out.2.2.2.2.2.1
  have h24 : 24 ≤ s.pages := HG.out.1
  have h9 : s.data + 8 ≤ s.pages := HG.out.2.2.2.2.2.2.2.2
  obtain ⟨w5, hw5⟩ : ∃ w5, w5 = ((w4.alloc (.cells (madeCells #[.bool false] s.pages) 4)).alloc (.cells #[.int .i64 s.pages, .int .i64 s.inodes, .int .i64 s.cores, .int .i64 s.data, .slice (some ⟨w4.heap.size, 0, none⟩) s.pages s.pages, .int .i64 0] 35)).drew := ⟨_, rfl⟩
  rw [← hw5] at HD0 ⊢
  generalize w4.heap.size + 1 = k at *
  generalize w4.heap.size = hb at *
  have hpl := played_any HD0.out p cap l (HLI.out.grown HK1.out (fun b hb => hb)) (Nat.le_refl _) hll
  clear hw5 hmk hnw hwh a0 a1 a2 a3 b0 b1 b2 b3' c0 c1 c2 c3 HK3 HK4 HP4 hd2 HD0
  go_wp2_with (first
    | (go_at_call 12; refine hpl.mono ?_; clear hpl; rintro e w7 ⟨rfl, ⟨S, H, hd7⟩, _⟩
       have hsp := pspans_any w7 d s S hd7.pool
       have HD7 := Hid.mk' hd7
       clear hd7)
    | (go_at_call 14; refine hsp.mono ?_; clear hsp; rintro e w8 ⟨v8, rfl, hx1, hx2⟩
       obtain ⟨p8, cap8, hv8, hin8, _⟩ := hx1.toIn
       subst v8
       have hbd := sp_bd S 0 s.pages
       have hcp := copySpans_any w8 p8 cap8 (sp S 0 s.pages) hin8 (by omega)
       have HD8 := Hid.mk' (HD7.out.grown hx2)
       clear hx1 hx2 hin8 hbd HD7)
    | (go_at_call 13; refine hcp.mono ?_; clear hcp; rintro e w9 ⟨v9, rfl, hx1, hx2⟩
       obtain ⟨pF, capF, hv9, hin9, hob9⟩ := hx1.toIn
       subst v9
       have hd9 := HD8.out.grown hx2
       have HF9 := Hid.mk' hin9
       have HB9 : Hid (∀ b, pF.map (·.block) = some b → w8.heap.size ≤ b ∧ b < w9.heap.size) := fun b hb => hx1.lt b (hob9 b hb)
       have hd8l := heap_lt HD8.out.pool.at_
       have HD9 := Hid.mk' hd9
       clear hx1 hx2 hin9 hob9 hd9 HD8))
  obtain ⟨k0, k2, k3, k4, k5, kf⟩ := HD9.out.book.cells
  obtain ⟨r0, r1, r2, r3, rf⟩ := cells4 (HD9.out.keep.at HR.out (by omega))
  have hnum := HD9.out.num
  have hbd := sp_bd S 0 s.pages
  have hct := fun wx h => count_spans wx pF capF (sp S 0 s.pages) h (by omega) (fun t ht => by
    obtain ⟨i, hi, rfl⟩ := List.getElem_of_mem ht
    have h1 := (neat_get (sp_neat S 0 s.pages) i hi).1
    have h2 := hbd.1 _ (List.getElem_mem hi)
    omega) (by rw [pages_fl]; have := cn_le S s.pages; omega)
  rw [pages_fl] at hct
  have hct9 := fun m => hct (w9.drewN m) (HF9.out.grown (Keeps.drewN (fun _ => False) w9 m) (by simp))
  have hcl := cn_le S s.pages
  have hs1 : IntKind.i64.wrap ((s.pages : Int) - (s.data : Int)) = (s.pages : Int) - (s.data : Int) := i64_id (by omega) (by omega)
  have hs3 : IntKind.i64.wrap ((s.pages : Int) - (s.data : Int) - (hc s H : Int)) = (cn S s.pages : Int) := by rw [i64_id (by omega) (by omega)]; omega
  have hs4 : (s.pages : Int) - (s.data : Int) - (hc s H : Int) = (cn S s.pages : Int) := by omega
  have HTK := Hid.mk' (fun c x hc hx => tk_all HG.out HD9.out.pool.sup (core := c) (n := x) hc hx)
  have HSUP := Hid.mk' HD9.out.pool.sup
  have hnp := fun m => newPool_of s HG.out S HSUP.out (w9.drewN m) pF capF (HF9.out.grown (Keeps.drewN (fun _ => False) w9 m) (by simp))
  unfold Sh.agg at hnp
  obtain ⟨LF, hLF⟩ : ∃ LF, LF = sp S 0 s.pages := ⟨_, rfl⟩
  rw [← hLF] at hct9 hct hnp HF9 hbd ⊢
  have HLF := Hid.mk' hLF
  clear kf rf k0 k2 k3 k4 hLF
  obtain ⟨Q, hQ⟩ : ∃ Q, Q = cn S s.pages := ⟨_, rfl⟩
  rw [← hQ] at hct9 hct hs3 hs4 hcl
  have HCT := Hid.mk' hct
  have HQ := Hid.mk' hQ
  clear hQ
  have hpc := fun w => place_any core s.cores w h1c (by omega)
  have hpn := fun w => place_any n (Q + 1) w (by omega) (by omega)
  rw [Int.natCast_add] at hpn
  have hcc := plc_lt core h1c
  have hwn := plc_lt n (show 1 ≤ Q + 1 by omega)
  generalize plc core s.cores = c at *
  generalize plc n (Q + 1) = want at *
  go_quiet (first | (go_at_call 15; exact Calls.quiet_of_same (hct9 _)))
  clear hs1 hs3 hs4 k5
  go_wp2_with (first
    | (go_at_call 10; refine (hnp _).mono ?_; clear hnp; rintro e w10 ⟨dq, rfl, hdq, hp10, hk10⟩
       have hk10' : Keeps (fun j => w9.heap.size ≤ j) w9 w10 := (Keeps.drewN _ w9 0).trans ⟨hk10.os, hk10.tape, hk10.output, hk10.size, hk10.block⟩
       have hdq9 : w9.heap.size ≤ dq := hdq
       have hd10 := HD9.out.grown hk10'
       have hf10 := spIn_grown HF9.out hk10'
       have hct10 := hct w10 hf10
       obtain ⟨r0, r1, r2, r3, rf⟩ := cells4 (hd10.keep.at HR.out (by omega))
       have htk := take_yes w10 d s S hd10.pool c want hcc (by rw [← HQ.out]; omega)
       have HD10 := Hid.mk' hd10
       have HF10 := Hid.mk' hf10
       have HP10 := Hid.mk' hp10
       have hd9l := heap_lt HD9.out.pool.at_
       have hs9 := hk10'.size
       clear hk10 hk10' hd10 hf10 hp10 hdq HD9 hct9 hct rf r1 r0 r3)
    | (go_at_call_of 16 core; refine (hpc _).mono ?_; clear hpc; rintro e w' ⟨rfl, hw'⟩; subst w')
    | (go_at_call_of 16 n; refine (hpn _).mono ?_; clear hpn; rintro e w' ⟨rfl, hw'⟩; subst w')
    | (go_at_call 15; refine hct10.mono ?_; clear hct10; rintro e w' ⟨rfl, hw'⟩; subst w')
    | (go_at_call 17; refine htk.mono ?_; clear htk; rintro e w11 ⟨v11, rfl, hx1, hx2, hx3⟩
       obtain ⟨pl, capl, hv11, hin11, hob11⟩ := hx1.toIn
       have hdql := heap_lt HP10.out.at_
       have hp11 := HP10.out.kept hx3 (by omega)
       have htk2 := take_yes w11 dq s S hp11 c want hcc (by rw [← HQ.out]; omega)
       have HT11 := Hid.mk' (And.intro hx1 (And.intro hx2 hx3))
       have HI11 := Hid.mk' (And.intro hin11 (fun b hb => (hx1.lt b (hob11 b hb))))
       subst v11
       clear hx1 hx2 hx3 hin11 hob11 hp11)
    | (go_at_call 17; refine htk2.mono ?_; clear htk2; rintro e w12 ⟨v12, rfl, hx1, hx2, hx3⟩
       obtain ⟨pm, capm, hv12, hin12, hob12⟩ := hx1.toIn
       have HT12 := Hid.mk' (And.intro hx1 (And.intro hx2 hx3))
       have HI12 := Hid.mk' hin12
       subst v12
       have hfs : FS w2 w2.heap.size d dq w1.heap.size s (tk s c S want).1 pF pl pm LF ((tk s c S want).2.2.foldl addP []) w12 := by
         have e3 := HT11.out.2.2
         have l10 := heap_lt HD10.out.pool.at_
         have la : w1.heap.size < w10.heap.size := heap_lt (HD10.out.keep.at HR.out (by omega))
         have s11 := e3.size
         have hlw := HD10.out.low
         have hk10 := HD10.out.keep.size
         refine ⟨HT11.out.2.1.kept hx3 (by omega), hx2, ?_, ?_, hin12, ?_, ⟨by omega, by omega, ?_, ?_⟩, hlw.1, ?_, by have := hx3.size; omega⟩
         · exact (HF10.out.but e3 (fun b hb => by have := HB9.out b hb; omega)).but hx3 (fun b hb => by have := HB9.out b hb; omega)
         · exact HI11.out.1.but hx3 (fun b hb => by have := HI11.out.2 b hb; omega)
         · exact hx3.at (e3.at (HD10.out.keep.at HR.out (by omega)) (by omega)) (by omega)
         · intro b hb; have := HB9.out b hb; omega
         · intro b hb; have := HI11.out.2 b hb; omega
         · exact (HD10.out.keep.then e3 (fun j hj => by left; omega)).then hx3 (fun j hj => by left; omega)
       obtain ⟨t1, t2, t3, t4⟩ := HTK.out c want hcc (by rw [← HQ.out]; omega)
       have HSB := Hid.mk' (tk_back t3 t4)
       have hTb := fold_bd (tk s c S want).2.2 (l := []) (M := s.pages) (by simp) (fun q hq => (HSUP.out q (t3 q hq)).2)
       have hTn := neat_fold (tk s c S want).2.2 [] trivial
       have hTp : pagesOf ((tk s c S want).2.2.foldl addP []) = (tk s c S want).2.2 := by rw [pagesOf_fold]; simp [pagesOf]
       have HNF : Hid (∀ q ∈ (tk s c S want).2.2, (tk s c S want).1 q = false ∧ s.data ≤ q ∧ q < s.pages) := fun q hq => ⟨by rw [t4]; simp [hq], HSUP.out q (t3 q hq)⟩
       have HND := Hid.mk' t2
       generalize (tk s c S want).2.2 = T at *
       generalize (tk s c S want).1 = S1 at *
       obtain ⟨Lt, hLt⟩ : ∃ Lt, Lt = T.foldl addP [] := ⟨_, rfl⟩
       rw [← hLt] at hfs hTb hTn hTp ⊢
       have hLl : Lt.length ≤ 1024 := by have := hTb.2; simp at this; omega
       have hcl2 := count_spans w12 pl capl Lt hfs.list hLl (fun t ht => by
         obtain ⟨i, hi, rfl⟩ := List.getElem_of_mem ht
         have h1 := (neat_get hTn i hi).1
         have h2 := hTb.1 _ (List.getElem_mem hi)
         omega) (by rw [hTp, t1]; omega)
       rw [hTp, t1] at hcl2
       have hsm1 := sameSpans_yes w12 pl pm capl capm Lt hfs.list hfs.mist (by omega)
       have hsa := fun m => pspans_any (w12.drewN m) d s S1 (hfs.drewN m).one
       have HTB := Hid.mk' (And.intro hTb.1 (And.intro hTp t1))
       have HFS := Hid.mk' hfs
       have hFSS := sp_bd S1 0 s.pages
       clear hx1 hx2 hx3 hin12 hob12 hfs HT11 HT12 HI11 HI12 HTK t2 t3 t4 hTb hTn hTp hLt t1)
    | (go_at_call 15; refine hcl2.mono ?_; clear hcl2; rintro e w' ⟨rfl, hw'⟩; subst w')
    | (go_at_call 18; refine hsm1.mono ?_; clear hsm1; rintro e w13 ⟨rfl, m13, hw'⟩; subst w13)
    | (go_at_call 14; refine (hsa _).mono ?_; clear hsa; rintro e w14 ⟨v14, rfl, hx1, hx2⟩
       obtain ⟨p14, cap14, hv14, hin14, _⟩ := hx1.toIn
       subst v14
       have hf14 := (HFS.out.drewN m13).grown hx2
       have hsb := pspans_any w14 dq s S1 hf14.two
       have HF14 := Hid.mk' hf14
       have HI14 := Hid.mk' hin14
       clear hx1 hx2 hin14 hf14 HFS)
    | (go_at_call 14; refine hsb.mono ?_; clear hsb; rintro e w15 ⟨v15, rfl, hx1, hx2⟩
       obtain ⟨p15, cap15, hv15, hin15, _⟩ := hx1.toIn
       subst v15
       have hf15 := HF14.out.grown hx2
       have hsm2 := sameSpans_yes w15 p14 p15 cap14 cap15 (sp S1 0 s.pages) (spIn_grown HI14.out hx2) hin15 (by omega)
       have HF15 := Hid.mk' hf15
       clear hx1 hx2 hin15 hf15 HF14 HI14)
    | (go_at_call 18; refine hsm2.mono ?_; clear hsm2; rintro e w16 ⟨rfl, m16, hw'⟩; subst w16))
  have HF16 := Hid.mk' (HF15.out.drewN m16)
  generalize w15.drewN m16 = w16 at *
  clear HF15
  go_loopw [24] (fun iv wr => ∃ t : Nat, t ≤ s.cores ∧ iv = .int .i64 t ∧ Hid (FS w2 w2.heap.size d dq w1.heap.size s S1 pF pl pm LF Lt wr)) (fun iv _ => s.cores - (intOf iv).toNat)
  case atStart => exact ⟨0, by omega, rfl, HF16.out⟩
  case round =>
    obtain ⟨t, ht, rfl, hrel⟩ := hrel
    obtain ⟨q0, q1, q2, q3, qf⟩ := cells4 hrel.out.shape
    by_cases hlt : t < s.cores
    · have hlt' : (t : Int) < (s.cores : Int) := by omega
      have hca := pcore_any wr d s S1 hrel.out.one (t : Int)
      have hLb := sp_bd S1 (areaF s t) (areaC s t)
      have hcb : areaC s t ≤ 1024 := by
        rw [(area_in hlt).2]
        have := bord_le HG.out (show t + 1 ≤ s.cores by omega)
        omega
      have HREL := hrel
      clear hrel qf q0 q1 q3
      obtain ⟨LC, hLC⟩ : ∃ LC, LC = sp S1 (areaF s t) (areaC s t) := ⟨_, rfl⟩
      rw [← hLC] at hca hLb
      have HLC := Hid.mk' hLC
      clear hLC
      go_wp2_with (first
        | (go_at_call 19; refine hca.mono ?_; clear hca; rintro e w17 ⟨v17, rfl, hx1, hx2⟩
           obtain ⟨p17, cap17, hv17, hin17, _⟩ := hx1.toIn
           subst v17
           have hf17 := HREL.out.grown hx2
           have hcb2 := pcore_any w17 dq s S1 hf17.two (t : Int)
           rw [← HLC.out] at hcb2
           have HF17 := Hid.mk' hf17
           have HI17 := Hid.mk' hin17
           clear hx1 hx2 hin17 hf17)
        | (go_at_call 19; refine hcb2.mono ?_; clear hcb2; rintro e w18 ⟨v18, rfl, hx1, hx2⟩
           obtain ⟨p18, cap18, hv18, hin18, _⟩ := hx1.toIn
           subst v18
           have hf18 := HF17.out.grown hx2
           have hsm3 := sameSpans_yes w18 p17 p18 cap17 cap18 LC (spIn_grown HI17.out hx2) hin18 (by omega)
           have hara := fun m => area_any (w18.drewN m) d s S1 (hf18.drewN m).one (t : Int)
           have HF18 := Hid.mk' hf18
           clear hx1 hx2 hin18 hf18 HF17 HI17)
        | (go_at_call 18; refine hsm3.mono ?_; clear hsm3; rintro e w19 ⟨rfl, m19, hw'⟩; subst w19)
        | (go_at_call 20; refine (hara _).mono ?_; clear hara; rintro e w20 ⟨rfl, hx2⟩
           have hf20 := (HF18.out.drewN m19).grown hx2
           have harb := area_any w20 dq s S1 hf20.two (t : Int)
           have HF20 := Hid.mk' hf20
           clear hx2 hf20 HF18)
        | (go_at_call 20; refine harb.mono ?_; clear harb; rintro e w21 ⟨rfl, hx2⟩
           have HF21 := Hid.mk' (HF20.out.grown hx2)
           clear hx2 HF20))
      go_roundw
      case rel => exact ⟨t + 1, by omega, by go_num, HF21.out⟩
      case measure => simp [intOf]; omega
    · have hlt' : ¬ (t : Int) < (s.cores : Int) := by omega
      have hpo := pagesOf_any wr pl capl Lt hrel.out.list hLl (fun t ht => by have := HTB.out.1 t ht; omega) (by rw [HTB.out.2.1, HTB.out.2.2]; omega)
      rw [HTB.out.2.1] at hpo
      have HREL := hrel
      clear hrel qf q0 q1 q3
      go_wp2_with (first
        | (go_at_call 22; refine hpo.mono ?_; clear hpo; rintro e w22 ⟨v22, rfl, hx1, hx2⟩
           obtain ⟨p22, cap22, hv22, hin22, _⟩ := hx1.toIn
           subst v22
           have hf22 := HREL.out.grown hx2
           have hgi := give_in w22 d s S1 hf22.one p22 cap22 _ hin22 (by simp [maxLen]; have := HTB.out.2.2; omega) (by
             rw [List.all_eq_true]
             intro x hx
             rw [List.mem_map] at hx
             obtain ⟨q, hq, rfl⟩ := hx
             have := HNF.out q hq
             exact inD_iff.2 ⟨by omega, by omega⟩)
           rw [List.length_map, map_toNat, gv_all T S1 HND.out (fun q hq => (HNF.out q hq).1), HSB.out] at hgi
           have HF22 := Hid.mk' hf22
           clear hx1 hx2 hin22 hf22)
        | (go_at_call 21; refine hgi.mono ?_; clear hgi; rintro e w23 (⟨h0, _⟩ | ⟨S', h0, rfl, hp23, hk23⟩)
           · cases h0
           have hS' : S = S' := by simpa using h0
           have hf23 := HF22.out.free.but hk23 HF22.out.ap.2.2.1
           rw [← hS'] at hp23
           have hs23 := pspans_any w23 d s S hp23
           rw [← HLF.out] at hs23
           have HP23 := Hid.mk' hp23
           have HI23 := Hid.mk' hf23
           have HK23 := Hid.mk' hk23
           clear hk23 hp23 hf23 hS' h0)
        | (go_at_call 14; refine hs23.mono ?_; clear hs23; rintro e w24 ⟨v24, rfl, hx1, hx2⟩
           obtain ⟨p24, cap24, hv24, hin24, _⟩ := hx1.toIn
           subst v24
           have hsm4 := sameSpans_yes w24 p24 pF cap24 capF LF hin24 (spIn_grown HI23.out hx2) (by omega)
           have hp24 := HP23.out.kept hx2 (by have := heap_lt HP23.out.at_; omega)
           have hfr := fun m => free_any (w24.drewN m) d s S (hp24.kept (Keeps.drewN (fun _ => False) _ m) (by simp))
           rw [← HQ.out] at hfr
           have hct4 := fun m => HCT.out (w24.drewN m) ((spIn_grown HI23.out hx2).grown (Keeps.drewN (fun _ => False) w24 m) (by simp))
           have HKF : Hid (Keeps (fun k => w.heap.size ≤ k) w w24) := by
             have b1 := HF22.out.keep.size
             have b2 := HK23.out.size
             have b3 := HF22.out.low
             exact ((HK1.out.then HF22.out.keep (fun j hj => by left; omega)).then HK23.out (fun j hj => by left; omega)).then hx2 (fun j hj => by left; omega)
           clear hx1 hx2 hin24 hp24)
        | (go_at_call 18; refine hsm4.mono ?_; clear hsm4; rintro e w25 ⟨rfl, m25, hw'⟩; subst w25)
        | (go_at_call 23; refine (hfr _).mono ?_; clear hfr; rintro e w26 ⟨rfl, hw'⟩; subst w26)
        | (go_at_call 15; refine (hct4 _).mono ?_; clear hct4; rintro e w27 ⟨rfl, hw'⟩; subst w27))
      go_ret
      exact ⟨ret_bool (by simp), HKF.out.trans (Keeps.drewN _ _ _)⟩

end Go.Proofs.Ytnafocbgapianab
