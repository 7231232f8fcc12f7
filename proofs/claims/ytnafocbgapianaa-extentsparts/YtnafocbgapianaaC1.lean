import Derived.Test.YtnafocbgapianaaB9
import Derived.Deep.OwnRows
namespace Go.Proofs.Ytnafocbgapianaa
open Go.RowKit

theorem info4 : (Try.prog.info? 4).map (fun i => (i.zero, i.size, i.bytes)) = some (some (.bool false), 1, 1) := by kernel_rfl

/-- A list of moves that lies in memory. -/
def MvIn (w : World) (p : Option Addr) (l : List (Bool × Int × Int)) : Prop :=
  0 < l.length → ∃ b o, p = some ⟨b, o, none⟩ ∧ b < w.heap.size ∧ ∀ i, i < l.length →
    w.cell? ⟨b, o + i * 3, none⟩ = some (.bool (l.getD i (false, 0, 0)).1) ∧ w.cell? ⟨b, o + i * 3 + 1, none⟩ = some (.int .i64 (l.getD i (false, 0, 0)).2.1) ∧ w.cell? ⟨b, o + i * 3 + 2, none⟩ = some (.int .i64 (l.getD i (false, 0, 0)).2.2)

theorem MvIn.grown {w w' : World} {p : Option Addr} {l : List (Bool × Int × Int)} {X : Nat → Prop} (h : MvIn w p l) (k : Keeps X w w') (hX : ∀ b, X b → w.heap.size ≤ b) : MvIn w' p l := by
  intro h0
  obtain ⟨b, o, e, hb, hc⟩ := h h0
  have hn : ¬ X b := fun hx => by have := hX b hx; omega
  exact ⟨b, o, e, Nat.lt_of_lt_of_le hb k.size, fun i hi => ⟨k.cell (hc i hi).1 hn, k.cell (hc i hi).2.1 hn, k.cell (hc i hi).2.2 hn⟩⟩

theorem boolCells_none (n : Nat) : (boolCells (fun _ => false) n).toArray = madeCells #[.bool false] n := by
  apply Array.ext
  · simp [madeCells, boolCells]
  · intro i h1 h2
    simp [madeCells, boolCells, Nat.mod_one]
theorem hc_none (s : Sh) : hc s (fun _ => false) = 0 := cn_zero fun _ _ => rfl
theorem allS_mark (s : Sh) : ∀ j, s.data ≤ j → j < s.pages → allS s j = !(fun _ : Nat => false) j := by
  intro j h1 h2; simp [allS, h1, h2]

theorem duo_start {w2 w4 : World} {d : Nat} {s : Sh} (hp : PoolAt w4 d s (allS s)) (hk : Keeps (fun k => w2.heap.size ≤ k) w2 w4) (hd : w2.heap.size ≤ d) :
    Duo w2 w2.heap.size d (w4.heap.size + 1) w4.heap.size s (allS s) (fun _ => false) ((w4.alloc (.cells (madeCells #[.bool false] s.pages) 4)).alloc (.cells #[.int .i64 s.pages, .int .i64 s.inodes, .int .i64 s.cores, .int .i64 s.data, .slice (some ⟨w4.heap.size, 0, none⟩) s.pages s.pages, .int .i64 0] 42)).drew := by
  obtain ⟨n1, n2, n3, n4⟩ := two_new w4 (.cells (madeCells #[.bool false] s.pages) 4) (.cells #[.int .i64 s.pages, .int .i64 s.inodes, .int .i64 s.cores, .int .i64 s.data, .slice (some ⟨w4.heap.size, 0, none⟩) s.pages s.pages, .int .i64 0] 42)
  have hdl := heap_lt hp.at_
  have hks := hk.size
  have h1 := hp.kept n3 (by omega)
  refine ⟨⟨h1.at_, h1.good, h1.sup⟩, ⟨?_, ?_, by omega⟩, allS_mark s, by omega, by omega, (hk.then n3 (fun j hj => by left; omega)).trans (Keeps.drewN _ _ 1)⟩
  · rw [hc_none]; exact n2
  · rw [boolCells_none]; exact n1

theorem tdiv_wrap {x m : Int} (h : -9223372036854775808 ≤ x ∧ x ≤ 9223372036854775807) (hm : 1 < m) : IntKind.i64.wrap (x.tdiv m) = x.tdiv m := by
  by_cases h0 : 0 ≤ x
  · have h1 := Int.tdiv_nonneg h0 (show 0 ≤ m by omega)
    have h2 := Int.ediv_le_self m h0
    rw [Int.tdiv_eq_ediv_of_nonneg h0] at *
    exact i64_id (by omega) (by omega)
  · obtain ⟨y, rfl⟩ : ∃ y, x = -y := ⟨-x, by omega⟩
    rw [Int.neg_tdiv]
    have hy : 0 ≤ y := by omega
    have h1 := Int.tdiv_nonneg hy (show 0 ≤ m by omega)
    have h2 := Int.ediv_le_self m hy
    rw [Int.tdiv_eq_ediv_of_nonneg hy] at *
    exact i64_id (by omega) (by omega)

set_option maxHeartbeats 8000000 in
set_option maxRecDepth 20000 in
theorem parts_walk (w : World) (pages cores : Int) (p : Option Addr) (cap : Nat) (l : List (Bool × Int × Int)) (hl : MvIn w p l) (hll : l.length ≤ maxLen) (hpb : -9223372036854775808 ≤ pages ∧ pages ≤ 9223372036854775807) :
    Calls Try.prog 6 #[.int .i64 pages, .int .i64 cores, .slice p l.length cap] w fun e w' => e = .returned (.bool true) ∧ Keeps (fun k => w.heap.size ≤ k) w w' := by
  have hshape := shape_any pages (pages.tdiv 7) cores
  obtain ⟨s, hs⟩ : ∃ s, s = mkSh pages (pages.tdiv 7) cores := ⟨_, rfl⟩
  rw [← hs] at hshape
  have hg : s.Good := by rw [hs]; exact mkSh_good _ _ _
  have hq7 : IntKind.i64.wrap (pages.tdiv 7) = pages.tdiv 7 := tdiv_wrap hpb (by omega)
  have hpg : s.pages ≤ 119 := by rw [hs]; exact mkSh_pages _ _ _
  have HG := Hid.mk' hg
  have HLI := Hid.mk' hl
  unfold maxLen at hll
  unfold Sh.agg at hshape
  clear hs hl
  go_enter Try.func6, Try.ntmps6
  go_wp2_with (first
    | (go_at_call 9; refine (hshape _).mono ?_; rintro e w1 ⟨rfl, hk⟩
       have HK1 := Hid.mk' (hk.then (X := fun k => w.heap.size ≤ k) (Keeps.of (X := fun k => w.heap.size ≤ k) (World.grownBy_alloc w1 (.cells #[.int .i64 s.pages, .int .i64 s.inodes, .int .i64 s.cores, .int .i64 s.data] 23) none) (by simp)) (fun k hk => Or.inl hk))
       have hR := (MapKept.heap_alloc w1 (.cells #[.int .i64 s.pages, .int .i64 s.inodes, .int .i64 s.cores, .int .i64 s.data] 23)).1
       have hsz := hk.size
       clear hk))
  obtain ⟨w2, hw2⟩ : ∃ w2, w2 = w1.alloc (.cells #[.int .i64 s.pages, .int .i64 s.inodes, .int .i64 s.cores, .int .i64 s.data] 23) := ⟨_, rfl⟩
  have hs2 : w2.heap.size = w1.heap.size + 1 := by rw [hw2]; simp
  rw [← hw2] at HK1 hR ⊢
  have HR := Hid.mk' hR
  obtain ⟨a0, a1, a2, a3, af⟩ := cells4 hR
  have hwh := fun m => whole_any s HG.out (w2.drewN m)
  unfold Sh.agg at hwh
  clear hw2 hR af hshape
  go_region_held3 (fun wx => wx.cell? ⟨w1.heap.size, 0, none⟩ = some (.int .i64 s.pages) ∧ wx.cell? ⟨w1.heap.size, 1, none⟩ = some (.int .i64 s.inodes) ∧ wx.cell? ⟨w1.heap.size, 2, none⟩ = some (.int .i64 s.cores) ∧ wx.cell? ⟨w1.heap.size, 3, none⟩ = some (.int .i64 s.data))
    (first | go_keep)
    (first
      | (go_at_call 15; refine (hwh _).mono ?_; rintro e w3 ⟨b3, rfl, hx1, hx2, hx3⟩
         have hK3 : Keeps (fun k => w2.heap.size ≤ k) w2 w3 := (Keeps.drewN _ w2 0).trans ⟨hx3.os, hx3.tape, hx3.output, hx3.size, hx3.block⟩
         obtain ⟨b0, b1, b2, b3', bf⟩ := cells4 (hK3.at HR.out (by omega))
         have hnw := newWhole s HG.out w3 b3 hx1
         unfold Sh.agg at hnw
         have HK3 := Hid.mk' hK3
         clear hx1 hx2 hx3 hK3 bf)
      | (go_at_call 10; refine hnw.mono ?_; rintro e w4 ⟨d, rfl, hd4, hp4, hk4⟩
         have hK4 := HK3.out.then hk4 (fun k hk => by right; have := HK3.out.size; omega)
         obtain ⟨c0, c1, c2, c3, cf⟩ := cells4 (hK4.at HR.out (by omega))
         have HK4 := Hid.mk' hK4
         have HP4 := Hid.mk' hp4
         have hd2 : w2.heap.size ≤ d := by have := HK3.out.size; omega
         clear hk4 hK4 cf hp4 hd4))
  go_wp2
  have hmk := fun w => run_make_row' (P := Try.prog) 40 4 (.bool false) 1 Try.underlying40 info4 rfl .i64 .i64 s.pages (by omega) (by omega) w
  go_region_held3 (fun wx => wx.cell? ⟨w1.heap.size, 0, none⟩ = some (.int .i64 s.pages) ∧ wx.cell? ⟨w1.heap.size, 1, none⟩ = some (.int .i64 s.inodes) ∧ wx.cell? ⟨w1.heap.size, 2, none⟩ = some (.int .i64 s.cores) ∧ wx.cell? ⟨w1.heap.size, 3, none⟩ = some (.int .i64 s.data))
    (first | go_keep)
    (fail)
  have HD0 := Hid.mk' (duo_start HP4.out HK4.out hd2)
  have h8 : s.cores ≤ 8 := HG.out.2.2.2.2.2.2.1
  have h1c : 1 ≤ s.cores := HG.out.2.2.2.2.2.1
  have h24 : 24 ≤ s.pages := HG.out.1
  obtain ⟨w5, hw5⟩ : ∃ w5, w5 = ((w4.alloc (.cells (madeCells #[.bool false] s.pages) 4)).alloc (.cells #[.int .i64 s.pages, .int .i64 s.inodes, .int .i64 s.cores, .int .i64 s.data, .slice (some ⟨w4.heap.size, 0, none⟩) s.pages s.pages, .int .i64 0] 42)).drew := ⟨_, rfl⟩
  rw [← hw5] at HD0 ⊢
  have hp40 := fun c w => place_any c 40 w (by omega) (by omega)
  have hpP := fun c w => place_any c s.pages w (by omega) (by omega)
  have hpC := fun c w => place_any c s.cores w (by omega) (by omega)
  generalize w4.heap.size + 1 = k at *
  generalize w4.heap.size = hb at *
  clear hw5 hmk hnw hwh a0 a1 a2 a3 b0 b1 b2 b3' c0 c1 c2 c3 HK3 HK4 HP4 hd2
  go_wp2
  go_loopw [11] (fun iv wr => ∃ i : Nat, i ≤ l.length ∧ iv = .int .i64 i ∧ Hid (∃ S H, Duo w2 w2.heap.size d k hb s S H wr)) (fun iv _ => l.length - (intOf iv).toNat)
  case atStart => exact ⟨0, by omega, rfl, _, _, HD0.out⟩
  case round =>
    obtain ⟨i, hi, rfl, hrel⟩ := hrel
    obtain ⟨S, H, hduo⟩ := hrel.out
    clear hrel
    by_cases hlt : i < l.length
    · have hlt' : (i : Int) < (l.length : Int) := by omega
      obtain ⟨b, o, rfl, hbs, hcs⟩ := HLI.out (by omega)
      have hkp : ∀ wx, Keeps (fun j => w2.heap.size ≤ j) w2 wx → Keeps (fun j => w.heap.size ≤ j) w wx := fun wx h => HK1.out.then h (fun j hj => by left; omega)
      have HMV : Hid (∀ wx, Keeps (fun j => w2.heap.size ≤ j) w2 wx → (wx.cell? ⟨b, o + i * 3, none⟩ = some (.bool (l.getD i (false, 0, 0)).1) ∧ wx.cell? ⟨b, o + i * 3 + 1, none⟩ = some (.int .i64 (l.getD i (false, 0, 0)).2.1) ∧ wx.cell? ⟨b, o + i * 3 + 2, none⟩ = some (.int .i64 (l.getD i (false, 0, 0)).2.2)) ∧
          (wx.cell? ⟨w1.heap.size, 0, none⟩ = some (.int .i64 s.pages) ∧ wx.cell? ⟨w1.heap.size, 2, none⟩ = some (.int .i64 s.cores) ∧ wx.cell? ⟨w1.heap.size, 3, none⟩ = some (.int .i64 s.data))) := by
        intro wx hx
        have h1 := hkp wx hx
        have h2 := hcs i hlt
        have h3 := cells4 (hx.at HR.out (by omega))
        exact ⟨⟨h1.cell h2.1 (by simp; omega), h1.cell h2.2.1 (by simp; omega), h1.cell h2.2.2 (by simp; omega)⟩, h3.1, h3.2.2.1, h3.2.2.2.1⟩
      clear hcs hkp
      generalize l.getD i (false, 0, 0) = mv at *
      obtain ⟨bk, mn, mm⟩ := mv
      simp only at HMV
      obtain ⟨⟨e1, e2, e3⟩, g0, g2, g3⟩ := HMV.out wr hduo.keep
      cases bk with
      | true =>
        have hso := fun m => duo_some (hduo.drewN m) (plc mn 40) (plc mm s.pages) (by have := plc_lt mn (show 1 ≤ 40 by omega); omega) (by have := plc_lt mm (show 1 ≤ s.pages by omega); omega)
        have hpm := hp40 mn
        have hpn := hpP mm
        generalize plc mn 40 = n at *
        generalize plc mm s.pages = at_ at *
        have HDU := Hid.mk' hduo
        clear hduo
        go_wp2
        go_region_held3 (fun wx => wx.cell? ⟨b, o + i * 3 + 1, none⟩ = some (.int .i64 mn) ∧ wx.cell? ⟨b, o + i * 3 + 2, none⟩ = some (.int .i64 mm) ∧ wx.cell? ⟨w1.heap.size, 0, none⟩ = some (.int .i64 s.pages))
          (first | go_keep)
          (first
            | (go_at_call_of 20 mn; refine (hpm _).mono ?_; rintro e w6 ⟨rfl, hw6⟩; subst w6)
            | (go_at_call_of 20 mm; refine (hpn _).mono ?_; rintro e w6 ⟨rfl, hw6⟩; subst w6)
            | (go_at_call 21; refine (hso _).mono ?_; rintro e w7 ⟨v7, rfl, hx1, hx2⟩
               have hK7 : Keeps (fun j => w2.heap.size ≤ j) w2 w7 := by obtain ⟨_, _, q⟩ := hx1; exact q.2.2.2.2.2.2.2.2.1
               obtain ⟨⟨f1, f2, f3⟩, r0, r2, r3⟩ := HMV.out w7 hK7
               have HX := Hid.mk' hx1
               clear hx1 hx2 hK7))
        clear hso hpm hpn
        go_wp2_with (first
          | (go_at_call 23; refine (mid_give HX.out).mono ?_; rintro e w8 ⟨rfl, ⟨S8, H8, hd8⟩, hk8⟩; have HD8 := Hid.mk' hd8; clear hd8 hk8)
          | (go_at_call 25; refine (duo_agrees HD8.out).mono ?_; rintro e w9 ⟨rfl, hd9, hk9⟩; have HD9 := Hid.mk' hd9; clear hd9 hk9))
        all_goals
          go_roundw
          case rel =>
            first
              | exact ⟨i + 1, by omega, by go_num, _, _, HD9.out⟩
              | exact ⟨i + 1, by omega, by go_num, _, _, HD8.out⟩
          case measure => simp [intOf]; omega
      | false =>
        obtain ⟨k0, k2, k3, k4, k5, kf⟩ := hduo.book.cells
        have hnum := hduo.num
        have hpm := hp40 mm
        have hpn := hpC mn
        have hn40 := plc_lt mm (show 1 ≤ 40 by omega)
        have hcc := plc_lt mn h1c
        have h9 : s.data + 8 ≤ s.pages := HG.out.2.2.2.2.2.2.2.2
        have hs1 : IntKind.i64.wrap ((s.pages : Int) - (s.data : Int)) = (s.pages : Int) - (s.data : Int) := i64_id (by omega) (by omega)
        have hs2 : IntKind.i64.wrap ((s.pages : Int) - (s.data : Int) - (hc s H : Int)) = (cn S s.pages : Int) := by rw [i64_id (by omega) (by omega)]; omega
        have hs3 : (s.pages : Int) - (s.data : Int) - (hc s H : Int) = (cn S s.pages : Int) := by omega
        by_cases hle : plc mm 40 ≤ cn S s.pages
        · have hta := fun m => duo_take (hduo.drewN m) (plc mn s.cores) (plc mm 40) hcc hle
          have hle' : (plc mm 40 : Int) ≤ (cn S s.pages : Int) := by omega
          generalize plc mn s.cores = core at *
          generalize plc mm 40 = n at *
          generalize cn S s.pages = q at *
          have hq5 : hc s H ≤ 119 := by omega
          obtain ⟨M, hMe⟩ : ∃ M, M = hc s H := ⟨_, rfl⟩
          rw [← hMe] at k5 hs2 hs3 hnum hq5
          have HME := Hid.mk' hMe
          have HDU := Hid.mk' hduo
          clear hduo kf hMe
          go_wp2_with (first
            | (go_at_call_of 20 mm; refine (hpm _).mono ?_; rintro e w6 ⟨rfl, hw6⟩; subst w6))
          go_quiet (fail)
          go_wp2
          go_region_held3 (fun wx => wx.cell? ⟨b, o + i * 3 + 1, none⟩ = some (.int .i64 mn) ∧ wx.cell? ⟨w1.heap.size, 2, none⟩ = some (.int .i64 s.cores))
            (first | go_keep)
            (first
              | (go_at_call_of 20 mn; refine (hpn _).mono ?_; rintro e w6 ⟨rfl, hw6⟩; subst w6)
              | (go_at_call 19; refine (hta _).mono ?_; rintro e w7 ⟨v7, rfl, hx1, hx2⟩
                 have hK7 : Keeps (fun j => w2.heap.size ≤ j) w2 w7 := by obtain ⟨_, _, q⟩ := hx1; exact q.2.2.2.2.2.2.2.2.2.1
                 have hb7 : BookAt w7 k hb s H (hc s H) := by obtain ⟨_, _, q⟩ := hx1; exact q.2.2.2.2.1
                 obtain ⟨⟨f1, f2, f3⟩, r0, r2, r3⟩ := HMV.out w7 hK7
                 obtain ⟨m0, m2, m3, m4, m5, mf⟩ := hb7.cells
                 rw [← HME.out] at m5
                 have HX := Hid.mk' hx1
                 clear hx1 hx2 hK7 hb7 mf))
          clear hta hpm hpn
          go_wp2_with (first
            | (go_at_call 24; refine (got_took HX.out (by omega)).mono ?_; rintro e w8 ⟨rfl, ⟨S8, H8, hd8, hh8⟩, hk8⟩
               obtain ⟨x0, x2, x3, x4, x5, xf⟩ := hd8.book.cells
               rw [hh8, ← HME.out] at x5
               have hwn : IntKind.i64.wrap ((M : Int) + (n : Int)) = (M : Int) + (n : Int) := i64_id (by omega) (by omega)
               have HD8 := Hid.mk' hd8; clear hd8 hk8 hh8 xf)
            | (go_at_call 25; refine (duo_agrees HD8.out).mono ?_; rintro e w9 ⟨rfl, hd9, hk9⟩; have HD9 := Hid.mk' hd9; clear hd9 hk9))
          all_goals
            go_roundw
            case rel =>
              first
                | exact ⟨i + 1, by omega, by go_num, _, _, HD9.out⟩
                | exact ⟨i + 1, by omega, by go_num, _, _, HD8.out⟩
            case measure => simp [intOf]; omega
        · have hta := fun m => take_full (wr.drewN m) d s S (hduo.drewN m).pool (plc mn s.cores : Int) (plc mm 40 : Int) (by omega) (by omega)
          have hle' : ¬ (plc mm 40 : Int) ≤ (cn S s.pages : Int) := by omega
          generalize plc mn s.cores = core at *
          generalize plc mm 40 = n at *
          generalize cn S s.pages = q at *
          have hq5 : hc s H ≤ 119 := by omega
          obtain ⟨M, hMe⟩ : ∃ M, M = hc s H := ⟨_, rfl⟩
          rw [← hMe] at k5 hs2 hs3 hnum hq5
          have HME := Hid.mk' hMe
          have HDU := Hid.mk' hduo
          clear hduo kf hMe
          go_wp2_with (first
            | (go_at_call_of 20 mm; refine (hpm _).mono ?_; rintro e w6 ⟨rfl, hw6⟩; subst w6))
          go_quiet (fail)
          go_wp2
          go_region_held3 (fun wx => wx.cell? ⟨b, o + i * 3 + 1, none⟩ = some (.int .i64 mn) ∧ wx.cell? ⟨w1.heap.size, 2, none⟩ = some (.int .i64 s.cores))
            (first | go_keep)
            (first
              | (go_at_call_of 20 mn; refine (hpn _).mono ?_; rintro e w6 ⟨rfl, hw6⟩; subst w6)
              | (go_at_call 19; refine (hta _).mono ?_; rintro e w7 ⟨rfl, hw7⟩; subst w7))
          clear hta hpm hpn
          go_wp2_with (first
            | (go_at_call 24; refine (duo_took_nil (HDU.out.drewN _)).mono ?_; rintro e w8 ⟨rfl, hd8, hk8⟩
               obtain ⟨x0, x2, x3, x4, x5, xf⟩ := hd8.book.cells
               rw [← HME.out] at x5
               have HD8 := Hid.mk' hd8; clear hd8 hk8 xf)
            | (go_at_call 25; refine (duo_agrees HD8.out).mono ?_; rintro e w9 ⟨rfl, hd9, hk9⟩; have HD9 := Hid.mk' hd9; clear hd9 hk9))
          all_goals
            go_roundw
            case rel =>
              first
                | exact ⟨i + 1, by omega, by go_num, _, _, HD9.out⟩
                | exact ⟨i + 1, by omega, by go_num, _, _, HD8.out⟩
            case measure => simp [intOf]; omega
    · have hlt' : ¬ (i : Int) < (l.length : Int) := by omega
      have hag := duo_agrees hduo
      clear hduo
      go_wp2_with (first
        | (go_at_call 25; refine hag.mono ?_; rintro e w9 ⟨rfl, hd9, hk9⟩))
      go_ret
      exact ⟨rfl, HK1.out.then hd9.keep (fun j hj => by left; omega)⟩

end Go.Proofs.Ytnafocbgapianaa
