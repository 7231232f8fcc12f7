import Derived.Test.YtnafocbgapianaaC2
import Derived.Test.YtnafocbgapianaaD2
namespace Go.Proofs.Ytnafocbgapianaa
open Go.RowKit

theorem spIn_grown {w w' : World} {p : Option Addr} {l : List (Int × Int)} (h : SpIn w p l) (k : Keeps (fun j => w.heap.size ≤ j) w w') : SpIn w' p l := h.grown k (fun _ hb => hb)

theorem row_cap {w : World} {B e sz g n cap : Nat} {xs : List Value} (h : w.ownsRow B e sz (.slice (some ⟨g, 0, none⟩) n cap) n xs) : n ≤ cap ∧ cap ≤ maxLen := by
  rcases h.2 with ⟨h0, _⟩ | ⟨g', cap', cur, hv, _, _, h1, h2, _⟩
  · cases h0
  · cases hv; exact ⟨h1, h2⟩
theorem spIn_row {w : World} {B g n cap : Nat} {l : List (Nat × Nat)} {xs : List Value} (h : w.ownsRow B 31 2 (.slice (some ⟨g, 0, none⟩) n cap) n (spCells l ++ xs)) : SpIn w (some ⟨g, 0, none⟩) (castL l) := by
  intro h0
  rw [castL_len] at h0
  refine ⟨g, 0, rfl, (h.lt g rfl).2, ?_⟩
  intro i hi
  rw [castL_len] at hi
  have hl := h.1
  rw [List.length_append, spCells_len] at hl
  have c0 := h.cellAt (i * 2) (by omega)
  have c1 := h.cellAt (i * 2 + 1) (by omega)
  obtain ⟨q1, q2⟩ := spCells_get l i hi
  rw [List.getElem?_append_left (by rw [spCells_len]; omega), q1] at c0
  rw [List.getElem?_append_left (by rw [spCells_len]; omega), q2] at c1
  rw [castL_get, List.getD_eq_getElem?_getD, List.getElem?_eq_getElem hi]
  simp only [Nat.zero_add, Option.getD_some]
  exact ⟨c0, c1⟩
theorem own_kept {w w' : World} {B e sz g n cap : Nat} {xs : List Value} {X : Nat → Prop} (h : w.ownsRow B e sz (.slice (some ⟨g, 0, none⟩) n cap) n xs) (k : Keeps X w w') (hx : ¬ X g) : w'.ownsRow B e sz (.slice (some ⟨g, 0, none⟩) n cap) n xs := by
  have hlt := (h.lt g rfl).2
  obtain ⟨h1, h2⟩ := h
  refine ⟨h1, ?_⟩
  rcases h2 with ⟨h0, _⟩ | ⟨g', cap', cur, hv, hg, hh, r⟩
  · cases h0
  · cases hv
    exact Or.inr ⟨g, cap, cur, rfl, hg, (k.block g hlt hx).trans hh, r⟩

/-- All that is held, out of a book with as many asked for as there are pages. -/
theorem gathered_all {s : Sh} (hg : s.Good) {H H' : Nat → Bool} {T : List Nat} (h : Gathered s H s.pages H' T) (h2 : T.length = s.pages ∨ ∀ j, s.data ≤ j → j < s.pages → H' j = false) : ∀ j, s.data ≤ j → j < s.pages → (H j = true ↔ j ∈ T) := by
  intro j h3 h4
  have h5 := h.num
  have h6 := hc_le s H
  have h9 := hg.2.2.2.2.2.2.2.2
  have hd := hg.2.2.2.2.2.2.2.1
  rcases h2 with h2 | h2
  · omega
  · have := h2 j h3 h4
    rw [h.left j] at this
    constructor
    · intro hj; rw [hj] at this; simpa using this
    · intro hj; exact (h.mem j hj).2.2

theorem pool_full {s : Sh} {S H : Nat → Bool} {T : List Nat} (hm : ∀ j, s.data ≤ j → j < s.pages → S j = !H j) (hs : ∀ i, S i = true → s.data ≤ i ∧ i < s.pages) (hT : ∀ q ∈ T, s.data ≤ q ∧ q < s.pages) (h : ∀ j, s.data ≤ j → j < s.pages → (H j = true ↔ j ∈ T)) : setH S T = allS s := by
  funext j
  unfold setH allS
  by_cases h1 : s.data ≤ j ∧ j < s.pages
  · have h2 := hm j h1.1 h1.2
    have h3 := h j h1.1 h1.2
    rw [h2]
    cases hH : H j with
    | false => simp [h1]
    | true => have := h3.1 hH; simp [h1, this]
  · have h4 : S j = false := by
      cases hS : S j with
      | false => rfl
      | true => exact absurd (hs j hS) h1
    have h5 : j ∉ T := fun hj => h1 (hT j hj)
    rw [h4]
    simp only [h5, decide_false, Bool.or_false]
    symm
    rw [Bool.and_eq_false_iff]
    by_cases h6 : s.data ≤ j
    · right; simp; omega
    · left; simp; omega
theorem cn_allS {s : Sh} (hg : s.Good) : cn (allS s) s.pages + s.data = s.pages := by
  have h9 := hg.2.2.2.2.2.2.2.2
  have := mark_num hg (S := allS s) (H := fun _ => false) (fun i hi => by unfold allS at hi; simpa using hi) (allS_mark s)
  rw [hc_none] at this
  omega

/-- Give of pages of which one can't come back, told by its answer alone. -/
theorem give_bad' (w : World) (d : Nat) (s : Sh) (S : Nat → Bool) (h : PoolAt w d s S) (p : Option Addr) (cap : Nat) (l : List Int) (hin : IntIn w p l) (hl : l.length ≤ maxLen) (hb : l.all (inD s) = false ∨ gv S (l.map Int.toNat) = none) :
    Calls Try.prog 23 #[.pointer (some ⟨d, 0, none⟩), .slice p l.length cap] w fun e w' => ∃ r : Int, e = .returned (.int .i64 r) ∧ (r == 0) = false ∧ PoolAt w' d s S ∧ Keeps (fun k => w.heap.size ≤ k) w w' := by
  refine (give_bad w d s S h p cap l hin hl hb).mono ?_
  rintro e w' ⟨h1, h2, h3⟩
  refine ⟨_, h1, ?_, h2, h3⟩
  split <;> rfl

set_option maxHeartbeats 4000000 in
set_option maxRecDepth 20000 in
theorem lent_walk (w : World) (pages cores bad : Int) (p : Option Addr) (cap : Nat) (l : List (Bool × Int × Int)) (hl : MvIn w p l) (hll : l.length ≤ maxLen) (hpb : -9223372036854775808 ≤ pages ∧ pages ≤ 9223372036854775807) :
    Calls Try.prog 8 #[.int .i64 pages, .int .i64 cores, .slice p l.length cap, .int .i64 bad] w fun e w' => e = .returned (.bool true) ∧ Keeps (fun k => w.heap.size ≤ k) w w' := by
  have hshape := shape_any pages (pages.tdiv 3) cores
  obtain ⟨s, hs⟩ : ∃ s, s = mkSh pages (pages.tdiv 3) cores := ⟨_, rfl⟩
  rw [← hs] at hshape
  have hg : s.Good := by rw [hs]; exact mkSh_good _ _ _
  have hq7 : IntKind.i64.wrap (pages.tdiv 3) = pages.tdiv 3 := tdiv_wrap hpb (by omega)
  have hpg : s.pages ≤ 119 := by rw [hs]; exact mkSh_pages _ _ _
  have HG := Hid.mk' hg
  have HLI := Hid.mk' hl
  unfold Sh.agg at hshape
  clear hs hl
  go_enter Try.func8, Try.ntmps8
  go_wp2_with (first
    | (go_at_call 9; refine (hshape _).mono ?_; rintro e w1 ⟨rfl, hk⟩
       have HK1 := Hid.mk' (hk.then (X := fun k => w.heap.size ≤ k) (Keeps.of (X := fun k => w.heap.size ≤ k) (World.grownBy_alloc w1 (.cells #[.int .i64 s.pages, .int .i64 s.inodes, .int .i64 s.cores, .int .i64 s.data] 23) none) (by simp)) (fun k hk => Or.inl hk))
       have hR := (MapKept.heap_alloc w1 (.cells #[.int .i64 s.pages, .int .i64 s.inodes, .int .i64 s.cores, .int .i64 s.data] 23)).1
       have hsz := hk.size
       clear hk))
  obtain ⟨w2, hw2⟩ : ∃ w2, w2 = w1.alloc (.cells #[.int .i64 s.pages, .int .i64 s.inodes, .int .i64 s.cores, .int .i64 s.data] 23) := ⟨_, rfl⟩
  have hs2 : w2.heap.size = w1.heap.size + 1 := by rw [hw2]; simp
  rw [← hw2] at HK1 hR ⊢
  have HR := Hid.mk' hR
  obtain ⟨a0, a1, a2, a3, af⟩ := cells4 hR
  have hwh := fun m => whole_any s HG.out (w2.drewN m)
  unfold Sh.agg at hwh
  clear hw2 hR af hshape
  go_region_held3 (fun wx => wx.cell? ⟨w1.heap.size, 0, none⟩ = some (.int .i64 s.pages) ∧ wx.cell? ⟨w1.heap.size, 1, none⟩ = some (.int .i64 s.inodes) ∧ wx.cell? ⟨w1.heap.size, 2, none⟩ = some (.int .i64 s.cores) ∧ wx.cell? ⟨w1.heap.size, 3, none⟩ = some (.int .i64 s.data))
    (first | go_keep)
    (first
      | (go_at_call 15; refine (hwh _).mono ?_; rintro e w3 ⟨b3, rfl, hx1, hx2, hx3⟩
         have hK3 : Keeps (fun k => w2.heap.size ≤ k) w2 w3 := (Keeps.drewN _ w2 0).trans ⟨hx3.os, hx3.tape, hx3.output, hx3.size, hx3.block⟩
         obtain ⟨b0, b1, b2, b3', bf⟩ := cells4 (hK3.at HR.out (by omega))
         have hnw := newWhole s HG.out w3 b3 hx1
         unfold Sh.agg at hnw
         have HK3 := Hid.mk' hK3
         clear hx1 hx2 hx3 hK3 bf)
      | (go_at_call 10; refine hnw.mono ?_; rintro e w4 ⟨d, rfl, hd4, hp4, hk4⟩
         have hK4 := HK3.out.then hk4 (fun k hk => by right; have := HK3.out.size; omega)
         obtain ⟨c0, c1, c2, c3, cf⟩ := cells4 (hK4.at HR.out (by omega))
         have HK4 := Hid.mk' hK4
         have HP4 := Hid.mk' hp4
         have hd2 : w2.heap.size ≤ d := by have := HK3.out.size; omega
         clear hk4 hK4 cf hp4 hd4))
  go_wp2
  have hmk := fun w => run_make_row' (P := Try.prog) 40 4 (.bool false) 1 Try.underlying40 info4 rfl .i64 .i64 s.pages (by omega) (by omega) w
  go_region_held3 (fun wx => wx.cell? ⟨w1.heap.size, 0, none⟩ = some (.int .i64 s.pages) ∧ wx.cell? ⟨w1.heap.size, 1, none⟩ = some (.int .i64 s.inodes) ∧ wx.cell? ⟨w1.heap.size, 2, none⟩ = some (.int .i64 s.cores) ∧ wx.cell? ⟨w1.heap.size, 3, none⟩ = some (.int .i64 s.data))
    (first | go_keep)
    (fail)
  have HD0 := Hid.mk' (duo_start HP4.out HK4.out hd2)
  have h8 : s.cores ≤ 8 := HG.out.2.2.2.2.2.2.1
  have h1c : 1 ≤ s.cores := HG.out.2.2.2.2.2.1
  have h24 : 24 ≤ s.pages := HG.out.1
  have h9 : s.data + 8 ≤ s.pages := HG.out.2.2.2.2.2.2.2.2
  obtain ⟨w5, hw5⟩ : ∃ w5, w5 = ((w4.alloc (.cells (madeCells #[.bool false] s.pages) 4)).alloc (.cells #[.int .i64 s.pages, .int .i64 s.inodes, .int .i64 s.cores, .int .i64 s.data, .slice (some ⟨w4.heap.size, 0, none⟩) s.pages s.pages, .int .i64 0] 42)).drew := ⟨_, rfl⟩
  rw [← hw5] at HD0 ⊢
  generalize w4.heap.size + 1 = k at *
  generalize w4.heap.size = hb at *
  have hpl := played_any HD0.out p cap l (HLI.out.grown HK1.out (fun b hb => hb)) (Nat.le_refl _) hll
  clear hw5 hmk hnw hwh a0 a1 a2 a3 b0 b1 b2 b3' c0 c1 c2 c3 HK3 HK4 HP4 hd2 HD0
  obtain ⟨i31, hi31, z31a, z31b, z31c⟩ := info_parts info31
  obtain ⟨i3, hi3, z3a, z3b, z3c⟩ := info_parts info3
  go_wp2_with (first
    | (go_at_call 16; refine hpl.mono ?_; clear hpl; rintro e w7 ⟨rfl, ⟨S, H, hd7⟩, _⟩
       have hsp := pspans_any w7 d s S hd7.pool
       have HD7 := Hid.mk' hd7
       clear hd7)
    | (go_at_call 18; refine hsp.mono ?_; clear hsp; rintro e w8 ⟨v8, rfl, hx1, hx2⟩
       obtain ⟨p8, cap8, hv8, hin8, _⟩ := hx1.toIn
       subst v8
       have hbd := sp_bd S 0 s.pages
       have hcp := copySpans_any w8 p8 cap8 (sp S 0 s.pages) hin8 (by omega)
       have HD8 := Hid.mk' (HD7.out.grown hx2)
       clear hx1 hx2 hin8 hbd HD7)
    | (go_at_call 17; refine hcp.mono ?_; clear hcp; rintro e w9 ⟨v9, rfl, hx1, hx2⟩
       obtain ⟨pF, capF, hv9, hin9, hob9⟩ := hx1.toIn
       subst v9
       have hbd := sp_bd S 0 s.pages
       have hcp2 := copySpans_any w9 pF capF (sp S 0 s.pages) hin9 (by omega)
       have hd9 := HD8.out.grown hx2
       have hw89 := hx2.size
       have HF9 := Hid.mk' hin9
       have HB9 : Hid (∀ b, pF.map (·.block) = some b → w8.heap.size ≤ b ∧ b < w9.heap.size) := fun b hb => hx1.lt b (hob9 b hb)
       have HL8 := Hid.mk' (And.intro (heap_lt HD8.out.pool.at_) (And.intro (heap_lt HD8.out.book.at_) (heap_lt HD8.out.book.held)))
       have HD9 := Hid.mk' hd9
       have hLl : (sp S 0 s.pages).length ≤ 119 := by omega
       have HBD := Hid.mk' hbd
       clear hx1 hx2 hin9 hob9 hd9 HD8 hbd)
    | (go_at_call 17; refine hcp2.mono ?_; clear hcp2; rintro e w10 ⟨v10, rfl, hx1, hx2⟩
       have HO10 : Hid (w10.ownsRow w9.heap.size 31 2 v10 (sp S 0 s.pages).length (spCells (sp S 0 s.pages))) := hx1
       have HK10 := Hid.mk' hx2
       have hs10 := hx2.size
       clear hx1 hx2)
    | (at_builtin; go_must (refine wpList_append_lies _ rfl _ _ 33 rfl w9.heap.size 31 i31 (.agg #[.int .i64 0, .int .i64 0]) 2 16 Try.underlying33 hi31 z31a z31b z31c rfl (by decide) _ (sp S 0 s.pages).length (spCells (sp S 0 s.pages)) rfl (World.ownsRow.alloc HO10.out _) ⟨w10.heap.size, 0, none⟩ 2 2 [.int .i64 (-5), .int .i64 77, .int .i64 (-6), .int .i64 78] rfl rfl (World.news_of_block (MapKept.heap_alloc w10 _).1) (by simp [Value.oneCell']) (by decide) (by unfold maxLen; omega) (by omega) (by simp; omega) (w10.heap.size + 1) (by simp) ?_); intro g c11 w11 hown11 hgrow11 hloc11 hlt11))
  have hown := hown11
  have HSUP := Hid.mk' HD9.out.pool.sup
  have hcap := row_cap hown11
  have hg9 : w9.heap.size ≤ g := (hown11.lt g rfl).1
  have hK11 : Keeps (fun j => w9.heap.size ≤ j) w9 w11 := (HK10.out.step (World.grownBy_alloc w10 (.cells #[.int .i64 (-5), .int .i64 77, .int .i64 (-6), .int .i64 78] 31) none) (by simp)).step hgrow11 (fun k hk => Or.inl (HO10.out.lt k hk).1)
  have hnp := fun m => newPool_of s HG.out S HSUP.out (w11.drewN m) (some ⟨g, 0, none⟩) c11 (spIn_grown (spIn_row hown11) (Keeps.drewN _ _ m))
  obtain ⟨LF, hLF⟩ : ∃ LF, LF = sp S 0 s.pages := ⟨_, rfl⟩
  rw [← hLF] at HF9 HBD hLl HO10 hcap hnp hown11 hown ⊢
  have HLF := Hid.mk' hLF
  unfold Sh.agg at hnp
  have HO11 := Hid.mk' hown11
  have HK11 := Hid.mk' hK11
  obtain ⟨r0, r1, r2, r3, rf⟩ := cells4 (hK11.at (HD9.out.keep.at HR.out (by omega)) (by have := heap_lt (HD9.out.keep.at HR.out (by omega)); omega))
  have hc1 : LF.length ≤ c11 := by omega
  have hc2 : (LF.length : Int) ≤ (c11 : Int) := by omega
  have hc3 : ¬ c11 = 0 := by omega
  have hc4 : (0 : Int) ≤ (LF.length : Int) := by omega
  have hs11 := hK11.size
  clear hown11 hgrow11 hloc11 hlt11 hK11 rf hLF HK10 HO10 hown
  go_region_held3 (fun wx => wx.cell? ⟨w1.heap.size, 0, none⟩ = some (.int .i64 s.pages) ∧ wx.cell? ⟨w1.heap.size, 1, none⟩ = some (.int .i64 s.inodes) ∧ wx.cell? ⟨w1.heap.size, 2, none⟩ = some (.int .i64 s.cores) ∧ wx.cell? ⟨w1.heap.size, 3, none⟩ = some (.int .i64 s.data))
    (first | go_keep)
    (first
      | (go_at_call 10; refine (hnp _).mono ?_; clear hnp; rintro e w12 ⟨dq, rfl, hdq, hp12, hk12⟩
         have hK12 : Keeps (fun j => w11.heap.size ≤ j) w11 w12 := (Keeps.drewN _ w11 0).trans ⟨hk12.os, hk12.tape, hk12.output, hk12.size, hk12.block⟩
         have hdq11 : w11.heap.size ≤ dq := hdq
         have hsq := pspans_any w12 dq s S hp12
         obtain ⟨q0, q1, q2, q3, qf⟩ := cells4 (hK12.at (HK11.out.at (HD9.out.keep.at HR.out (by omega)) (by have := heap_lt (HD9.out.keep.at HR.out (by omega)); omega)) (by have := heap_lt (HD9.out.keep.at HR.out (by omega)); omega))
         have HK12 := Hid.mk' hK12
         have HP12 := Hid.mk' hp12
         clear hk12 hK12 hdq hp12 qf))
  rw [← HLF.out] at hsq
  have hl9 := heap_lt (HD9.out.keep.at HR.out (by omega))
  go_wp2_with (first
    | (go_at_call 18; refine hsq.mono ?_; clear hsq; rintro e w13 ⟨v13, rfl, hx1, hx2⟩
       obtain ⟨p13, cap13, hv13, hin13, _⟩ := hx1.toIn
       subst v13
       have hK13 := HK12.out.then hx2 (fun k hk => by right; have := HK12.out.size; omega)
       have hK93 := HK11.out.then hK13 (fun k hk => by right; omega)
       have hd13 := HD9.out.grown hK93
       have hsm := sameSpans_yes w13 p13 pF cap13 capF LF hin13 (spIn_grown HF9.out hK93) (by omega)
       have hso := fun m => duo_some (hd13.drewN m) s.pages 0 (by omega) (by omega)
       obtain ⟨t0, t1, t2, t3, tf⟩ := cells4 (hd13.keep.at HR.out (by omega))
       have HK13 := Hid.mk' hK13
       have HD13 := Hid.mk' hd13
       have hs13 := hK13.size
       have HP13 := Hid.mk' (HP12.out.kept hx2 (by have := heap_lt HP12.out.at_; omega))
       clear hx1 hx2 hin13 hK13 hK93 hd13 tf t1 t2)
    | (go_at_call 22; refine hsm.mono ?_; clear hsm; rintro e w' ⟨rfl, m14, hw'⟩; subst w')
    | (go_at_call 21; refine (hso _).mono ?_; clear hso; rintro e w15 ⟨v15, rfl, hx1, hx2⟩
       obtain ⟨T, H', n1, n2, n3, n4, n5, n6, n7, n8, n9, n10, n11⟩ := hx1
       have hK15 : Keeps (fun j => (j = k ∨ j = hb) ∨ w13.heap.size ≤ j) w13 w15 := (Keeps.drewN _ w13 0).trans ⟨hx2.os, hx2.tape, hx2.output, hx2.size, hx2.block⟩
       have hlo : ∀ b, v15.ownBlock = some b → w13.heap.size ≤ b ∧ b < w15.heap.size := fun b hb => n1.lt b hb
       obtain ⟨p15, cap15, hv15, hin15, hob15⟩ := n1.toIn
       have HB15 : Hid (∀ b, p15.map (·.block) = some b → w13.heap.size ≤ b ∧ b < w15.heap.size) := fun b hb => hlo b (hob15 b hb)
       subst v15
       have hTl : T.length ≤ 119 := by have := n2.num; have := hc_le s H; omega
       have hci := copyInts_any w15 p15 cap15 (T.map fun q : Nat => (q : Int)) hin15 (by simp; omega)
       rw [List.length_map] at hci
       have HG15 := Hid.mk' n2
       have HA15 := Hid.mk' (gathered_all HG.out n2 n3)
       have HM15 := Hid.mk' n6
       have HI15 := Hid.mk' hin15
       have HK15 := Hid.mk' hK15
       have hs15 := hK15.size
       clear n1 n2 n3 n4 n5 n6 n7 n8 n9 n10 n11 hx2 hK15 hlo hin15 hob15)
    | (go_at_call 29; refine hci.mono ?_; clear hci; rintro e w16 ⟨v16, rfl, hx1, hx2⟩
       have HO16 : Hid (w16.ownsRow w15.heap.size 3 1 v16 T.length (numCells (T.map fun q : Nat => (q : Int)))) := hx1
       have HK16 := Hid.mk' hx2
       have hs16 := hx2.size
       clear hx1 hx2)
    | (at_builtin; go_must (refine wpList_append_lies _ rfl _ _ 49 rfl w15.heap.size 3 i3 (.int .i64 0) 1 8 Try.underlying49 hi3 z3a z3b z3c rfl (by decide) _ T.length (numCells (T.map fun q : Nat => (q : Int))) rfl (World.ownsRow.alloc HO16.out _) ⟨w16.heap.size, 0, none⟩ 3 3 [.int .i64 bad, .int .i64 (-71), .int .i64 (-72)] rfl rfl (World.news_of_block (MapKept.heap_alloc w16 _).1) (by simp [Value.oneCell']) (by decide) (by unfold maxLen; omega) (by omega) (by simp; omega) (w16.heap.size + 1) (by simp) ?_); intro g2 c17 w17 hown17 hgrow17 hloc17 hlt17))
  case isFalse hno =>
    have := (row_cap hown17).1
    exfalso
    omega
  have hK17 : Keeps (fun j => w15.heap.size ≤ j) w15 w17 := (HK16.out.step (World.grownBy_alloc w16 (.cells #[.int .i64 bad, .int .i64 (-71), .int .i64 (-72)] 3) none) (by simp)).step hgrow17 (fun k hk => Or.inl (HO16.out.lt k hk).1)
  have hcap17 := row_cap hown17
  have hg15 : w15.heap.size ≤ g2 ∧ g2 < w17.heap.size := hown17.lt g2 rfl
  have hTN : (T.map fun q : Nat => (q : Int)).length = T.length := by simp
  have hin17 : IntIn w17 (some ⟨g2, 0, none⟩) ((T.map fun q : Nat => (q : Int)) ++ [bad]) := by
    refine intIn_row (B := w15.heap.size) (n := T.length + 3) (cap := c17) (xs := [.int .i64 (-71), .int .i64 (-72)]) ?_
    have e : numCells ((T.map fun q : Nat => (q : Int)) ++ [bad]) ++ [.int .i64 (-71), .int .i64 (-72)] = numCells (T.map fun q : Nat => (q : Int)) ++ [.int .i64 bad, .int .i64 (-71), .int .i64 (-72)] := by simp [numCells]
    rw [e]; exact hown17
  have hin17b : IntIn w17 (some ⟨g2, 0, none⟩) (T.map fun q : Nat => (q : Int)) := intIn_row hown17
  have hK37 : Keeps (fun j => (j = k ∨ j = hb) ∨ w13.heap.size ≤ j) w13 w17 := HK15.out.then hK17 (fun j hj => by left; right; omega)
  have hl8 := HL8.out
  have hs98 := HD9.out.keep.size
  have hp17 : PoolAt w17 dq s S := HP13.out.kept hK37 (by have := heap_lt HP13.out.at_; have := heap_lt HD9.out.book.at_; have := heap_lt HD9.out.book.held; omega)
  have hSb : ∀ q : Nat, q ∈ T → S q = false := fun q hq => by
    have h1 := HG15.out.mem q hq
    rw [HM15.out q h1.1 h1.2.1, h1.2.2]; rfl
  have hgb := give_bad' w17 dq s S hp17 (some ⟨g2, 0, none⟩) c17 ((T.map fun q : Nat => (q : Int)) ++ [bad]) hin17 (by simp [maxLen]; omega) (by
    cases ha : ((T.map fun q : Nat => (q : Int)) ++ [bad]).all (inD s) with
    | false => exact Or.inl rfl
    | true =>
      right
      rw [List.all_append, Bool.and_eq_true] at ha
      obtain ⟨x, rfl, hx1, hx2⟩ := inD_nat (s := s) (p := bad) (by simpa using ha.2)
      rw [List.map_append, map_toNat]
      simp only [List.map_cons, List.map_nil, Int.toNat_natCast]
      cases hS : S x with
      | true => exact gv_dup _ _ x hS (by simp)
      | false =>
        have hH : H x = true := by rw [HM15.out x hx1 hx2] at hS; simpa using hS
        exact gv_twice T [] S x ((HA15.out x hx1 hx2).1 hH))
  have e1 : ((T.map fun q : Nat => (q : Int)) ++ [bad]).length = T.length + 1 := by simp
  rw [e1] at hgb
  have HFU := Hid.mk' (pool_full HM15.out HSUP.out (fun q hq => ⟨(HG15.out.mem q hq).1, (HG15.out.mem q hq).2.1⟩) HA15.out)
  have hall : (T.map fun q : Nat => (q : Int)).all (inD s) = true := by
    rw [List.all_eq_true]
    intro x hx
    rw [List.mem_map] at hx
    obtain ⟨q, hq, rfl⟩ := hx
    have := HG15.out.mem q hq
    exact inD_iff.2 ⟨by omega, by omega⟩
  have hsw : IntKind.i64.wrap ((T.length : Int) + 1) = (T.length : Int) + 1 := i64_id (by omega) (by omega)
  have HGI : Hid (∀ wx, PoolAt wx dq s S → IntIn wx (some ⟨g2, 0, none⟩) (T.map fun q : Nat => (q : Int)) → Calls Try.prog 23 #[.pointer (some ⟨dq, 0, none⟩), .slice (some ⟨g2, 0, none⟩) T.length c17] wx fun e w' => e = .returned (.int .i64 0) ∧ PoolAt w' dq s (allS s) ∧ Keeps (fun k => k = dq ∨ wx.heap.size ≤ k) wx w') := by
    intro wx h1 h2
    have hg := give_in wx dq s S h1 (some ⟨g2, 0, none⟩) c17 _ h2 (by simp [maxLen]; omega) hall
    rw [hTN, map_toNat, gv_all T S HG15.out.nodup hSb, HFU.out] at hg
    refine hg.mono ?_
    rintro e w' (⟨h0, _⟩ | ⟨S', h0, h1, h2, h3⟩)
    · cases h0
    · cases h0; exact ⟨h1, h2, h3⟩
  have HI17 := Hid.mk' hin17b
  have HP17 := Hid.mk' hp17
  have HK17 := Hid.mk' hK17
  have HK37 := Hid.mk' hK37
  have HO17 := Hid.mk' hown17
  have hd1 : T.length + 1 ≤ c17 := by omega
  have hd2 : (T.length : Int) + 1 ≤ (c17 : Int) := by omega
  have hd3 : ¬ c17 = 0 := by omega
  have hd4 : (0 : Int) ≤ (T.length : Int) + 1 := by omega
  have hd9 : 0 ≤ (T.length : Int) + 1 ∧ (T.length : Int) + 1 ≤ (c17 : Int) := by omega
  have hd5 : ((T.length : Int) + 1).toNat = T.length + 1 := by omega
  have hd6 : T.length ≤ c17 := by omega
  have hd7 : (T.length : Int) ≤ (c17 : Int) := by omega
  have hd8 : (0 : Int) ≤ (T.length : Int) := by omega
  clear hown17 hgrow17 hloc17 hlt17 hK17 hK37 hin17 hin17b hp17 hall e1 HO16 HK16 hTN hSb
  go_wp2_with (first
    | (go_at_call 23; refine hgb.mono ?_; clear hgb; rintro e w18 ⟨rb, rfl, hrb, hp18, hk18⟩
       have hgi := HGI.out w18 hp18 (HI17.out.grown hk18 (fun b hb => hb))
       have HK18 := Hid.mk' hk18
       have hs18 := hk18.size
       have hrb2 : ¬ rb = 0 := by simpa using hrb
       clear hp18 hk18)
    | (go_at_call 23; refine hgi.mono ?_; clear hgi; rintro e w19 ⟨rfl, hp19, hk19⟩
       have hK79 : Keeps (fun j => j = dq ∨ w17.heap.size ≤ j) w17 w19 := (HK18.out.mono (fun j _ hj => Or.inr hj)).then hk19 (fun j hj => by omega)
       have hdq13 : dq < w13.heap.size := heap_lt HP13.out.at_
       have hb17 : w15.heap.size ≤ w17.heap.size := HK17.out.size
       have hI19 : IntIn w19 (some ⟨g2, 0, none⟩) (T.map fun q : Nat => (q : Int)) := HI17.out.kept hK79 (fun b hb => by simp; omega)
       have hI15 : IntIn w19 p15 (T.map fun q : Nat => (q : Int)) := (HI15.out.grown HK17.out (fun b hb => hb)).kept hK79 (fun b hb e => by have := HB15.out b e; omega)
       have hsi := sameInts_yes w19 (some ⟨g2, 0, none⟩) p15 c17 cap15 (T.map fun q : Nat => (q : Int)) hI19 hI15 (by simp; omega)
       have HO19 := Hid.mk' (own_kept HO17.out hK79 (by omega))
       have hkk : k < w8.heap.size ∧ hb < w8.heap.size := ⟨HL8.out.2.1, HL8.out.2.2⟩
       have hK139 : Keeps (fun j => (j = dq ∨ j = k ∨ j = hb) ∨ w13.heap.size ≤ j) w13 w19 := (HK37.out.mono (fun j _ hj => by omega)).then hK79 (fun j hj => by omega)
       have hK119 : Keeps (fun j => (j = dq ∨ j = k ∨ j = hb) ∨ w11.heap.size ≤ j) w11 w19 := (HK13.out.mono (fun j _ hj => Or.inr hj)).then hK139 (fun j hj => by omega)
       have HKF := Hid.mk' hK119
       have HP19 := Hid.mk' hp19
       clear hp19 hk19 hK79 hI19 hI15 hK139 hK119))
  rw [List.length_map] at hsi
  have hbase := HKF.out
  have hgg : g < w11.heap.size := (HO11.out.lt g rfl).2
  have HSF : Hid (∀ wx, Keeps (fun j => (j = dq ∨ j = k ∨ j = hb) ∨ w11.heap.size ≤ j) w11 wx → SpIn wx (some ⟨g, 0, none⟩) (castL LF) ∧ SpIn wx pF (castL LF) ∧ wx.cell? ⟨g, LF.length * 2, none⟩ = some (.int .i64 (-5)) ∧ wx.cell? ⟨g, LF.length * 2 + 1, none⟩ = some (.int .i64 77) ∧ wx.cell? ⟨g, (LF.length + 1) * 2, none⟩ = some (.int .i64 (-6)) ∧ wx.cell? ⟨g, (LF.length + 1) * 2 + 1, none⟩ = some (.int .i64 78) ∧ wx.cell? ⟨w1.heap.size, 0, none⟩ = some (.int .i64 s.pages) ∧ wx.cell? ⟨w1.heap.size, 3, none⟩ = some (.int .i64 s.data)) := by
    intro wx hx
    have ho := own_kept HO11.out hx (by omega)
    have hL2 := spCells_len LF
    have sh := cells4 (hx.at (HK11.out.at (HD9.out.keep.at HR.out (by omega)) (by omega)) (by
      have := HD9.out.low
      omega))
    refine ⟨spIn_row ho, ?_, ?_, ?_, ?_, ?_, sh.1, sh.2.2.2.1⟩
    · exact (spIn_grown HF9.out HK11.out).kept hx (fun b hb e => by have := HB9.out b e; omega)
    · rw [ho.cellAt _ (by omega), List.getElem?_append_right (by omega), hL2]; simp
    · rw [ho.cellAt _ (by omega), List.getElem?_append_right (by omega), hL2, show LF.length * 2 + 1 - LF.length * 2 = 1 by omega]; rfl
    · rw [ho.cellAt _ (by omega), List.getElem?_append_right (by omega), hL2, show (LF.length + 1) * 2 - LF.length * 2 = 2 by omega]; rfl
    · rw [ho.cellAt _ (by omega), List.getElem?_append_right (by omega), hL2, show (LF.length + 1) * 2 + 1 - LF.length * 2 = 3 by omega]; rfl
  have hnl : (numCells (T.map fun q : Nat => (q : Int))).length = T.length := by simp [numCells]
  have f0 : w19.cell? ⟨g2, T.length, none⟩ = some (.int .i64 bad) := by rw [HO19.out.cellAt _ (by omega), List.getElem?_append_right (by omega), hnl]; simp
  have f1 : w19.cell? ⟨g2, T.length + 1, none⟩ = some (.int .i64 (-71)) := by rw [HO19.out.cellAt _ (by omega), List.getElem?_append_right (by omega), hnl, show T.length + 1 - T.length = 1 by omega]; rfl
  have f2 : w19.cell? ⟨g2, T.length + 2, none⟩ = some (.int .i64 (-72)) := by rw [HO19.out.cellAt _ (by omega), List.getElem?_append_right (by omega), hnl, show T.length + 2 - T.length = 2 by omega]; rfl
  obtain ⟨hA1, hA2, hA3, hA4, hA5, hA6, hA7, hA8⟩ := HSF.out w19 hbase
  have hsf := fun m => sameSpans_yes (w19.drewN m) (some ⟨g, 0, none⟩) pF c11 capF LF (spIn_grown hA1 (Keeps.drewN _ _ m)) (spIn_grown hA2 (Keeps.drewN _ _ m)) (by omega)
  have hn1 : (T.length : Int) < (T.length : Int) + 3 := by omega
  have hn2 : (T.length : Int) + 1 < (T.length : Int) + 3 := by omega
  have hn3 : (T.length : Int) + 2 < (T.length : Int) + 3 := by omega
  have hsw2 : IntKind.i64.wrap ((T.length : Int) + 2) = (T.length : Int) + 2 := i64_id (by omega) (by omega)
  have hd10 : (0 : Int) ≤ (T.length : Int) + 2 := by omega
  have hd11 : ((T.length : Int) + 2).toNat = T.length + 2 := by omega
  have hcn := cn_allS HG.out
  have HK19 := Hid.mk' hbase
  have HTOT := Hid.mk' (fun m => (HK1.out.then ((HD9.out.keep.then HK11.out (fun j hj => by left; have := HD9.out.keep.size; omega)).then hbase (fun j hj => by left; have := HD9.out.low; have := HD9.out.keep.size; omega)) (fun j hj => by left; omega)).trans (Keeps.drewN (fun j => w.heap.size ≤ j) w19 m))
  clear hA1 hA2 hnl hbase
  go_wp2_with (first
    | (go_at_call 30; refine hsi.mono ?_; clear hsi; rintro e w' ⟨rfl, m20, hw'⟩; subst w')
    | (go_at_call 22; refine (hsf _).mono ?_; clear hsf; rintro e w' ⟨rfl, m21, hw'⟩; subst w'))
  clear hA3 hA4 hA5 hA6 hA7 hA8
  obtain ⟨_, _, hA3, hA4, hA5, hA6, hA7, hA8⟩ := HSF.out (w19.drewN (m20 + m21)) (HK19.out.trans (Keeps.drewN _ _ _))
  have HP20 : Hid (PoolAt (w19.drewN (m20 + m21)) dq s (allS s)) := HP19.out.kept (Keeps.drewN (fun _ => False) _ _) (by simp)
  have HT20 := Hid.mk' (fun n => (HTOT.out (m20 + m21)).trans (Keeps.drewN (fun j => w.heap.size ≤ j) (w19.drewN (m20 + m21)) n))
  clear HTOT
  generalize w19.drewN (m20 + m21) = w20 at *
  have hfr := fun m => free_any (w20.drewN m) dq s (allS s) (HP20.out.kept (Keeps.drewN (fun _ => False) _ m) (by simp))
  obtain ⟨Q, hQ⟩ : ∃ Q, Q = cn (allS s) s.pages := ⟨_, rfl⟩
  rw [← hQ] at hfr hcn
  have hs1 : IntKind.i64.wrap ((s.pages : Int) - (s.data : Int)) = (Q : Int) := by rw [i64_id (by omega) (by omega)]; omega
  have hs4 : (s.pages : Int) - (s.data : Int) = (Q : Int) := by omega
  have hn4 : (LF.length : Int) < (LF.length : Int) + 2 := by omega
  have hn5 : (LF.length : Int) + 1 < (LF.length : Int) + 2 := by omega
  have hsw3 : IntKind.i64.wrap ((LF.length : Int) + 1) = (LF.length : Int) + 1 := i64_id (by omega) (by omega)
  have hd12 : (0 : Int) ≤ (LF.length : Int) + 1 := by omega
  have hd13 : ((LF.length : Int) + 1).toNat = LF.length + 1 := by omega
  clear hQ f0 f1 f2
  go_quiet (first | (go_at_call 11; exact Calls.quiet_of_same (hfr _)))
  go_wp2
  go_ret
  exact ⟨ret_bool (by simp), HT20.out _⟩

end Go.Proofs.Ytnafocbgapianaa
