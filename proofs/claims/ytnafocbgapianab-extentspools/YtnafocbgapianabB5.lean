import Derived.Test.YtnafocbgapianabB4
namespace Go.Proofs.Ytnafocbgapianab
open Go.RowKit

/-- The cells of a row of bools. -/
def boolCells (H : Nat → Bool) (n : Nat) : List Value := (List.range n).map fun i => .bool (H i)

/-- The statement's book in memory. -/
structure BookAt (w : World) (k hb : Nat) (s : Sh) (H : Nat → Bool) (many : Nat) : Prop where
  at_ : w.heap[k]? = some (.cells #[.int .i64 s.pages, .int .i64 s.inodes, .int .i64 s.cores, .int .i64 s.data, .slice (some ⟨hb, 0, none⟩) s.pages s.pages, .int .i64 many] 35 (0, 0))
  held : w.heap[hb]? = some (.cells (boolCells H s.pages).toArray 4 (0, 0))
  ne : k ≠ hb

theorem BookAt.kept {X : Nat → Prop} {w w' : World} {k hb : Nat} {s : Sh} {H : Nat → Bool} {many : Nat} (h : BookAt w k hb s H many) (kp : Keeps X w w') (h1 : ¬ X k) (h2 : ¬ X hb) : BookAt w' k hb s H many := ⟨kp.at h.at_ h1, kp.at h.held h2, h.ne⟩

theorem BookAt.cells {w : World} {k hb : Nat} {s : Sh} {H : Nat → Bool} {many : Nat} (h : BookAt w k hb s H many) :
    w.cell? ⟨k, 0, none⟩ = some (.int .i64 s.pages) ∧ w.cell? ⟨k, 2, none⟩ = some (.int .i64 s.cores) ∧ w.cell? ⟨k, 3, none⟩ = some (.int .i64 s.data) ∧ w.cell? ⟨k, 4, none⟩ = some (.slice (some ⟨hb, 0, none⟩) s.pages s.pages) ∧ w.cell? ⟨k, 5, none⟩ = some (.int .i64 many) ∧ (∀ i, w.frozen? ⟨k, i, none⟩ = false) := by
  have := h.at_
  simp [World.cell?, World.frozen?, this]
theorem BookAt.bit {w : World} {k hb : Nat} {s : Sh} {H : Nat → Bool} {many : Nat} (h : BookAt w k hb s H many) (i : Nat) (hi : i < s.pages) : w.cell? ⟨hb, i, none⟩ = some (.bool (H i)) := by
  rw [cell_of_row _ _ i _ _ _ h.held]
  simp [boolCells, hi]
theorem BookAt.bit_frozen {w : World} {k hb : Nat} {s : Sh} {H : Nat → Bool} {many : Nat} (h : BookAt w k hb s H many) (i : Nat) : w.frozen? ⟨hb, i, none⟩ = false := by
  have := h.held
  simp [World.frozen?, this]

/-- What is free is what isn't held. -/
structure Agree (s : Sh) (S H : Nat → Bool) (many : Nat) : Prop where
  mark : ∀ j, s.data ≤ j → j < s.pages → S j = !H j
  num : cn S s.pages + many + s.data = s.pages

theorem sp_low {S : Nat → Bool} {d D : Nat} (h : ∀ i, S i = true → d ≤ i) : sp S 0 (d + D) = sp S d D := by
  unfold sp
  rw [fl_add, fl_none (fun i _ h2 => by
    cases hs : S i with
    | false => rfl
    | true => have := h i hs; omega)]
  simp

theorem agree_spans {s : Sh} {S H : Nat → Bool} {many : Nat} (hg : s.Good) (hs : ∀ i, S i = true → s.data ≤ i ∧ i < s.pages) (h : Agree s S H many) : sp S 0 s.pages = sp (fun j => !H j) s.data (s.pages - s.data) := by
  have h9 := hg.2.2.2.2.2.2.2.2
  rw [show s.pages = s.data + (s.pages - s.data) by omega, sp_low (fun i hi => (hs i hi).1), Nat.add_sub_cancel_left]
  exact sp_congr fun i h1 h2 => h.mark i h1 (by omega)
theorem agree_core {s : Sh} {S H : Nat → Bool} {many : Nat} (h : Agree s S H many) {lo hi : Nat} (h1 : s.data ≤ lo) (h2 : hi ≤ s.pages) : sp S lo (hi - lo) = sp (fun j => !H j) lo (hi - lo) :=
  sp_congr fun i h3 h4 => h.mark i (by omega) (by omega)

set_option maxHeartbeats 4000000 in
theorem agrees_any (w : World) (d k hb : Nat) (s : Sh) (S H : Nat → Bool) (many : Nat) (hp : PoolAt w d s S) (hbk : BookAt w k hb s H many) (ha : Agree s S H many) :
    Calls Try.prog 33 #[.pointer (some ⟨k, 0, none⟩), .pointer (some ⟨d, 0, none⟩)] w fun e w' => e = .returned (.bool true) ∧ Keeps (fun k => w.heap.size ≤ k) w w' := by
  obtain ⟨k0, k2, k3, k4, k5, kf⟩ := hbk.cells
  have hg := hp.good
  have hpg : s.pages ≤ 1024 := hg.2.1
  have h9 : s.data + 8 ≤ s.pages := hg.2.2.2.2.2.2.2.2
  have hfr := fun m => free_any (w.drewN m) d s S ⟨hp.at_, hp.good, hp.sup⟩
  have hnum := ha.num
  have hs1 : IntKind.i64.wrap ((s.pages : Int) - (s.data : Int)) = (s.pages : Int) - (s.data : Int) := i64_id (by omega) (by omega)
  have hs2 : IntKind.i64.wrap ((s.pages : Int) - (s.data : Int) - (many : Int)) = (cn S s.pages : Int) := by rw [i64_id (by omega) (by omega)]; omega
  have hs3 : ((s.pages : Int) - (s.data : Int) - (many : Int)) = (cn S s.pages : Int) := by omega
  have hcl := cn_le S s.pages
  generalize hq : cn S s.pages = q at *
  have HP := Hid.mk' hp
  have HB := Hid.mk' hbk
  have HA := Hid.mk' ha
  clear hp hbk ha hq kf hg
  go_enter Try.func33, Try.ntmps33
  go_wp2
  go_quiet (first | (go_at_call 23; exact Calls.quiet_of_same (hfr _)))
  clear hfr
  go_wp2
  go_loopw [5] (fun i wr => ∃ (x : Int) (m : Nat), -1 ≤ x ∧ x ≤ s.pages + 1 ∧ i = .int .i64 x ∧ wr = w.drewN m) (fun i _ => ((s.pages : Int) + 2 - intOf i).toNat)
  case atStart => exact ⟨-1, nq, by omega, by omega, rfl, rfl⟩
  case round =>
    obtain ⟨x, m, hx1, hx2, rfl, rfl⟩ := hrel
    by_cases hlt : x ≤ (s.pages : Int)
    · have hph := phas_any (w.drewN m) d s S ⟨HP.out.at_, HP.out.good, HP.out.sup⟩ x
      by_cases hin : (s.data : Int) ≤ x ∧ x < s.pages
      · obtain ⟨j, rfl⟩ := Int.eq_ofNat_of_zero_le (show 0 ≤ x by omega)
        have hbit := HB.out.bit j (by omega)
        rw [hasI_in (by omega), HA.out.mark j (by omega) (by omega)] at hph
        obtain ⟨hin1, hin2⟩ := hin
        have hj0 : (0 : Int) ≤ (j : Int) := by omega
        generalize H j = Hj at *
        go_wp2_with (first | (go_at_call 50; refine hph.mono ?_; rintro e w1 ⟨rfl, m2, hw⟩; subst w1))
        go_roundw
        case rel => exact ⟨(j : Int) + 1, m + m2, by omega, by omega, by go_num, by simp⟩
        case measure => simp [intOf]; omega
      · have hno : hasI s.pages S x = false := by
          by_cases h0 : 0 ≤ x ∧ x < s.pages
          · obtain ⟨j, rfl⟩ := Int.eq_ofNat_of_zero_le h0.1
            rw [hasI_in (by omega)]
            cases hs : S j with
            | false => rfl
            | true => have := HP.out.sup j hs; omega
          · exact hasI_out h0
        rw [hno] at hph
        by_cases h1 : (s.data : Int) ≤ x
        · have h2 : ¬ x < (s.pages : Int) := by omega
          clear hin hno
          go_wp2_with (first | (go_at_call 50; refine hph.mono ?_; rintro e w1 ⟨rfl, m2, hw⟩; subst w1))
          go_roundw
          case rel => exact ⟨x + 1, m + m2, by omega, by omega, by go_num, by simp⟩
          case measure => simp [intOf]; omega
        · clear hin hno
          go_wp2_with (first | (go_at_call 50; refine hph.mono ?_; rintro e w1 ⟨rfl, m2, hw⟩; subst w1))
          go_roundw
          case rel => exact ⟨x + 1, m + m2, by omega, by omega, by go_num, by simp⟩
          case measure => simp [intOf]; omega
    · go_wp2
      have hsp := fun m2 => pspans_any (w.drewN m2) d s S ⟨HP.out.at_, HP.out.good, HP.out.sup⟩
      rw [agree_spans HP.out.good HP.out.sup HA.out] at hsp
      obtain ⟨L, hL⟩ : ∃ L, L = sp (fun j => !H j) s.data (s.pages - s.data) := ⟨_, rfl⟩
      rw [← hL] at hsp
      have HL := Hid.mk' hL
      have hkl := heap_lt HB.out.at_
      have hhl := heap_lt HB.out.held
      have hdl := heap_lt HP.out.at_
      clear hL hs1 hs2 hs3
      go_region_held3 (fun wx => wx.cell? ⟨k, 0, none⟩ = some (.int .i64 s.pages) ∧ wx.cell? ⟨k, 3, none⟩ = some (.int .i64 s.data))
        (first | go_keep)
        (first
          | (go_at_call 14; refine (hsp _).mono ?_; rintro e w2 ⟨v2, rfl, hx⟩
             obtain ⟨p2, cap2, hv2, hin2, _⟩ := hx.1.toIn
             subst v2
             have hK2 : Keeps (fun k => w.heap.size ≤ k) w w2 := (Keeps.drewN _ w 0).trans (hx.2.mono (fun k _ hk => hk) |>.then (Keeps.refl _ _) (fun k hk => Or.inl hk) |> fun h => ⟨h.os, h.tape, h.output, h.size, h.block⟩)
             have hb2 := HB.out.kept hK2 (by omega) (by omega)
             obtain ⟨j0, j2, j3, j4, j5, jf⟩ := hb2.cells
             have hli := listed_any w2 k hb s.pages s.pages H p2 cap2 L s.data s.pages j4 (fun i hi => hb2.bit i hi) hin2 (by omega) (Nat.le_refl _) hpg HL.out
             have HK2 := Hid.mk' hK2
             clear hx hin2 hb2 jf hK2)
          | (go_at_call 30; refine hli.mono ?_; rintro e w3 ⟨rfl, hw3⟩; subst w3))
      go_wp2
      have hb2 := HB.out.kept HK2.out (by omega) (by omega)
      have hp2 := HP.out.kept HK2.out (by omega)
      have HB2 := Hid.mk' hb2
      have HP2 := Hid.mk' hp2
      have h8 : s.cores ≤ 8 := HP.out.good.2.2.2.2.2.2.1
      clear hb2 hp2 hli hsp
      go_loopw [7, 8] (fun a c wr => ∃ t : Nat, t ≤ s.cores ∧ a = .int .i64 (bord s t) ∧ c = .int .i64 t ∧ Hid (Keeps (fun k => w2.heap.size ≤ k) w2 wr)) (fun _ c _ => s.cores - (intOf c).toNat)
      case atStart => exact ⟨0, by omega, by rw [bord_zero], rfl, Keeps.refl _ _⟩
      case round =>
        obtain ⟨t, ht, rfl, rfl, hrel⟩ := hrel
        have hb3 := HB2.out.kept hrel.out (by have := heap_lt HB2.out.at_; omega) (by have := heap_lt HB2.out.held; omega)
        have hp3 := HP2.out.kept hrel.out (by have := heap_lt HP2.out.at_; omega)
        obtain ⟨g0, g2, g3, g4, g5, gf⟩ := hb3.cells
        by_cases hlt : t < s.cores
        · have hlt' : (t : Int) < (s.cores : Int) := by omega
          have har := area_yes wr d s S hp3 t hlt
          have hb1 := bord_lt hp3.good t
          have hb2 := bord_le hp3.good (show t + 1 ≤ s.cores by omega)
          have hbg := bord_ge s t
          have HSP := Hid.mk' (agree_core HA.out hbg hb2)
          have hco := fun wx h => pcore_any wx d s S h (t : Int)
          rw [(area_in hlt).1, (area_in hlt).2, HSP.out] at hco
          have HNX : Hid (bord s t + (bord s (t + 1) - bord s t) = bord s (t + 1)) := by show _ = _; omega
          have HY : Hid (∃ y, y = bord s (t + 1)) := ⟨_, rfl⟩
          obtain ⟨y, hy⟩ := HY.out
          rw [← hy] at har hb1 hb2 HSP hco HNX
          have HY := Hid.mk' hy
          clear hy
          generalize bord s t = z at *
          obtain ⟨L2, hL2⟩ : ∃ L2, L2 = sp (fun j => !H j) z (y - z) := ⟨_, rfl⟩
          rw [← hL2] at hco
          obtain ⟨C, hC⟩ : ∃ C, C = y - z := ⟨_, rfl⟩
          rw [← hC] at har
          have HL2 : Hid (L2 = sp (fun j => !H j) z (z + C - z)) := by show _ = _; rw [hL2, hC]; congr 1; omega
          have hzc : z + C ≤ s.pages := by omega
          have hc1 : 1 ≤ C := by omega
          have HZC : Hid (z + C = y) := by show _ = _; omega
          have HB3 := Hid.mk' hb3
          have HP3 := Hid.mk' hp3
          have HREL := hrel
          have hkr := heap_lt hb3.at_
          have hhr := heap_lt hb3.held
          have hdr := heap_lt hp3.at_
          clear hrel hb3 hp3 gf hL2 hC hb1 hb2 g3 g5 HSP HNX
          go_wp2_with (first
            | (go_at_call 20; refine har.mono ?_; clear har; rintro e w4 ⟨rfl, hk⟩
               have hK5 := hk.then (X := fun k => wr.heap.size ≤ k) (Keeps.of (X := fun k => wr.heap.size ≤ k) (World.grownBy_alloc w4 (.cells #[.int .i64 (z : Int), .int .i64 (C : Int)] 46) none) (by simp)) (fun k hk => Or.inl hk)
               have hR := (MapKept.heap_alloc w4 (.cells #[.int .i64 (z : Int), .int .i64 (C : Int)] 46)).1
               have hsz4 := hk.size
               clear hk))
          obtain ⟨w5, hw5⟩ : ∃ w5, w5 = w4.alloc (.cells #[.int .i64 (z : Int), .int .i64 (C : Int)] 46) := ⟨_, rfl⟩
          have hs5 : w5.heap.size = w4.heap.size + 1 := by rw [hw5]; simp
          rw [← hw5] at hK5 hR ⊢
          have hco5 := fun m => hco (w5.drewN m) ((HP3.out.kept hK5 (by omega)).kept (Keeps.drewN (fun _ => False) _ m) (by simp))
          obtain ⟨a0, a1, af⟩ := cells2 hR
          have HK5 := Hid.mk' hK5
          have HR := Hid.mk' hR
          have hsum : IntKind.i64.wrap ((z : Int) + (C : Int)) = (z : Int) + (C : Int) := i64_id (by omega) (by omega)
          have hne1 : ((z : Int) != (z : Int)) = false := by simp
          have hne2 : ¬ (C : Int) < 1 := by omega
          have hne3 : decide ((C : Int) < 1) = false := by simp; omega
          clear hw5 hco hK5 hR af
          go_region_held3 (fun wx => wx.cell? ⟨w4.heap.size, 0, none⟩ = some (.int .i64 (z : Int)) ∧ wx.cell? ⟨w4.heap.size, 1, none⟩ = some (.int .i64 (C : Int)))
            (first | go_keep)
            (first
              | (go_at_call 19; refine (hco5 _).mono ?_; rintro e w6 ⟨v6, rfl, hx⟩
                 obtain ⟨p6, cap6, hv6, hin6, _⟩ := hx.1.toIn
                 subst v6
                 have hK6 : Keeps (fun k => w5.heap.size ≤ k) w5 w6 := (Keeps.drewN _ w5 0).trans (hx.2.mono (fun k _ hk => hk) |>.then (Keeps.refl _ _) (fun k hk => Or.inl hk) |> fun h => ⟨h.os, h.tape, h.output, h.size, h.block⟩)
                 have hb6 := (HB3.out.kept HK5.out (by omega) (by omega)).kept hK6 (by omega) (by omega)
                 have hR6 := hK6.at HR.out (by omega)
                 obtain ⟨i0, i1, if_⟩ := cells2 hR6
                 obtain ⟨j0, j2, j3, j4, j5, jf⟩ := hb6.cells
                 have hli := listed_any w6 k hb s.pages s.pages H p6 cap6 L2 z (z + C) j4 (fun i hi => hb6.bit i hi) hin6 (by omega) hzc hpg HL2.out
                 rw [Int.natCast_add] at hli
                 have HK6 := Hid.mk' hK6
                 clear hx hin6 hb6 jf hK6 hR6 if_ j0 j2 j3 j4 j5)
              | (go_at_call 30; refine hli.mono ?_; clear hli; rintro e w7 ⟨rfl, hw7⟩; subst w7))
          go_wp2
          go_roundw
          case rel =>
            refine ⟨t + 1, by omega, ?_, by go_num, ?_⟩
            · rw [← HY.out, ← HZC.out]; go_num
            · exact (HREL.out.then HK5.out (fun k hk => by right; have := HREL.out.size; omega)).then HK6.out (fun k hk => by right; have := HREL.out.size; have := HK5.out.size; omega)
          case measure => simp [intOf]; omega
        · have hlt' : ¬ (t : Int) < (s.cores : Int) := by omega
          have hte : t = s.cores := by omega
          have hbe : bord s t = s.pages := by rw [hte, bord_all hp3.good]
          rw [hbe]
          have HKF := Hid.mk' (HK2.out.then hrel.out (fun k hk => by right; have := HK2.out.size; omega))
          clear hte hbe hrel hb3 hp3 gf
          go_wp2
          go_ret
          exact ⟨ret_bool (by simp), HKF.out⟩

end Go.Proofs.Ytnafocbgapianab
