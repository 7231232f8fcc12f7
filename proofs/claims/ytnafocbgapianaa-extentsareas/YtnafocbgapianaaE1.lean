import Derived.Test.YtnafocbgapianaaB3
namespace Go.Proofs.Ytnafocbgapianaa
open Go.RowKit

theorem or64 (c : Int) (n : Nat) (hn : n ≤ 64) : ¬ (0 ≤ bits .or .i64 c 64 ∧ bits .or .i64 c 64 < n) := by
  have e : bits .or .i64 c 64 = IntKind.i64.wrap (((BitVec.ofInt 64 c ||| BitVec.ofInt 64 64).toNat : Nat) : Int) := rfl
  have h1 : 64 ≤ (BitVec.ofInt 64 c ||| BitVec.ofInt 64 64).toNat := by
    rw [BitVec.toNat_or]
    have : (BitVec.ofInt 64 64).toNat = 64 := by decide
    rw [this]
    exact Nat.right_le_or
  have h2 := (BitVec.ofInt 64 c ||| BitVec.ofInt 64 64).isLt
  rw [e]
  generalize (BitVec.ofInt 64 c ||| BitVec.ofInt 64 64).toNat = x at *
  simp only [IntKind.wrap, IntKind.signed, IntKind.bits]
  simp
  omega

theorem area_even {s : Sh} (hg : s.Good) (c : Nat) : (s.pages - s.data) / s.cores ≤ bord s (c + 1) - bord s c ∧ bord s (c + 1) - bord s c ≤ (s.pages - s.data) / s.cores + 1 := by
  have h6 : 1 ≤ s.cores := hg.2.2.2.2.2.1
  unfold bord
  generalize s.pages - s.data = D
  generalize s.cores = n at *
  have hdm := Nat.div_add_mod D n
  have hr := Nat.mod_lt D (show 0 < n by omega)
  generalize D / n = q at *
  generalize D % n = r at *
  have e1 : ∀ k, k * D / n = k * q + k * r / n := by
    intro k
    have : k * D = k * r + n * (k * q) := by rw [← hdm, Nat.mul_add, Nat.add_comm]; congr 1; rw [Nat.mul_left_comm]
    rw [this, Nat.add_mul_div_left _ _ (by omega)]; omega
  rw [e1, e1]
  have e2 : (c + 1) * q = c * q + q := by rw [Nat.add_mul, Nat.one_mul]
  have e3 : (c + 1) * r = c * r + r := by rw [Nat.add_mul, Nat.one_mul]
  rw [e2, e3]
  have h1 : c * r / n ≤ (c * r + r) / n := Nat.div_le_div_right (by omega)
  have h2 : (c * r + r) / n ≤ c * r / n + 1 := by
    rw [Nat.div_le_iff_le_mul_add_pred (by omega)]
    have := Nat.div_add_mod (c * r) n
    have h3 := Nat.mod_lt (c * r) (show 0 < n by omega)
    rw [Nat.mul_add]
    omega
  omega

theorem sp_nothing (lo n : Nat) : sp (fun _ => false) lo n = [] := by
  unfold sp; rw [fl_none (fun _ _ _ => rfl)]; rfl
theorem cn_nothing (n : Nat) : cn (fun _ => false) n = 0 := by
  induction n with
  | zero => rfl
  | succ n ih => rw [cn_succ, ih]; rfl

/-- NewPool without a free page. -/
theorem newNone (s : Sh) (hs : s.Good) (w : World) :
    Calls Try.prog 10 #[s.agg, .slice none 0 0] w fun e w' => ∃ d, e = .returned (.tuple #[.pointer (some ⟨d, 0, none⟩), .int .i64 0]) ∧ w.heap.size ≤ d ∧ PoolAt w' d s (fun _ => false) ∧ Keeps (fun k => w.heap.size ≤ k) w w' := by
  have := newPool_yes s hs w none 0 [] (fun h => by simp at h) (by simp) (by simp) rfl
  rw [inSp_nil] at this
  exact this

set_option maxHeartbeats 4000000 in
set_option maxRecDepth 20000 in
theorem areas_walk (w : World) (pages inodes cores : Int) :
    Calls Try.prog 3 #[.int .i64 pages, .int .i64 inodes, .int .i64 cores] w fun e w' => e = .returned (.bool true) ∧ Keeps (fun k => w.heap.size ≤ k) w w' := by
  have hshape := shape_any pages inodes cores
  obtain ⟨s, hs⟩ : ∃ s, s = mkSh pages inodes cores := ⟨_, rfl⟩
  rw [← hs] at hshape
  have hg : s.Good := by rw [hs]; exact mkSh_good _ _ _
  have hpg : s.pages ≤ 119 := by rw [hs]; exact mkSh_pages _ _ _
  have HG := Hid.mk' hg
  have h8 : s.cores ≤ 8 := hg.2.2.2.2.2.2.1
  have h1c : 1 ≤ s.cores := hg.2.2.2.2.2.1
  have h9 : s.data + 8 ≤ s.pages := hg.2.2.2.2.2.2.2.2
  have hsub : IntKind.i64.wrap ((s.pages : Int) - (s.data : Int)) = ((s.pages - s.data : Nat) : Int) := by rw [i64_id (by omega) (by omega)]; omega
  have hsub2 : (s.pages : Int) - (s.data : Int) = ((s.pages - s.data : Nat) : Int) := by omega
  have hlow : (((s.pages - s.data : Nat) : Int)).tdiv (s.cores : Int) = (((s.pages - s.data) / s.cores : Nat) : Int) := by rw [Int.tdiv_eq_ediv_of_nonneg (by omega)]; rfl
  have hlw : (s.pages - s.data) / s.cores ≤ 119 := Nat.le_trans (Nat.div_le_self _ _) (by omega)
  have HEV := Hid.mk' (fun c => area_even hg c)
  generalize hq : (s.pages - s.data) / s.cores = low at *
  have hlw2 : IntKind.i64.wrap (low : Int) = (low : Int) := i64_id (by omega) (by omega)
  have hnz : ¬ (s.cores : Int) = 0 := by omega
  have hnz2 : ¬ s.cores = 0 := by omega
  unfold Sh.agg at hshape
  clear hs hg hq
  go_enter Try.func3, Try.ntmps3
  go_wp2_with (first
    | (go_at_call 9; refine (hshape _).mono ?_; rintro e w1 ⟨rfl, hk⟩
       have HK1 := Hid.mk' (hk.then (X := fun k => w.heap.size ≤ k) (Keeps.of (X := fun k => w.heap.size ≤ k) (World.grownBy_alloc w1 (.cells #[.int .i64 s.pages, .int .i64 s.inodes, .int .i64 s.cores, .int .i64 s.data] 23) none) (by simp)) (fun k hk => Or.inl hk))
       have hR := (MapKept.heap_alloc w1 (.cells #[.int .i64 s.pages, .int .i64 s.inodes, .int .i64 s.cores, .int .i64 s.data] 23)).1
       have hnn := newNone s HG.out (w1.alloc (.cells #[.int .i64 s.pages, .int .i64 s.inodes, .int .i64 s.cores, .int .i64 s.data] 23))
       unfold Sh.agg at hnn
       have hs2 : (w1.alloc (.cells #[.int .i64 s.pages, .int .i64 s.inodes, .int .i64 s.cores, .int .i64 s.data] 23)).heap.size = w1.heap.size + 1 := by simp
       have hsz := hk.size
       clear hk)
    | (go_at_call 10; refine hnn.mono ?_; rintro e w4 ⟨d, rfl, hd4, hp4, hk4⟩
       have hR4 := hk4.at hR (by omega)
       obtain ⟨c0, c1, c2, c3, cf⟩ := cells4 hR4
       have HK4 := Hid.mk' (HK1.out.then hk4 (fun k hk => by right; rw [hs2] at hk; omega))
       have hfr := free_any w4 d s _ hp4
       rw [cn_nothing] at hfr
       have HP4 := Hid.mk' hp4
       have HR4 := Hid.mk' hR4
       have hs4 := hk4.size
       rw [hs2] at hs4 hd4
       clear hk4 hp4 hR4 cf)
    | (go_at_call 11; refine hfr.mono ?_; rintro e w5 ⟨rfl, hw5⟩; subst w5))
  clear hshape hnn hfr hR c0 c1 c2 c3
  go_loopw [10, 12] (fun a c wr => ∃ t : Nat, t ≤ s.cores ∧ a = .int .i64 (bord s t) ∧ c = .int .i64 t ∧ Hid (Keeps (fun k => w4.heap.size ≤ k) w4 wr)) (fun _ c _ => s.cores - (intOf c).toNat)
  case atStart => exact ⟨0, by omega, by rw [bord_zero], rfl, Keeps.refl _ _⟩
  case round =>
    obtain ⟨t, ht, rfl, rfl, hrel⟩ := hrel
    have hR5 := hrel.out.at HR4.out (by have := heap_lt HR4.out; omega)
    have hp5 := HP4.out.kept hrel.out (by have := heap_lt HP4.out.at_; omega)
    obtain ⟨g0, g1, g2, g3, gf⟩ := cells4 hR5
    by_cases hlt : t < s.cores
    · have hlt' : (t : Int) < (s.cores : Int) := by omega
      have har := area_yes wr d s _ hp5 t hlt
      have hb1 := bord_lt hp5.good t
      have hb2 := bord_le hp5.good (show t + 1 ≤ s.cores by omega)
      have hev := HEV.out t
      have hco := fun wx h => pcore_any wx d s (fun _ => false) h (t : Int)
      rw [(area_in hlt).1, (area_in hlt).2, sp_nothing] at hco
      have HY : Hid (∃ y, y = bord s (t + 1)) := ⟨_, rfl⟩
      obtain ⟨y, hy⟩ := HY.out
      rw [← hy] at har hb1 hb2 hev
      have HY := Hid.mk' hy
      generalize bord s t = z at *
      obtain ⟨C, hC⟩ : ∃ C, C = y - z := ⟨_, rfl⟩
      rw [← hC] at har hev
      have HZC : Hid (z + C = y) := by show _ = _; omega
      have n1 : ¬ (C : Int) < (low : Int) := by omega
      have n2 : ¬ (low : Int) + 1 < (C : Int) := by omega
      have hzb : z + C ≤ s.pages := by omega
      have HP5 := Hid.mk' hp5
      have HREL := hrel
      have hdr := heap_lt hp5.at_
      clear hrel hp5 hR5 gf hb1 hb2 hev hC hy g0 g1 g3
      go_wp2_with (first
        | (go_at_call 12; refine har.mono ?_; clear har; rintro e w6 ⟨rfl, hk⟩
           have hK6 := hk.then (X := fun k => wr.heap.size ≤ k) (Keeps.of (X := fun k => wr.heap.size ≤ k) (World.grownBy_alloc w6 (.cells #[.int .i64 (z : Int), .int .i64 (C : Int)] 31) none) (by simp)) (fun k hk => Or.inl hk)
           have hc6 := hco _ (HP5.out.kept hK6 (by omega))
           have hs6 : (w6.alloc (.cells #[.int .i64 (z : Int), .int .i64 (C : Int)] 31)).heap.size = w6.heap.size + 1 := by simp
           have hR6 := (MapKept.heap_alloc w6 (.cells #[.int .i64 (z : Int), .int .i64 (C : Int)] 31)).1
           have HK6 := Hid.mk' hK6
           have hsz6 := hk.size
           have HR6 := Hid.mk' hR6
           clear hk hK6 hR6)
        | (go_at_call 13; refine hc6.mono ?_; clear hc6; rintro e w7 ⟨v7, rfl, hx1, hx2⟩
           obtain ⟨p7, cap7, hv7⟩ := hx1.eq_slice
           subst v7
           obtain ⟨i0, i1, if_⟩ := cells2 (hx2.at HR6.out (by omega))
           have HK7 := Hid.mk' (HREL.out.then (HK6.out.then hx2 (fun k hk => by right; omega)) (fun k hk => by right; have := HREL.out.size; omega))
           clear hx1 hx2 if_))
      go_roundw
      case rel =>
        refine ⟨t + 1, by omega, ?_, by go_num, HK7.out⟩
        rw [← HY.out, ← HZC.out]; go_num
      case measure => simp [intOf]; omega
    · have hlt' : ¬ (t : Int) < (s.cores : Int) := by omega
      have hbe : bord s t = s.pages := by rw [show t = s.cores by omega, bord_all hp5.good]
      rw [hbe]
      have HP5 := Hid.mk' hp5
      have HK5 := Hid.mk' (HK4.out.then hrel.out (fun k hk => by right; omega))
      have HR5 := Hid.mk' hR5
      have H64 := Hid.mk' (or64 cores s.cores (by omega))
      have hdr := heap_lt hp5.at_
      have hrr := heap_lt hR5
      clear hbe hrel hp5 hR5 gf
      go_wp2
      have hZ := (MapKept.heap_alloc wr (.cells #[.int .i64 0, .int .i64 0] 31)).1
      have hK6 : Keeps (fun k => wr.heap.size ≤ k) wr (wr.alloc (.cells #[.int .i64 0, .int .i64 0] 31)) := Keeps.of (World.grownBy_alloc wr _ none) (by simp)
      obtain ⟨w6, hw6⟩ : ∃ w6, w6 = wr.alloc (.cells #[.int .i64 0, .int .i64 0] 31) := ⟨_, rfl⟩
      have hs6 : w6.heap.size = wr.heap.size + 1 := by rw [hw6]; simp
      rw [← hw6] at hZ hK6 ⊢
      have hp6 := HP5.out.kept hK6 (by omega)
      have hR6 := hK6.at HR5.out (by omega)
      have hA := fun m => area_no (w6.drewN m) d s _ (hp6.kept (Keeps.drewN (fun _ => False) _ m) (by simp)) (-1) (by omega)
      obtain ⟨z0, z1, zf⟩ := cells2 hZ
      obtain ⟨r0, r1, r2, r3, rf⟩ := cells4 hR6
      have HP6 := Hid.mk' hp6
      have HR6 := Hid.mk' hR6
      have HZ := Hid.mk' hZ
      have HK6 := Hid.mk' (HK5.out.then hK6 (fun k hk => by right; have := HK5.out.size; omega))
      clear hw6 hp6 hR6 hZ hK6 zf rf r1 r3
      go_region_held3 (fun wx => wx.cell? ⟨w1.heap.size, 0, none⟩ = some (.int .i64 s.pages) ∧ wx.cell? ⟨w1.heap.size, 2, none⟩ = some (.int .i64 s.cores) ∧ wx.cell? ⟨wr.heap.size, 0, none⟩ = some (.int .i64 0) ∧ wx.cell? ⟨wr.heap.size, 1, none⟩ = some (.int .i64 0))
        (first | go_keep)
        (first
          | (go_at_call 12; refine (hA _).mono ?_; clear hA; rintro e w7 ⟨rfl, hk⟩
             have hK7 : Keeps (fun k => w6.heap.size ≤ k) w6 w7 := (Keeps.drewN _ w6 0).trans ⟨hk.os, hk.tape, hk.output, hk.size, hk.block⟩
             have hp7 := HP6.out.kept hK7 (by omega)
             obtain ⟨q0, q1, qf⟩ := cells2 (hK7.at HZ.out (by omega))
             obtain ⟨j0, j1, j2, j3, jf⟩ := cells4 (hK7.at HR6.out (by omega))
             have hB := area_no w7 d s _ hp7 (s.cores : Int) (by omega)
             have HK7 := Hid.mk' hK7
             clear hk hK7 hp7 qf jf j1 j3)
          | (go_at_call 12; refine hB.mono ?_; clear hB; rintro e w8 ⟨rfl, hk⟩
             have hK8 := HK7.out.then hk (fun k hk => by right; have := HK7.out.size; omega)
             have hp8 := HP6.out.kept hK8 (by omega)
             obtain ⟨q0, q1, qf⟩ := cells2 (hK8.at HZ.out (by omega))
             obtain ⟨j0, j1, j2, j3, jf⟩ := cells4 (hK8.at HR6.out (by omega))
             have hC := area_no w8 d s _ hp8 (bits .or .i64 cores 64) H64.out
             have HK8 := Hid.mk' hK8
             clear hk hK8 hp8 qf jf j1 j3)
          | (go_at_call 12; refine hC.mono ?_; clear hC; rintro e w9 ⟨rfl, hk⟩
             have hK9 := HK8.out.then hk (fun k hk => by right; have := HK8.out.size; omega)
             obtain ⟨q0, q1, qf⟩ := cells2 (hK9.at HZ.out (by omega))
             obtain ⟨j0, j1, j2, j3, jf⟩ := cells4 (hK9.at HR6.out (by omega))
             have HK9 := Hid.mk' (HK6.out.then hK9 (fun k hk => by right; have := HK6.out.size; omega))
             clear hk hK9 qf jf j1 j3))
      go_wp2
      go_ret
      exact ⟨ret_bool (by simp), HK9.out⟩

end Go.Proofs.Ytnafocbgapianaa
