import Derived.Test.YtnafocbgapianabZ7
import Derived.Test.YtnafocbgapianabA9
namespace Go.Proofs.Ytnafocbgapianab
open Go.RowKit

theorem row_block {w : World} {g n : Nat} {S : Nat → Bool} (h : w.heap[g]? = some (.cells (boolCells S n).toArray 4 (0, 0))) (hn : n ≤ 1024) : w.ownsRow 0 4 1 (.slice (some ⟨g, 0, none⟩) n n) n (boolCells S n) := by
  refine ⟨by rw [boolCells_len]; omega, Or.inr ⟨g, n, _, rfl, Nat.zero_le _, h, Nat.le_refl _, by unfold maxLen; omega, ?_, ?_⟩⟩
  · simp [boolCells_len]
  · rw [List.take_of_length_le (by simp [boolCells_len])]

theorem addR_sup {s : Sh} {S : Nat → Bool} {F j : Nat} (h : ∀ i, S i = true → s.data ≤ i ∧ i < s.pages) (h1 : s.data ≤ F) (h2 : F + j ≤ s.pages) : ∀ i, addR S F j i = true → s.data ≤ i ∧ i < s.pages := by
  intro i hi
  unfold addR at hi
  rcases Bool.or_eq_true_iff.1 hi with hi | hi
  · exact h i hi
  · simp at hi; omega

set_option maxHeartbeats 2000000 in
theorem rnewPool_shape (p i c d : Int) (w : World) (sp : Option Addr) (n cap : Nat) (hn : ¬ (goodI p i c ∧ d = dataOf i)) :
    Calls Try.prog 72 #[.agg #[.int .i64 p, .int .i64 i, .int .i64 c, .int .i64 d], .slice sp n cap] w fun r w' => r = .returned (.tuple #[.pointer none, .int .i64 30]) ∧ Keeps (fun k => w.heap.size ≤ k) w w' := by
  have hg := fun w => rgood_any p i c d w
  rw [decide_eq_false hn] at hg
  have hB := box4 w (.int .i64 p) (.int .i64 i) (.int .i64 c) (.int .i64 d) 24
  have g0 : Keeps (fun k => w.heap.size ≤ k) w (w.alloc (.cells #[.int .i64 p, .int .i64 i, .int .i64 c, .int .i64 d] 24)) := Keeps.of (World.grownBy_alloc w _ none) (by simp)
  have hs0 : (w.alloc (.cells #[.int .i64 p, .int .i64 i, .int .i64 c, .int .i64 d] 24)).heap.size = w.heap.size + 1 := by simp
  obtain ⟨c0, c1, c2, c3, _⟩ := cells4 hB
  clear hn
  go_enter Try.func72, Try.ntmps72
  go_wp2_with (first | (go_at_call 82; refine (hg _).mono ?_; clear hg; rintro r w1 ⟨rfl, hk⟩; have HK := Hid.mk' (g0.then hk (by intro k hk; right; rw [hs0] at hk; omega)); clear hk))
  go_ret2
  exact ⟨rfl, HK.out⟩

set_option maxHeartbeats 8000000 in
set_option maxRecDepth 20000 in
theorem rnewPool_any (s : Sh) (hs : s.Good) (w : World) (sp : Option Addr) (cap : Nat) (l : List (Int × Int)) (h : SpIn w sp l) (hl : l.length ≤ maxLen) :
    Calls Try.prog 72 #[s.agg, .slice sp l.length cap] w fun r w' => Keeps (fun k => w.heap.size ≤ k) w w' ∧ ((gsp s.pages s.data l = false ∧ r = .returned (.tuple #[.pointer none, .int .i64 52])) ∨
      (gsp s.pages s.data l = true ∧ ∃ e, r = .returned (.tuple #[.pointer (some ⟨e, 0, none⟩), .int .i64 0]) ∧ w.heap.size ≤ e ∧ ∃ v, (∀ g, v.ownBlock = some g → w.heap.size ≤ g) ∧ RpAt w' e v s (inSp l))) := by
  have hg := fun w => rgood_any s.pages s.inodes s.cores s.data w
  rw [decide_eq_true ((goodI_iff s).2 hs)] at hg
  have hB := box4 w (.int .i64 s.pages) (.int .i64 s.inodes) (.int .i64 s.cores) (.int .i64 s.data) 24
  have g0 : Keeps (fun k => w.heap.size ≤ k) w (w.alloc (.cells #[.int .i64 s.pages, .int .i64 s.inodes, .int .i64 s.cores, .int .i64 s.data] 24)) := Keeps.of (World.grownBy_alloc w _ none) (by simp)
  have hs0 : (w.alloc (.cells #[.int .i64 s.pages, .int .i64 s.inodes, .int .i64 s.cores, .int .i64 s.data] 24)).heap.size = w.heap.size + 1 := by simp
  obtain ⟨c0, c1, c2, c3, _⟩ := cells4 hB
  have hpg : s.pages ≤ 1024 := hs.2.1
  have hdp : s.data + 8 ≤ s.pages := hs.2.2.2.2.2.2.2.2
  have HGD := Hid.mk' hs
  have HIN := Hid.mk' h
  have hln := hl
  unfold maxLen at hln
  have hmk := fun w => run_make_row' (P := Try.prog) 33 4 (.bool false) 1 Try.underlying33 info4 rfl .i64 .i64 s.pages (by omega) (by omega) w
  clear h hl hs
  unfold Sh.agg
  go_enter Try.func72, Try.ntmps72
  go_wp2_with (first
    | (go_at_call 82; refine (hg _).mono ?_; clear hg; rintro r w1 ⟨rfl, hk⟩
       have hR := hk.at hB (by rw [hs0]; omega)
       obtain ⟨d0, d1, d2, d3, df⟩ := cells4 hR
       have HK1 := Hid.mk' (g0.then hk (by intro k hk; right; rw [hs0] at hk; omega))
       have hsz := hk.size
       rw [hs0] at hsz
       have HR := Hid.mk' hR
       clear hk hR df))
  clear hB g0 hs0 c0 c1 c2 c3
  obtain ⟨bx, hbx⟩ : ∃ bx, bx = w.heap.size := ⟨_, rfl⟩
  rw [← hbx] at HR d0 d1 d2 d3 hsz ⊢
  have HBX := Hid.mk' hbx
  clear hbx
  go_region_held3 (fun wx => wx.cell? ⟨bx, 0, none⟩ = some (.int .i64 s.pages) ∧ wx.cell? ⟨bx, 1, none⟩ = some (.int .i64 s.inodes) ∧ wx.cell? ⟨bx, 2, none⟩ = some (.int .i64 s.cores) ∧ wx.cell? ⟨bx, 3, none⟩ = some (.int .i64 s.data))
    (first | go_keep)
    (fail)
  go_wp2
  obtain ⟨n1, n2, n3, n4⟩ := two_new w1 (.cells (madeCells #[.bool false] s.pages) 4) (.cells #[.int .i64 s.pages, .int .i64 s.inodes, .int .i64 s.cores, .int .i64 s.data, .slice (some ⟨w1.heap.size, 0, none⟩) s.pages s.pages] 119)
  have HP0 : Hid (RpAt ((w1.alloc (.cells (madeCells #[.bool false] s.pages) 4)).alloc (.cells #[.int .i64 s.pages, .int .i64 s.inodes, .int .i64 s.cores, .int .i64 s.data, .slice (some ⟨w1.heap.size, 0, none⟩) s.pages s.pages] 119)).drew (w1.heap.size + 1) (.slice (some ⟨w1.heap.size, 0, none⟩) s.pages s.pages) s (inSp []) ∧ Keeps (fun j => w1.heap.size ≤ j) w1 ((w1.alloc (.cells (madeCells #[.bool false] s.pages) 4)).alloc (.cells #[.int .i64 s.pages, .int .i64 s.inodes, .int .i64 s.cores, .int .i64 s.data, .slice (some ⟨w1.heap.size, 0, none⟩) s.pages s.pages] 119)).drew) := by
    refine ⟨⟨n2, row_block (S := inSp []) ?_ hpg, HGD.out, by intro i hi; simp [inSp] at hi⟩, n3.trans (Keeps.drewN _ _ 1)⟩
    rw [inSp_nil, boolCells_none]
    exact n1
  obtain ⟨w5, hw5⟩ : ∃ w5, w5 = ((w1.alloc (.cells (madeCells #[.bool false] s.pages) 4)).alloc (.cells #[.int .i64 s.pages, .int .i64 s.inodes, .int .i64 s.cores, .int .i64 s.data, .slice (some ⟨w1.heap.size, 0, none⟩) s.pages s.pages] 119)).drew := ⟨_, rfl⟩
  rw [← hw5] at HP0 ⊢
  obtain ⟨e, he⟩ : ∃ e, e = w1.heap.size + 1 := ⟨_, rfl⟩
  obtain ⟨hb, hhb⟩ : ∃ hb, hb = w1.heap.size := ⟨_, rfl⟩
  rw [← he] at HP0 ⊢
  rw [← hhb] at HP0 ⊢
  have HEB := Hid.mk' (And.intro he hhb)
  clear hw5 n1 n2 n3 n4 he hhb d0 d1 d2 d3 hmk
  go_loopw [8, 9] (fun bv iv wr => ∃ (k : Nat) (x : Int), k ≤ l.length ∧ iv = .int .i64 k ∧ bv = .int .i64 x ∧ 0 ≤ x ∧ x ≤ 1024 ∧ Hid (gsp s.pages s.data l = gsp s.pages (max x s.data) (l.drop k) ∧ RpAt wr e (.slice (some ⟨hb, 0, none⟩) s.pages s.pages) s (inSp (l.take k)) ∧ Keeps (fun j => w1.heap.size ≤ j) w1 wr)) (fun _ i _ => l.length - (intOf i).toNat)
  case atStart => exact ⟨0, 0, by omega, rfl, rfl, by omega, by omega, by rw [List.drop_zero, show max (0 : Int) (s.data : Int) = s.data by omega], HP0.out.1, by have h0 := HEB.out.2; rw [← h0]; exact HP0.out.2⟩
  case round =>
    obtain ⟨k, x, hk, rfl, rfl, hx1, hx2, hrel⟩ := hrel
    have hkw : Keeps (fun j => w.heap.size ≤ j) w wr := HK1.out.then hrel.out.2.2 (fun j hj => by left; have := HBX.out; omega)
    have hRb := hrel.out.2.2.at HR.out (by omega)
    by_cases hlt : k < l.length
    · obtain ⟨bb, o, rfl, hbb, hc⟩ := HIN.out (by omega)
      obtain ⟨e1, e2⟩ := hc k hlt
      have e1' := hkw.cell e1 (by show ¬ w.heap.size ≤ bb; omega)
      have e2' := hkw.cell e2 (by show ¬ w.heap.size ≤ bb; omega)
      have hdr := drop_getD (0, 0) hlt
      have htk := take_getD (0, 0) hlt
      generalize l.getD k (0, 0) = t at *
      obtain ⟨f, n⟩ := t
      simp only at e1' e2'
      have hlt' : (k : Int) < (l.length : Int) := by omega
      have hk0 : (0 : Int) ≤ (k : Int) := by omega
      have hgr := World.grownBy_alloc wr (.cells #[.int .i64 f, .int .i64 n] 46) none
      have hf4 := (MapKept.heap_alloc wr (.cells #[.int .i64 f, .int .i64 n] 46)).1
      have ka : Keeps (fun j => wr.heap.size ≤ j) wr (wr.alloc (.cells #[.int .i64 f, .int .i64 n] 46)) := Keeps.of hgr (by simp)
      obtain ⟨r0, r1, r2, r3, rf⟩ := cells4 (ka.at hRb (by have := heap_lt hRb; omega))
      have HP4 := Hid.mk' (hrel.out.2.1.grown ka)
      have HK4 := Hid.mk' (hrel.out.2.2.then (X := fun j => w1.heap.size ≤ j) ka (fun j hj => by left; have := hrel.out.2.2.size; omega))
      have HKW4 := Hid.mk' (hkw.then (X := fun j => w.heap.size ≤ j) ka (fun j hj => by left; have := hkw.size; omega))
      have HGS := Hid.mk' hrel.out.1
      rw [hdr] at HGS
      have HTK := Hid.mk' htk
      have HSZ := Hid.mk' hrel.out.2.2.size
      clear hrel hkw hc e1 e2 htk hgr hRb rf hdr ka hf4
      by_cases a1 : n < 1
      · have HF : Hid (gsp s.pages s.data l = false) := by show _ = _; rw [HGS.out, gsp, if_pos (by simp only; omega)]
        go_wp2
        go_ret2
        exact ⟨HKW4.out, Or.inl ⟨HF.out, rfl⟩⟩
      by_cases a2 : 1024 < n
      · have HF : Hid (gsp s.pages s.data l = false) := by show _ = _; rw [HGS.out, gsp, if_pos (by simp only; omega)]
        go_wp2
        go_ret2
        exact ⟨HKW4.out, Or.inl ⟨HF.out, rfl⟩⟩
      by_cases a3 : f < (s.data : Int)
      · have HF : Hid (gsp s.pages s.data l = false) := by show _ = _; rw [HGS.out, gsp, if_pos (by simp only; omega)]
        go_wp2
        go_ret2
        exact ⟨HKW4.out, Or.inl ⟨HF.out, rfl⟩⟩
      by_cases a4 : (s.pages : Int) ≤ f
      · have HF : Hid (gsp s.pages s.data l = false) := by show _ = _; rw [HGS.out, gsp, if_pos (by simp only; omega)]
        go_wp2
        go_ret2
        exact ⟨HKW4.out, Or.inl ⟨HF.out, rfl⟩⟩
      have hsum : IntKind.i64.wrap (f + n) = f + n := i64_id (by omega) (by omega)
      by_cases a5 : (s.pages : Int) < f + n
      · have HF : Hid (gsp s.pages s.data l = false) := by show _ = _; rw [HGS.out, gsp, if_pos (by simp only; omega)]
        go_wp2
        go_ret2
        exact ⟨HKW4.out, Or.inl ⟨HF.out, rfl⟩⟩
      by_cases a6 : f < x
      · have HF : Hid (gsp s.pages s.data l = false) := by show _ = _; rw [HGS.out, gsp, if_pos (by simp only; omega)]
        go_wp2
        go_ret2
        exact ⟨HKW4.out, Or.inl ⟨HF.out, rfl⟩⟩
      obtain ⟨F, rfl⟩ := Int.eq_ofNat_of_zero_le (show 0 ≤ f by omega)
      obtain ⟨M, rfl⟩ := Int.eq_ofNat_of_zero_le (show 0 ≤ n by omega)
      obtain ⟨E, hE⟩ : ∃ E, E = F + M := ⟨_, rfl⟩
      have HF : Hid (gsp s.pages s.data l = gsp s.pages (E : Int) (l.drop (k + 1))) := by
        show _ = _
        rw [HGS.out, gsp, if_neg (by simp only; omega), hE, Int.natCast_add]
      have HTK2 := Hid.mk' (show inSp (l.take (k + 1)) = addR (inSp (l.take k)) F M by rw [HTK.out, inSp_snoc])
      have HE := Hid.mk' hE
      have hE1 : IntKind.i64.wrap ((F : Int) + (M : Int)) = (E : Int) := by rw [hsum, hE, Int.natCast_add]
      have hE2 : (F : Int) + (M : Int) = (E : Int) := by omega
      have hE3 : ¬ (s.pages : Int) < (E : Int) := by omega
      have hE4 : E ≤ s.pages := by omega
      have hE5 : F ≤ E := by omega
      have hE6 : s.data ≤ F := by omega
      clear hE hsum a5 HGS HTK HKW4
      go_wp2
      obtain ⟨w6, hw6⟩ : ∃ w6, w6 = wr.alloc (.cells #[.int .i64 (F : Int), .int .i64 (M : Int)] 46) := ⟨_, rfl⟩
      rw [← hw6] at HP4 HK4 ⊢
      clear hw6 r0 r1 r2 r3 e1' e2' a1 a2 a3 a4 a6 hE3
      go_loopw [11] (fun iv wx => ∃ i : Nat, F ≤ i ∧ i ≤ E ∧ iv = .int .i64 i ∧ Hid (RpAt wx e (.slice (some ⟨hb, 0, none⟩) s.pages s.pages) s (addR (inSp (l.take k)) F (i - F)) ∧ Keeps (fun j => j = hb) w6 wx)) (fun i _ => E - (intOf i).toNat)
      case atStart => exact ⟨F, by omega, by omega, rfl, by rw [Nat.sub_self, addR_zero]; exact HP4.out, Keeps.refl _ _⟩
      case round =>
        obtain ⟨i, hi1, hi2, rfl, hrel⟩ := hrel
        by_cases hli : i < E
        · have hli' : (i : Int) < (E : Int) := by omega
          have hi0 : (0 : Int) ≤ (i : Int) := by omega
          have hip : (i : Int) < (s.pages : Int) := by omega
          have hc4 := hrel.out.1.cells.2.2.2.2
          obtain ⟨g', gc', hv, _, hcs, hfz, hge⟩ := hrel.out.1.form
          cases hv
          have hbt := hcs i (by omega)
          have hz := hfz i
          have hsu : ∀ j, upd (addR (inSp (l.take k)) F (i - F)) i true j = true → s.data ≤ j ∧ j < s.pages := sup_set hrel.out.1.sup ⟨by omega, by omega⟩
          have HT := Hid.mk' (hrel.out.1.turn i true hge hsu)
          have HUP : Hid (upd (addR (inSp (l.take k)) F (i - F)) i true = addR (inSp (l.take k)) F (i + 1 - F)) := by
            show _ = _
            have := addR_succ (inSp (l.take k)) F (i - F)
            rw [show F + (i - F) = i by omega] at this
            rw [this]; congr 1; omega
          have HREL := hrel
          clear hrel hcs hfz hsu
          generalize addR (inSp (l.take k)) F (i - F) i = bx' at *
          go_wp2
          go_roundw
          case rel =>
            refine ⟨i + 1, by omega, by omega, by go_num, ?_, HREL.out.2.trans HT.out.2⟩
            rw [← HUP.out]; exact HT.out.1
          case measure => simp [intOf]; omega
        · have hli' : ¬ (i : Int) < (E : Int) := by omega
          have HJ := Hid.mk' (show i - F = M by have := HE.out; omega)
          have HREL := hrel
          clear hrel
          go_wp2
          go_roundw
          case rel =>
            refine ⟨k + 1, (E : Int), by omega, by go_num, rfl, by omega, by omega, ?_, ?_, ?_⟩
            · rw [show max (E : Int) (s.data : Int) = E by omega]; exact HF.out
            · rw [HTK2.out, ← HJ.out]; exact HREL.out.1
            · exact HK4.out.then HREL.out.2 (fun j hj => by left; have := HEB.out; omega)
          case measure => simp [intOf]; omega
    · have hlt' : ¬ (k : Int) < (l.length : Int) := by omega
      have HJ := Hid.mk' (show k = l.length by omega)
      have HREL := hrel
      have HKW := Hid.mk' hkw
      clear hrel hkw hRb
      go_wp2
      go_ret2
      have hr := HREL.out
      rw [HJ.out, List.take_length, List.drop_length] at hr
      have h1 := HEB.out
      have h2 := HK1.out.size
      refine ⟨HKW.out, Or.inr ⟨by rw [hr.1]; rfl, e, rfl, by omega, _, fun g hg => ?_, hr.2.1⟩⟩
      cases hg
      show w.heap.size ≤ hb
      omega

end Go.Proofs.Ytnafocbgapianab
