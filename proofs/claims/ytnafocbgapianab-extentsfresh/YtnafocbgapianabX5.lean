import Derived.Test.YtnafocbgapianabX4
namespace Go.Proofs.Ytnafocbgapianab
open Go.RowKit

/-- The first i marks of a row. -/
def cut (H : Nat → Bool) (i : Nat) : Nat → Bool := fun j => decide (j < i) && H j
theorem cut_zero (H : Nat → Bool) : cut H 0 = fun _ => false := by funext j; simp [cut]
theorem cut_at (H : Nat → Bool) (i : Nat) : cut H i i = false := by simp [cut]
theorem cut_yes {H : Nat → Bool} {i : Nat} (h : H i = true) : cut H (i + 1) = upd (cut H i) i true := by
  funext j; unfold cut upd
  by_cases hj : j = i
  · subst hj; simp [h]
  · have : j < i + 1 ↔ j < i := by omega
    simp [hj, this]
theorem cut_no {H : Nat → Bool} {i : Nat} (h : H i = false) : cut H (i + 1) = cut H i := by
  funext j; unfold cut
  by_cases hj : j = i
  · subst hj; simp [h]
  · have : j < i + 1 ↔ j < i := by omega
    simp [this]

theorem bmLen_nat {n : Nat} (h : n ≤ 1024) : bmLen (n : Int) = n := by unfold bmLen; omega

set_option maxHeartbeats 4000000 in
set_option maxRecDepth 20000 in
theorem holesFresh_any {w0 : World} {B d k hb : Nat} {s : Sh} {S H : Nat → Bool} {Ls : Nat → Option LI} {Ks : Nat → Option KI} {w : World} (h : FR w0 B d k hb s S H Ls Ks w) :
    Calls Try.prog 37 #[.slice (some ⟨hb, 0, none⟩) s.pages s.pages] w fun e w' => e = .returned (.bool true) ∧ Keeps (fun j => w.heap.size ≤ j) w w' := by
  have hpg : s.pages ≤ 1024 := h.pool.good.2.1
  have HH := Hid.mk' h
  have hnb := newBitmap_any (s.pages : Int) w
  rw [bmLen_nat hpg] at hnb
  have hbl := heap_lt h.book.held
  clear h
  generalize hn : s.pages = n at *
  have HN := Hid.mk' hn
  clear hn
  go_enter Try.func37, Try.ntmps37
  go_wp2_with (first
    | (go_at_call 24; refine hnb.mono ?_; clear hnb; rintro e w1 ⟨rfl, hb1, hk1⟩; have HB1 := Hid.mk' (And.intro hb1 hk1); clear hb1 hk1))
  obtain ⟨b, hbe⟩ : ∃ b, b = w.heap.size := ⟨_, rfl⟩
  rw [← hbe] at HB1 ⊢
  have HBE := Hid.mk' hbe
  clear hbe
  go_loopw [4] (fun iv wr => ∃ i : Nat, i ≤ n ∧ iv = .int .i64 i ∧ Hid (BmAt wr b n (cut H i) ∧ Keeps (fun j => b ≤ j) w wr)) (fun iv _ => n - (intOf iv).toNat)
  case atStart => exact ⟨0, by omega, rfl, by rw [cut_zero]; exact HB1.out.1, HB1.out.2⟩
  case round =>
    obtain ⟨i, hi, rfl, hrel⟩ := hrel
    have hbb : b ≤ w.heap.size ∧ w.heap.size ≤ b := by have := HBE.out; omega
    by_cases hlt : i < n
    · have hlt' : (i : Int) < (n : Int) := by omega
      have hi0 : (0 : Int) ≤ (i : Int) := by omega
      have hbit := hrel.out.2.cell (HH.out.book.bit i (by rw [HN.out]; exact hlt)) (by simp; omega)
      have hst := bset_in wr b n (cut H i) hrel.out.1 i hlt
      rw [cut_at] at hst
      have HREL := hrel
      clear hrel
      cases hHi : H i with
      | true =>
        rw [hHi] at hbit
        have HC := Hid.mk' (cut_yes hHi)
        clear hHi
        go_wp2_with (first
          | (go_at_call 26; refine hst.mono ?_; clear hst; rintro e w2 ⟨rfl, hx1, hx2⟩; have HX := Hid.mk' (And.intro hx1 hx2); clear hx1 hx2))
        go_roundw
        case rel => exact ⟨i + 1, by omega, by go_num, by rw [HC.out]; exact HX.out.1, HREL.out.2.then HX.out.2 (fun j hj => by left; omega)⟩
        case measure => simp [intOf]; omega
      | false =>
        rw [hHi] at hbit
        have HC := Hid.mk' (cut_no hHi)
        clear hHi hst
        go_wp2
        go_roundw
        case rel => exact ⟨i + 1, by omega, by go_num, by rw [HC.out]; exact HREL.out.1, HREL.out.2⟩
        case measure => simp [intOf]; omega
    · have hlt' : ¬ (i : Int) < (n : Int) := by omega
      have hie : i = n := by omega
      have hG := hrel.out.1
      rw [hie] at hG
      have HK := Hid.mk' hrel.out.2
      have hwb := hrel.out.2.size
      generalize cut H n = G at *
      have hE : Env w b (fun _ => none) (fun _ => none) wr := ⟨(fun _ _ h => by cases h), (fun _ _ h => by cases h), (fun _ _ h => by cases h), (fun _ _ _ _ _ h => by cases h), (fun _ _ _ _ h => by cases h), (fun _ _ h => by cases h), hrel.out.2, by have := heap_lt hG.at_; omega⟩
      have hh1 := bholes_any wr b n G hG 0 (n : Int)
      rw [show clamp n 0 = 0 from clamp_in (Nat.zero_le _), clamp_in (Nat.le_refl _), Nat.sub_zero] at hh1
      have hbd := (sp_bd (fun j => !G j) 0 n).2
      have HHOL : Hid (∀ wx, BmAt wx b n G → Calls Try.prog 31 #[.pointer (some ⟨b, 0, none⟩), .int .i64 0, .int .i64 (n : Int)] wx fun e w' => ∃ v, e = .returned v ∧ SpAt w' wx.heap.size v (sp (fun j => !G j) 0 n) ∧ Keeps (fun k => wx.heap.size ≤ k) wx w') := fun wx hx => by
        have := bholes_any wx b n G hx 0 (n : Int)
        rwa [show clamp n 0 = 0 from clamp_in (Nat.zero_le _), clamp_in (Nat.le_refl _), Nat.sub_zero] at this
      have HHOL3 : Hid (∀ wx, BmAt wx b n G → Calls Try.prog 31 #[.pointer (some ⟨b, 0, none⟩), .int .i64 (-3), .int .i64 ((n : Int) + 3)] wx fun e w' => ∃ v, e = .returned v ∧ SpAt w' wx.heap.size v (sp (fun j => !G j) 0 n) ∧ Keeps (fun k => wx.heap.size ≤ k) wx w') := fun wx hx => by
        have := bholes_any wx b n G hx (-3) ((n : Int) + 3)
        rwa [show clamp n (-3) = 0 by unfold clamp; omega, show clamp n ((n : Int) + 3) = n by unfold clamp; omega, Nat.sub_zero] at this
      obtain ⟨L, hL⟩ : ∃ L, L = sp (fun j => !G j) 0 n := ⟨_, rfl⟩
      rw [← hL] at hh1 hbd HHOL HHOL3
      have hLl : L.length ≤ 1024 := by omega
      have HE0 := Hid.mk' (And.intro hE hG)
      have hn3 : IntKind.i64.wrap ((n : Int) + 3) = (n : Int) + 3 := i64_id (by omega) (by omega)
      clear hrel hie hG hE hL hbd
      go_wp2_with (first
        | (go_at_call 31; refine hh1.mono ?_; clear hh1; rintro e w2 ⟨v2, rfl, hx1, hx2⟩
           obtain ⟨p2, cap2, hv2⟩ := hx1.eq_slice
           subst v2
           have he2 := HE0.out.1.add hx2 0 ⟨p2, cap2, L⟩ hx1 hLl
           have hg2 := HE0.out.2.kept hx2 (by have := heap_lt HE0.out.2.at_; omega)
           have hcp := copySpans_any w2 p2 cap2 L (LI.in_ (x := ⟨p2, cap2, L⟩) (he2.ls 0 _ rfl).1) (by omega)
           have HE2 := Hid.mk' (And.intro he2 hg2)
           clear hx1 hx2 he2 hg2 HE0)
        | (go_at_call 13; refine hcp.mono ?_; clear hcp; rintro e w3 ⟨v3, rfl, hx1, hx2⟩
           obtain ⟨p3, cap3, hv3⟩ := hx1.eq_slice
           subst v3
           have he3 := HE2.out.1.add hx2 1 ⟨p3, cap3, L⟩ hx1 hLl
           have hg3 := HE2.out.2.kept hx2 (by have := heap_lt HE2.out.2.at_; omega)
           have hh2 := HHOL.out w3 hg3
           have HE3 := Hid.mk' (And.intro he3 hg3)
           clear hx1 hx2 he3 hg3 HE2)
        | (go_at_call 31; refine hh2.mono ?_; clear hh2; rintro e w4 ⟨v4, rfl, hx1, hx2⟩
           obtain ⟨p4, cap4, hv4⟩ := hx1.eq_slice
           subst v4
           have he4 := HE3.out.1.add hx2 2 ⟨p4, cap4, L⟩ hx1 hLl
           have hg4 := HE3.out.2.kept hx2 (by have := heap_lt HE3.out.2.at_; omega)
           have hsp := spoil_any w4 0 p2 cap2 L (-17) (he4.ls 0 ⟨p2, cap2, L⟩ rfl).1 (by omega) (Nat.zero_le _)
           have HE4 := Hid.mk' (And.intro he4 hg4)
           clear hx1 hx2 he4 hg4 HE3)
        | (go_at_call 35; refine hsp.mono ?_; clear hsp; rintro e w5 ⟨q5, c5, rfl, q1, q2, q3, q4, q6⟩
           have he5 := HE4.out.1.spoil (i := 0) (x := ⟨p2, cap2, L⟩) rfl q1 q2 q3 (fun b hb => q4 b (Or.inr hb)) (fun b hb => q4 b (Or.inl hb)) q6 0 (cap2 := c5)
           have ka : Keeps (fun j => w5.heap.size ≤ j) w5 (w5.alloc (.cells #[.slice p2 L.length cap2, .slice q5 (L.length + 1) c5, .int .i64 (-17)] 79)) := Keeps.of (World.grownBy_alloc w5 _ none) (by simp)
           have hg5 := (HE4.out.2.kept q6 (fun e => by
             rcases e with e | e
             · obtain ⟨_, _, cur, hc⟩ := (HE4.out.1.ls 0 ⟨p2, cap2, L⟩ rfl).1.block e
               exact ne_type HE4.out.2.at_ hc (by decide) rfl
             · have := heap_lt HE4.out.2.at_; omega))
           have hg5' := hg5.kept ka (by have := heap_lt hg5.at_; omega)
           have hsm := sameSpans_yes _ p4 p3 cap4 cap3 L (LI.in_ (x := ⟨p4, cap4, L⟩) (he5.ls 2 _ rfl).1) (LI.in_ (x := ⟨p3, cap3, L⟩) (he5.ls 1 _ rfl).1) (by omega)
           have hst1 := fun m => spoilt_any _ p2 q5 cap2 c5 L.length (-17) ((he5.grown (Keeps.drewN _ _ m)).ks 0 _ rfl).one ((he5.grown (Keeps.drewN _ _ m)).ks 0 _ rfl).two (by omega)
           obtain ⟨y0, y1, y2, _⟩ := cells3 (he5.ks 0 _ rfl).at_
           have HE5 := Hid.mk' (And.intro he5 hg5')
           clear q1 q2 q3 q4 q6 he5 ka hg5 hg5' HE4)
        | (go_at_call 18; refine hsm.mono ?_; clear hsm; rintro e w' ⟨rfl, m7, hw'⟩; subst w')
        | (go_at_call 36; refine (hst1 _).mono ?_; clear hst1; rintro e w8 ⟨rfl, hk8⟩
           have he8 := (HE5.out.1.grown (Keeps.drewN _ _ m7)).grown hk8
           have hgd := HE5.out.2.kept (Keeps.drewN (fun _ => False) _ m7) (by simp)
           have hg8 := hgd.kept hk8 (by have := heap_lt hgd.at_; omega)
           have hsp2 := spoil_any w8 0 p4 cap4 L (-18) (he8.ls 2 ⟨p4, cap4, L⟩ rfl).1 (by omega) (Nat.zero_le _)
           have HE8 := Hid.mk' (And.intro he8 hg8)
           clear hk8 he8 hgd hg8 HE5 y0 y1 y2)
        | (go_at_call 35; refine hsp2.mono ?_; clear hsp2; rintro e w9 ⟨q9, c9, rfl, q1, q2, q3, q4, q6⟩
           have he9 := HE8.out.1.spoil (i := 2) (x := ⟨p4, cap4, L⟩) rfl q1 q2 q3 (fun b hb => q4 b (Or.inr hb)) (fun b hb => q4 b (Or.inl hb)) q6 1 (cap2 := c9)
           have ka : Keeps (fun j => w9.heap.size ≤ j) w9 (w9.alloc (.cells #[.slice p4 L.length cap4, .slice q9 (L.length + 1) c9, .int .i64 (-18)] 79)) := Keeps.of (World.grownBy_alloc w9 _ none) (by simp)
           have hg9 := (HE8.out.2.kept q6 (fun e => by
             rcases e with e | e
             · obtain ⟨_, _, cur, hc⟩ := (HE8.out.1.ls 2 ⟨p4, cap4, L⟩ rfl).1.block e
               exact ne_type HE8.out.2.at_ hc (by decide) rfl
             · have := heap_lt HE8.out.2.at_; omega))
           have hg9' := hg9.kept ka (by have := heap_lt hg9.at_; omega)
           have hh3 := HHOL3.out _ hg9'
           have HE9 := Hid.mk' he9
           clear q1 q2 q3 q4 q6 he9 ka hg9 hg9' HE8)
        | (go_at_call 31; refine hh3.mono ?_; clear hh3; rintro e w10 ⟨v10, rfl, hx1, hx2⟩
           obtain ⟨p10, cap10, hv10⟩ := hx1.eq_slice
           subst v10
           have he10 := HE9.out.add hx2 3 ⟨p10, cap10, L⟩ hx1 hLl
           have hsm3 := sameSpans_yes w10 p10 p3 cap10 cap3 L (LI.in_ (x := ⟨p10, cap10, L⟩) (he10.ls 3 _ rfl).1) (LI.in_ (x := ⟨p3, cap3, L⟩) (he10.ls 1 _ rfl).1) (by omega)
           have hst2 := fun m => spoilt_any (w10.drewN m) p2 q5 cap2 c5 L.length (-17) ((he10.grown (Keeps.drewN _ _ m)).ks 0 _ rfl).one ((he10.grown (Keeps.drewN _ _ m)).ks 0 _ rfl).two (by omega)
           obtain ⟨y0, y1, y2, _⟩ := cells3 (he10.ks 0 _ rfl).at_
           have HE10 := Hid.mk' he10
           clear hx1 hx2 he10 HE9)
        | (go_at_call 18; refine hsm3.mono ?_; clear hsm3; rintro e w' ⟨rfl, m11, hw'⟩; subst w')
        | (go_at_call 36; refine (hst2 _).mono ?_; clear hst2; rintro e w12 ⟨rfl, hk12⟩
           have he12 := (HE10.out.grown (Keeps.drewN _ _ m11)).grown hk12
           have hst3 := spoilt_any w12 p4 q9 cap4 c9 L.length (-18) (he12.ks 1 _ rfl).one (he12.ks 1 _ rfl).two (by omega)
           obtain ⟨x0, x1, x2, _⟩ := cells3 (he12.ks 1 _ rfl).at_
           have HE12 := Hid.mk' he12
           clear hk12 he12 HE10)
        | (go_at_call 36; refine hst3.mono ?_; clear hst3; rintro e w13 ⟨rfl, hk13⟩
           have HE13 := Hid.mk' (HE12.out.grown hk13)
           clear hk13 HE12))
      go_ret
      refine ⟨ret_bool (by simp), ?_⟩
      have := HE13.out.keep
      rw [HBE.out] at this
      exact this

end Go.Proofs.Ytnafocbgapianab
