import Derived.Test.YtfekgfimbkgkfabT5
namespace Go.Proofs.Ytfekgfimbkgkfab
open Go.RowKit Go.Maps

set_option maxHeartbeats 4000000 in
set_option maxRecDepth 100000 in
theorem hears_any (w : World) (v0 : Value) (l : List Ed) (F : Dr) (xt bm n : Nat) (vp : Value) (p : List ByteArray) (sl : Bool) (vq : Value) (hC : HC w v0 l F xt bm n vp p vq) :
    Calls Try.prog 17 #[v0, .pointer (some ⟨xt, 0, none⟩), .agg #[vp, .bool sl], vq] w fun e w' => e = .returned (.bool true) ∧ Keeps (fun _ => False) w w' := by
  have C := Hid.mk' hC
  obtain ⟨ea, ec, rfl, _⟩ := id hC.re
  obtain ⟨pa, pc, rfl, _⟩ := id hC.rp
  obtain ⟨qa, qc, rfl, hqc, _⟩ := id hC.rq
  have hpl := hC.pl
  have hll := hC.ll
  have hql := asked_len F p p.length
  have H0 : Hid (HS w (.slice ea l.length ec) (.slice pa p.length pc) sl (w.heap.size + 1) (.slice none 0 0) [] (w.heap.size + 1 + 1) (.slice none 0 0) (((w.alloc (.cells #[.slice pa p.length pc, .bool sl] 25)).alloc (.cells #[.slice ea l.length ec, .slice none 0 0] 71)).alloc (.cells #[.slice ea l.length ec, .slice none 0 0] 71))) := by
    have k0 := (Keeps.refl (fun _ => False) w).alloc (.cells #[.slice pa p.length pc, .bool sl] 25)
    have k1 := (Keeps.refl (fun _ => False) (w.alloc (.cells #[.slice pa p.length pc, .bool sl] 25))).alloc (.cells #[.slice ea l.length ec, .slice none 0 0] 71)
    have k2 := (Keeps.refl (fun _ => False) ((w.alloc (.cells #[.slice pa p.length pc, .bool sl] 25)).alloc (.cells #[.slice ea l.length ec, .slice none 0 0] 71))).alloc (.cells #[.slice ea l.length ec, .slice none 0 0] 71)
    have h1 := heap_last (w.alloc (.cells #[.slice pa p.length pc, .bool sl] 25)) (.cells #[.slice ea l.length ec, .slice none 0 0] 71)
    have h2 := heap_last ((w.alloc (.cells #[.slice pa p.length pc, .bool sl] 25)).alloc (.cells #[.slice ea l.length ec, .slice none 0 0] 71)) (.cells #[.slice ea l.length ec, .slice none 0 0] 71)
    rw [World.size_alloc] at h1
    rw [World.size_alloc, World.size_alloc] at h2
    exact ⟨(k0.trans k1).trans k2, (k1.trans k2).at (heap_last _ _) id, k2.at h1 id, Row.of_own (World.ownsRow_nil _ 0 40 4), h2⟩
  clear hC
  obtain ⟨⟨yn, yb, ye⟩, hy⟩ : ∃ y, rsv F p sl = y := ⟨_, rfl⟩
  have hx1 := HS.res1 C H0 (by omega) (by omega)
  rw [hy] at hx1
  dsimp only at hx1
  clear H0
  rcases hears_cases F p with ⟨hN, hp⟩ | ⟨hN, e, he, hp, ha⟩ | ⟨hN, d, s, e, hp, ha⟩
  · have hq : (if named p = true then asked F p (p.length - 1) else []) = [] := by rw [if_neg (by simp [hN])]
    clear hN
    go_enter Try.func17, Try.ntmps17
    go_wp2_with (first
      | (go_at_call 14; refine hx1.mono ?_; clear hx1; rintro e w1 ⟨rfl, a1, c1, H1⟩
         have y0 := (cells2 H1.out.bx).1
         have y1 := (cells2 H1.out.bx).2.1
         have hx2 := HS.res2 C H1
         rw [hy] at hx2
         dsimp only at hx2)
      | (go_at_call 14; refine hx2.mono ?_; clear hx2; rintro e w2 ⟨rfl, H2⟩
         have z0 := (cells2 H2.out.bx).1
         have z1 := (cells2 H2.out.bx).2.1
         have z2 := (cells2 H2.out.s1).2.1
         have hx3 := HS.same C H2
         clear y0 y1 H1)
      | (go_at_call 23; refine hx3.mono ?_; clear hx3; rintro e w3 ⟨rfl, H3⟩
         have y0 := (cells2 H3.out.bx).1
         have y1 := (cells2 H3.out.bx).2.1
         have hx4 := HS.par1 C H3 (by omega) hq
         rw [hp] at hx4
         dsimp only at hx4
         clear z0 z1 z2 H2)
      | (go_at_call 22; refine hx4.mono ?_; clear hx4; rintro e w4 ⟨rfl, a4, c4, H4⟩
         have z0 := (cells2 H4.out.bx).1
         have z1 := (cells2 H4.out.bx).2.1
         have hx5 := HT.par2 C H4
         rw [hp] at hx5
         dsimp only at hx5
         clear y0 y1 H3)
      | (go_at_call 22; refine hx5.mono ?_; clear hx5; rintro e w5 ⟨rfl, H5⟩
         have y0 := (cells2 H5.out.bx).1
         have y1 := (cells2 H5.out.bx).2.1
         have y2 := (cells2 H5.out.s2).2.1
         skip
         clear z0 z1 H4)
      | (go_at_call 23; refine hx6.mono ?_; clear hx6; rintro e w6 ⟨rfl, H6⟩))
    go_ret
    exact ⟨rfl, H5.out.kp⟩
  · have hq : (if named p = true then asked F p (p.length - 1) else []) = asked F p p.length := by rw [if_pos hN, ha]
    clear hN ha
    rcases he with rfl | rfl
    all_goals
      go_enter Try.func17, Try.ntmps17
      go_wp2_with (first
        | (go_at_call 14; refine hx1.mono ?_; clear hx1; rintro e w1 ⟨rfl, a1, c1, H1⟩
           have y0 := (cells2 H1.out.bx).1
           have y1 := (cells2 H1.out.bx).2.1
           have hx2 := HS.res2 C H1
           rw [hy] at hx2
           dsimp only at hx2)
        | (go_at_call 14; refine hx2.mono ?_; clear hx2; rintro e w2 ⟨rfl, H2⟩
           have z0 := (cells2 H2.out.bx).1
           have z1 := (cells2 H2.out.bx).2.1
           have z2 := (cells2 H2.out.s1).2.1
           have hx3 := HS.same C H2
           clear y0 y1 H1)
        | (go_at_call 23; refine hx3.mono ?_; clear hx3; rintro e w3 ⟨rfl, H3⟩
           have y0 := (cells2 H3.out.bx).1
           have y1 := (cells2 H3.out.bx).2.1
           have hx4 := HS.par1 C H3 (by omega) hq
           rw [hp] at hx4
           dsimp only at hx4
           clear z0 z1 z2 H2)
        | (go_at_call 22; refine hx4.mono ?_; clear hx4; rintro e w4 ⟨rfl, a4, c4, H4⟩
           have z0 := (cells2 H4.out.bx).1
           have z1 := (cells2 H4.out.bx).2.1
           have hx5 := HT.par2 C H4
           rw [hp] at hx5
           dsimp only at hx5
           clear y0 y1 H3)
        | (go_at_call 22; refine hx5.mono ?_; clear hx5; rintro e w5 ⟨rfl, H5⟩
           have y0 := (cells2 H5.out.bx).1
           have y1 := (cells2 H5.out.bx).2.1
           have y2 := (cells2 H5.out.s2).2.1
           have hx6 := HT.same C H5 qa qc _ rfl (Nat.le_refl _) (List.take_length ..)
           clear z0 z1 H4)
        | (go_at_call 23; refine hx6.mono ?_; clear hx6; rintro e w6 ⟨rfl, H6⟩))
      go_ret
      exact ⟨rfl, H6.out.kp⟩
  · have hq : (if named p = true then asked F p (p.length - 1) else []) = asked F p (p.length - 1) := by rw [if_pos hN]
    have hlq : (asked F p p.length).length = (asked F p (p.length - 1)).length + 1 := by rw [ha, List.length_append]; rfl
    have hss : (s.toList == s.toList) = true := by simp
    have HT6 := Hid.mk' (show (asked F p p.length).take (asked F p (p.length - 1)).length = asked F p (p.length - 1) by rw [ha]; exact List.take_left ..)
    clear hN ha
    obtain ⟨m, hm⟩ : ∃ m, m = (asked F p (p.length - 1)).length := ⟨_, rfl⟩
    rw [← hm] at hlq HT6
    rw [hlq] at C hqc ⊢
    have HLQ := Hid.mk' hlq
    have hqc1 : (m : Int) ≤ (qc : Int) := by omega
    have hm9 : m < 1000 := by omega
    clear hlq hm hql
    go_enter Try.func17, Try.ntmps17
    go_wp2_with (first
      | (go_at_call 14; refine hx1.mono ?_; clear hx1; rintro e w1 ⟨rfl, a1, c1, H1⟩
         have y0 := (cells2 H1.out.bx).1
         have y1 := (cells2 H1.out.bx).2.1
         have hx2 := HS.res2 C H1
         rw [hy] at hx2
         dsimp only at hx2)
      | (go_at_call 14; refine hx2.mono ?_; clear hx2; rintro e w2 ⟨rfl, H2⟩
         have z0 := (cells2 H2.out.bx).1
         have z1 := (cells2 H2.out.bx).2.1
         have z2 := (cells2 H2.out.s1).2.1
         have hx3 := HS.same C H2
         clear y0 y1 H1)
      | (go_at_call 23; refine hx3.mono ?_; clear hx3; rintro e w3 ⟨rfl, H3⟩
         have y0 := (cells2 H3.out.bx).1
         have y1 := (cells2 H3.out.bx).2.1
         have hx4 := HS.par1 C H3 (by omega) hq
         rw [hp] at hx4
         dsimp only at hx4
         clear z0 z1 z2 H2)
      | (go_at_call 22; refine hx4.mono ?_; clear hx4; rintro e w4 ⟨rfl, a4, c4, H4⟩
         have z0 := (cells2 H4.out.bx).1
         have z1 := (cells2 H4.out.bx).2.1
         have hx5 := HT.par2 C H4
         rw [hp] at hx5
         dsimp only at hx5
         clear y0 y1 H3)
      | (go_at_call 22; refine hx5.mono ?_; clear hx5; rintro e w5 ⟨rfl, H5⟩
         have y0 := (cells2 H5.out.bx).1
         have y1 := (cells2 H5.out.bx).2.1
         have y2 := (cells2 H5.out.s2).2.1
         have hx6 : ∀ k9, Calls Try.prog 23 #[.slice a4 (asked F p (p.length - 1)).length c4, .slice qa m qc] (w5.drewN k9) fun e w' => e = .returned (.bool true) ∧ Hid (Keeps (fun _ => False) w w') ∧ w'.cell? ⟨w.heap.size + 1 + 1, 1, none⟩ = some (.slice a4 (asked F p (p.length - 1)).length c4) := by
           intro k9
           refine (HT.same C (Hid.mk' (H5.out.keep (Keeps.drewN _ w5 k9))) qa qc m (by rw [HLQ.out]) (by rw [HLQ.out]; omega) HT6.out).mono ?_
           rintro e w' ⟨rfl, H⟩
           exact ⟨rfl, H.out.kp, (cells2 H.out.s2).2.1⟩
         clear z0 z1 H4 y0 y1))
    have hm0 : (0 : Int) ≤ (m : Int) := by omega
    have hm1 : IntKind.i64.wrap (m : Int) = (m : Int) := by rw [IntKind.wrap_i64]; omega
    clear H5
    go_region_held3 (fun wx => wx.cell? ⟨w.heap.size + 1 + 1, 1, none⟩ = some (.slice a4 (asked F p (p.length - 1)).length c4))
      (first | go_keep)
      (first
        | (go_at_call 23; refine (hx6 _).mono ?_; rintro e w6 ⟨rfl, H6, y2⟩))
    all_goals
      go_wp2
      go_ret
      exact ⟨rfl, H6.out⟩
end Go.Proofs.Ytfekgfimbkgkfab
