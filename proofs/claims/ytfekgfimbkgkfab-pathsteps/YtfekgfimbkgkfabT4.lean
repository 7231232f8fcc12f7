import Derived.Test.YtfekgfimbkgkfabT3
import Derived.Test.YtfekgfimbkgkfabF2
namespace Go.Proofs.Ytfekgfimbkgkfab
open Go.RowKit Go.Maps

set_option maxHeartbeats 2000000 in
set_option maxRecDepth 100000 in
theorem parent_ears (w : World) (x : Nat) (ve : Value) (l : List Ed) (F : Dr) (hE : E0 w x ve l) (v : Value) (p : List ByteArray) (sl : Bool) (hO : EO x ve l F v p) (h : Row w v p.length (strs p)) :
    Calls Try.prog 22 #[.iface 69 (.pointer (some ⟨x, 0, none⟩)), .agg #[v, .bool sl]] w fun e w' => e = .returned (.tuple #[.int .i64 (prn F p).1, .string (prn F p).2.1, .int .i64 (prn F p).2.2]) ∧ Hid (EK w x ve l (if named p = true then asked F p (p.length - 1) else []) w') := by
  have hK0 : Keeps (fun _ => False) w (w.alloc (.cells #[v, .bool sl] 25)) := (Keeps.refl _ w).alloc _
  have hB0 := heap_last w (.cells #[v, .bool sl] 25)
  have hx : x < w.heap.size := heap_lt hE.st
  have hn := hO.pl
  have h27 := ends_any (w.alloc (.cells #[v, .bool sl] 25)) v p sl (h.keep hK0) (by omega)
  rw [prn_eq]
  rcases Bool.eq_false_or_eq_true (named p) with hN | hN
  · have hne := named_ne hN
    have h1 : 0 < p.length := List.length_pos_iff.2 hne
    rw [if_pos hN, if_pos hN]
    rw [hN] at h27
    obtain ⟨b, o, cap, rfl, hb, hc⟩ := h.pos h1
    have hbx : b < x := hO.vx b rfl h1
    have h28 : ∀ w1, Keeps (fun _ => False) (w.alloc (.cells #[.slice (some ⟨b, o, none⟩) p.length cap, .bool sl] 25)) w1 → Calls Try.prog 28 #[.iface 69 (.pointer (some ⟨x, 0, none⟩)), .slice (some ⟨b, o, none⟩) (p.length - 1) cap] w1 fun e w' => e = .returned (.tuple #[.agg #[.int .i64 (wkR F p.dropLast).1.1, .bool (wkR F p.dropLast).1.2], .int .i64 (wkR F p.dropLast).2]) ∧ Hid (EK w x ve l (asked F p (p.length - 1)) w' ∧ Keeps (fun k => k = x) w1 w') := by
      intro w1 hk
      refine (walk_ek w1 x ve l F (hE.keep (hK0.trans hk)) _ p.dropLast ⟨hO.fl, hO.wf, hO.ve, hO.ll, fun g hg _ => by cases hg; exact hbx, by rw [List.length_dropLast]; omega, fun s hs => hO.pz s (List.dropLast_subset p hs)⟩ (h.init.keep (hK0.trans hk))).mono ?_
      rintro e w' ⟨rfl, H⟩
      have e1 : asked F p.dropLast p.dropLast.length = asked F p (p.length - 1) := by
        rw [List.length_dropLast, dropLast_take]; exact asked_take F p _ _ (Nat.le_refl _)
      have H2 := H.out
      rw [e1] at H2
      exact ⟨rfl, H2.from (hK0.trans hk), by obtain ⟨_, _, h⟩ := H2; exact h⟩
    have c2 := hc (p.length - 1) _ (strs_get (by omega))
    rw [← lastP_getD] at c2
    have hsz := hO.pz _ (last_mem hne)
    have hcp := h.cap
    have HC : Hid (w.cell? ⟨b, o + (p.length - 1), none⟩ = some (.string (lastP p))) := c2
    have h26 := fun w1 => clone_any (lastP p) w1 hsz
    clear hO hE hc h hsz hne c2
    generalize wkR F p.dropLast = y at h28 ⊢
    obtain ⟨⟨yn, yb⟩, er⟩ := y
    simp only at h28 ⊢
    generalize asked F p (p.length - 1) = qs9 at h28 ⊢
    have HA : ∀ w1, Keeps (fun k => k = x) (w.alloc (.cells #[.slice (some ⟨b, o, none⟩) p.length cap, .bool sl] 25)) w1 → w1.cell? ⟨w.heap.size, 0, none⟩ = some (.slice (some ⟨b, o, none⟩) p.length cap) ∧ w1.cell? ⟨w.heap.size, 1, none⟩ = some (.bool sl) := fun w1 hk1 =>
      ⟨(cells2 (hk1.at hB0 (by omega))).1, (cells2 (hk1.at hB0 (by omega))).2.1⟩
    have HA : Hid _ := HA
    obtain ⟨q, hq⟩ : ∃ q, p.length = q + 1 := ⟨p.length - 1, by omega⟩
    rw [hq] at HA HC h28 hcp hn h27 hK0 ⊢
    simp only [Nat.add_sub_cancel] at HC h28
    have HK0 := Hid.mk' hK0
    have H28 := Hid.mk' h28
    have HQ := Hid.mk' hq
    have hcp2 : (q : Int) ≤ (cap : Int) := by omega
    have HX : Hid (b ≠ x) := (by omega : b ≠ x)
    clear hK0 h28 hB0 hq h1
    by_cases h0 : er = 0
    · subst h0
      rw [if_pos rfl]
      cases yb with
      | false =>
        go_enter Try.func22, Try.ntmps22
        go_wp2_with (first
          | (go_at_call 27; refine h27.mono ?_; clear h27; rintro e w1 ⟨rfl, hk1⟩
             obtain ⟨c0, c1⟩ := HA.out w1 (hk1.mono (fun _ _ h => h.elim))
             have HK1 := Hid.mk' hk1
             clear hk1)
          | (go_at_call 28; refine (H28.out _ HK1.out).mono ?_; rintro e w2 ⟨rfl, hk2⟩
             have HK2 : Hid (∀ o, EK w x ve l qs9 (w2.alloc o)) := fun o => hk2.out.1.keep ((Keeps.refl _ _).alloc o)
             clear hk2))
        go_ret3
        exact ⟨rfl, HK2.out _⟩
      | true =>
        go_enter Try.func22, Try.ntmps22
        go_wp2_with (first
          | (go_at_call 27; refine h27.mono ?_; clear h27; rintro e w1 ⟨rfl, hk1⟩
             obtain ⟨c0, c1⟩ := HA.out w1 (hk1.mono (fun _ _ h => h.elim))
             have HK1 := Hid.mk' hk1
             clear hk1)
          | (go_at_call 28; refine (H28.out _ HK1.out).mono ?_; rintro e w2 ⟨rfl, hk2⟩
             have HK2 : Hid (Keeps (fun k => k = x) (w.alloc (.cells #[.slice (some ⟨b, o, none⟩) (q + 1) cap, .bool sl] 25)) w2 ∧ EK w x ve l qs9 w2) := ⟨(HK1.out.mono (fun _ _ h => h.elim)).trans hk2.out.2, hk2.out.1⟩
             clear hk2))
        have hAl := (Keeps.refl (fun _ => False) w2).alloc (.cells #[.int .i64 yn, .bool true] 61)
        have hAx := HK2.out.1.trans (hAl.mono (fun _ _ h => h.elim))
        obtain ⟨y0, y1, _⟩ := cells2 (heap_last w2 (.cells #[.int .i64 yn, .bool true] 61))
        have y2 := (HA.out _ hAx).1
        have y3 := ((HK0.out.mono (Y := fun k => k = x) (fun _ _ h => h.elim)).trans hAx).cell HC.out HX.out
        have HK3 := Hid.mk' (HK2.out.2.keep hAl)
        clear hAl hAx
        generalize w2.alloc (.cells #[.int .i64 yn, .bool true] 61) = W at y0 y1 y2 y3 HK3 ⊢
        have h26 : ∀ m, Calls Try.prog 26 #[.string (lastP p)] (W.drewN m) fun e w' => e = .returned (.string (lastP p)) ∧ Hid (EK w x ve l qs9 w') ∧ w'.cell? ⟨w2.heap.size, 0, none⟩ = some (.int .i64 yn) ∧ w'.cell? ⟨w.heap.size, 0, none⟩ = some (.slice (some ⟨b, o, none⟩) (q + 1) cap) ∧ w'.cell? ⟨b, o + q, none⟩ = some (.string (lastP p)) := by
          intro m
          refine (h26 (W.drewN m)).mono ?_
          rintro e w' ⟨rfl, hk⟩
          have hk := (Keeps.drewN (fun _ => False) W m).trans hk
          exact ⟨rfl, HK3.out.keep hk, hk.cell y0 id, hk.cell y2 id, hk.cell y3 id⟩
        have hq1 : (0 : Int) ≤ (q : Int) := by omega
        have hq3 : (q : Int) < (q : Int) + 1 := by omega
        clear HK3 HK2 HK1 HK0 HA HC H28 y1
        go_region_held3 (fun wx => wx.cell? ⟨w2.heap.size, 0, none⟩ = some (.int .i64 yn) ∧ wx.cell? ⟨w.heap.size, 0, none⟩ = some (.slice (some ⟨b, o, none⟩) (q + 1) cap) ∧ wx.cell? ⟨b, o + q, none⟩ = some (.string (lastP p)))
          (first | go_keep)
          (first
            | (go_at_call 26; refine (h26 _).mono ?_; rintro e w3 ⟨rfl, H3, z0, z1, z2⟩))
        all_goals
          go_wp2
          go_ret3
          exact ⟨rfl, H3.out⟩
    · rw [if_neg h0]
      have h0' : ¬ er = 0 := h0
      go_enter Try.func22, Try.ntmps22
      go_wp2_with (first
        | (go_at_call 27; refine h27.mono ?_; clear h27; rintro e w1 ⟨rfl, hk1⟩
           obtain ⟨c0, c1⟩ := HA.out w1 (hk1.mono (fun _ _ h => h.elim))
           have HK1 := Hid.mk' hk1
           clear hk1)
        | (go_at_call 28; refine (H28.out _ HK1.out).mono ?_; rintro e w2 ⟨rfl, hk2⟩
           have HK2 : Hid (∀ o, EK w x ve l qs9 (w2.alloc o)) := fun o => hk2.out.1.keep ((Keeps.refl _ _).alloc o)
           clear hk2))
      go_ret3
      exact ⟨rfl, HK2.out _⟩
  · rw [if_neg (by simp [hN]), if_neg (by simp [hN])]
    rw [hN] at h27
    have HE0 : Hid (EK w x ve l [] (w.alloc (.cells #[v, .bool sl] 25))) := ⟨_, (hE.keep hK0).ea _, hK0.mono (fun _ _ h => h.elim)⟩
    obtain ⟨a, cap, rfl, _⟩ := h
    clear hO hE hN
    go_enter Try.func22, Try.ntmps22
    go_wp2_with (first
      | (go_at_call 27; refine h27.mono ?_; clear h27; rintro e w1 ⟨rfl, hk1⟩))
    go_ret3
    exact ⟨rfl, HE0.out.keep hk1⟩
end Go.Proofs.Ytfekgfimbkgkfab
