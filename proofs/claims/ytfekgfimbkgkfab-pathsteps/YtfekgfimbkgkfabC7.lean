import Derived.Test.YtfekgfimbkgkfabC6
namespace Go.Proofs.Ytfekgfimbkgkfab
open Go.RowKit Go.Maps

theorem prn_eq (F : Dr) (p : List ByteArray) : prn F p = if named p = true then (if (wkR F p.dropLast).2 = 0 then (if (wkR F p.dropLast).1.2 = true then ((wkR F p.dropLast).1.1, lastP p, 0) else (0, ⟨#[]⟩, 144)) else (0, ⟨#[]⟩, (wkR F p.dropLast).2)) else (0, ⟨#[]⟩, 145) := by
  unfold prn wkR
  split
  · cases h : lead F p.dropLast with
    | bad e =>
      have := lead_bad h
      simp only
      rw [if_neg (by omega)]
    | ok a r => rfl
  · rfl
theorem named_ne {p : List ByteArray} (h : named p = true) : p ≠ [] := by
  rintro rfl
  cases h
/-- All but the last of a list. -/
theorem Row.init {w : World} {b o cap : Nat} {p : List ByteArray} (h : Row w (.slice (some ⟨b, o, none⟩) p.length cap) p.length (strs p)) : Row w (.slice (some ⟨b, o, none⟩) (p.length - 1) cap) p.dropLast.length (strs p.dropLast) := by
  have hcap := h.cap
  refine ⟨some ⟨b, o, none⟩, cap, by rw [List.length_dropLast], by rw [List.length_dropLast]; omega, fun h0 => ?_⟩
  rw [List.length_dropLast] at h0
  obtain ⟨b', o', cap', e, hb, hc⟩ := h.pos (by omega)
  cases e
  refine ⟨b, o, rfl, hb, fun j u hj => hc j u ?_⟩
  have hl : j < p.length - 1 := by
    have := (List.getElem?_eq_some_iff.1 hj).1
    rw [strs_len, List.length_dropLast] at this; exact this
  have e2 : strs p.dropLast = (strs p).dropLast := by simp [strs, List.map_dropLast]
  rw [e2, List.getElem?_dropLast, if_pos (by rw [strs_len]; exact hl)] at hj
  exact hj

set_option maxHeartbeats 2000000 in
set_option maxRecDepth 100000 in
theorem parent_any (w : World) (x bm n : Nat) (F : Dr) (hT : TabAt w x bm n F) (hF : wfF F) (v : Value) (p : List ByteArray) (sl : Bool) (h : Row w v p.length (strs p)) (hn : p.length < 8796093022000) (hz : ∀ s ∈ p, s.size ≤ 281474976710656) :
    Calls Try.prog 22 #[.iface 26 (.pointer (some ⟨x, 0, none⟩)), .agg #[v, .bool sl]] w fun e w' => e = .returned (.tuple #[.int .i64 (prn F p).1, .string (prn F p).2.1, .int .i64 (prn F p).2.2]) ∧ Keeps (fun _ => False) w w' := by
  have hK0 : Keeps (fun _ => False) w (w.alloc (.cells #[v, .bool sl] 25)) := (Keeps.refl _ w).alloc _
  have hB0 := heap_last w (.cells #[v, .bool sl] 25)
  have h27 := ends_any (w.alloc (.cells #[v, .bool sl] 25)) v p sl (h.keep hK0) hn
  rw [prn_eq]
  rcases Bool.eq_false_or_eq_true (named p) with hN | hN
  · have hne := named_ne hN
    have h1 : 0 < p.length := List.length_pos_iff.2 hne
    rw [if_pos hN]
    rw [hN] at h27
    obtain ⟨b, o, cap, rfl, hb, hc⟩ := h.pos h1
    have h28 : ∀ w1, Keeps (fun _ => False) (w.alloc (.cells #[.slice (some ⟨b, o, none⟩) p.length cap, .bool sl] 25)) w1 → Calls Try.prog 28 #[.iface 26 (.pointer (some ⟨x, 0, none⟩)), .slice (some ⟨b, o, none⟩) (p.length - 1) cap] w1 fun e w' => e = .returned (.tuple #[.agg #[.int .i64 (wkR F p.dropLast).1.1, .bool (wkR F p.dropLast).1.2], .int .i64 (wkR F p.dropLast).2]) ∧ Keeps (fun _ => False) w1 w' :=
      fun w1 hk => walk_any w1 x bm n F (hT.grow (hK0.trans hk)) hF _ p.dropLast (h.init.keep (hK0.trans hk)) (by rw [List.length_dropLast]; omega) (fun s hs => hz s (List.dropLast_subset p hs))
    have c2 := hc (p.length - 1) _ (strs_get (by omega))
    rw [← lastP_getD] at c2
    have hsz := hz _ (last_mem hne)
    have hcp := h.cap
    have HC : Hid (w.cell? ⟨b, o + (p.length - 1), none⟩ = some (.string (lastP p))) := c2
    have h26 := fun w1 => clone_any (lastP p) w1 hsz
    clear hT hF hz hc h hsz hne c2
    generalize wkR F p.dropLast = y at h28 ⊢
    obtain ⟨⟨yn, yb⟩, er⟩ := y
    simp only at h28 ⊢
    have HA : ∀ w1, Keeps (fun _ => False) (w.alloc (.cells #[.slice (some ⟨b, o, none⟩) p.length cap, .bool sl] 25)) w1 → w1.cell? ⟨w.heap.size, 0, none⟩ = some (.slice (some ⟨b, o, none⟩) p.length cap) ∧ w1.cell? ⟨w.heap.size, 1, none⟩ = some (.bool sl) := fun w1 hk1 =>
      ⟨(cells2 (hk1.at hB0 id)).1, (cells2 (hk1.at hB0 id)).2.1⟩
    have HA : Hid _ := HA
    obtain ⟨q, hq⟩ : ∃ q, p.length = q + 1 := ⟨p.length - 1, by omega⟩
    rw [hq] at HA HC h28 hcp hn h27 hK0 ⊢
    simp only [Nat.add_sub_cancel] at HC h28
    have HK0 := Hid.mk' hK0
    have H28 := Hid.mk' h28
    have HQ := Hid.mk' hq
    have hcp2 : (q : Int) ≤ (cap : Int) := by omega
    clear hK0 h28 hB0 hq h1
    by_cases h0 : er = 0
    · subst h0
      rw [if_pos rfl]
      cases yb with
      | false =>
        go_enter Try.func22, Try.ntmps22
        go_wp2_with (first
          | (go_at_call 27; refine h27.mono ?_; clear h27; rintro e w1 ⟨rfl, hk1⟩
             obtain ⟨c0, c1⟩ := HA.out w1 hk1
             have HK1 := Hid.mk' hk1
             clear hk1)
          | (go_at_call 28; refine (H28.out _ HK1.out).mono ?_; rintro e w2 ⟨rfl, hk2⟩
             have HK2 : Hid (∀ o, Keeps (fun _ => False) w (w2.alloc o)) := fun o => ((HK0.out.trans HK1.out).trans hk2).alloc o
             clear hk2))
        go_ret3
        exact ⟨rfl, HK2.out _⟩
      | true =>
        go_enter Try.func22, Try.ntmps22
        go_wp2_with (first
          | (go_at_call 27; refine h27.mono ?_; clear h27; rintro e w1 ⟨rfl, hk1⟩
             obtain ⟨c0, c1⟩ := HA.out w1 hk1
             have HK1 := Hid.mk' hk1
             clear hk1)
          | (go_at_call 28; refine (H28.out _ HK1.out).mono ?_; rintro e w2 ⟨rfl, hk2⟩
             have HK2 : Hid (Keeps (fun _ => False) (w.alloc (.cells #[.slice (some ⟨b, o, none⟩) (q + 1) cap, .bool sl] 25)) w2) := HK1.out.trans hk2
             clear hk2))
        have hAl := (Keeps.refl (fun _ => False) w2).alloc (.cells #[.int .i64 yn, .bool true] 61)
        obtain ⟨y0, y1, _⟩ := cells2 (heap_last w2 (.cells #[.int .i64 yn, .bool true] 61))
        have y2 := (HA.out _ (HK2.out.trans hAl)).1
        have y3 := (HK0.out.trans (HK2.out.trans hAl)).cell HC.out id
        have HK3 := Hid.mk' (HK0.out.trans (HK2.out.trans hAl))
        clear hAl
        generalize w2.alloc (.cells #[.int .i64 yn, .bool true] 61) = W at y0 y1 y2 y3 HK3 ⊢
        have h26 : ∀ m, Calls Try.prog 26 #[.string (lastP p)] (W.drewN m) fun e w' => e = .returned (.string (lastP p)) ∧ Hid (Keeps (fun _ => False) w w') ∧ w'.cell? ⟨w2.heap.size, 0, none⟩ = some (.int .i64 yn) ∧ w'.cell? ⟨w.heap.size, 0, none⟩ = some (.slice (some ⟨b, o, none⟩) (q + 1) cap) ∧ w'.cell? ⟨b, o + q, none⟩ = some (.string (lastP p)) := by
          intro m
          refine (h26 (W.drewN m)).mono ?_
          rintro e w' ⟨rfl, hk⟩
          have hk := (Keeps.drewN (fun _ => False) W m).trans hk
          exact ⟨rfl, HK3.out.trans hk, hk.cell y0 id, hk.cell y2 id, hk.cell y3 id⟩
        have hq1 : (0 : Int) ≤ (q : Int) := by omega
        have hq3 : (q : Int) < (q : Int) + 1 := by omega
        clear HK3 HK2 HK1 HK0 HA HC H28 y1
        go_region_held3 (fun wx => wx.cell? ⟨w2.heap.size, 0, none⟩ = some (.int .i64 yn) ∧ wx.cell? ⟨w.heap.size, 0, none⟩ = some (.slice (some ⟨b, o, none⟩) (q + 1) cap) ∧ wx.cell? ⟨b, o + q, none⟩ = some (.string (lastP p)))
          (first | go_keep)
          (first
            | (go_at_call 26; refine (h26 _).mono ?_; rintro e w3 ⟨rfl, H3, z0, z1, z2⟩))
        all_goals
          go_wp2
          go_ret3
          exact ⟨rfl, H3.out⟩
    · rw [if_neg h0]
      have h0' : ¬ er = 0 := h0
      go_enter Try.func22, Try.ntmps22
      go_wp2_with (first
        | (go_at_call 27; refine h27.mono ?_; clear h27; rintro e w1 ⟨rfl, hk1⟩
           obtain ⟨c0, c1⟩ := HA.out w1 hk1
           have HK1 := Hid.mk' hk1
           clear hk1)
        | (go_at_call 28; refine (H28.out _ HK1.out).mono ?_; rintro e w2 ⟨rfl, hk2⟩
           have HK2 : Hid (∀ o, Keeps (fun _ => False) w (w2.alloc o)) := fun o => ((HK0.out.trans HK1.out).trans hk2).alloc o
           clear hk2))
      go_ret3
      exact ⟨rfl, HK2.out _⟩
  · rw [if_neg (by simp [hN])]
    rw [hN] at h27
    obtain ⟨a, cap, rfl, _⟩ := h
    clear hT hF hz hN
    go_enter Try.func22, Try.ntmps22
    go_wp2_with (first
      | (go_at_call 27; refine h27.mono ?_; clear h27; rintro e w1 ⟨rfl, hk1⟩))
    go_ret3
    exact ⟨rfl, hK0.trans hk1⟩
end Go.Proofs.Ytfekgfimbkgkfab
