import Derived.Test.YtfekgfimbkgkfabC4
namespace Go.Proofs.Ytfekgfimbkgkfab
open Go.RowKit Go.Maps

theorem method26 (v : Value) (w : World) : (method 217 26 v "Look").run Try.prog w = .ok (16, v) w := by kernel_rfl
theorem method69 (v : Value) (w : World) : (method 217 69 v "Look").run Try.prog w = .ok (71, v) w := by kernel_rfl
/-- What walk's loop holds. -/
def WkI (w W0 wr : World) (F : Dr) (p : List ByteArray) (k : Nat) (v : Value) : Prop :=
  ∃ a r, lead F (p.take k) = .ok a r ∧ WayAt wr (w.heap.size + 1) v a r ∧ Keeps (fun _ => False) W0 wr

set_option maxHeartbeats 4000000 in
set_option maxRecDepth 100000 in
theorem walk_any (w : World) (x bm n : Nat) (F : Dr) (hT : TabAt w x bm n F) (hF : wfF F) (v : Value) (p : List ByteArray) (h : Row w v p.length (strs p)) (hn : p.length < 8796093022000) (hz : ∀ s ∈ p, s.size ≤ 281474976710656) :
    Calls Try.prog 28 #[.iface 26 (.pointer (some ⟨x, 0, none⟩)), v] w fun e w' => e = .returned (.tuple #[.agg #[.int .i64 (wkR F p).1.1, .bool (wkR F p).1.2], .int .i64 (wkR F p).2]) ∧ Keeps (fun _ => False) w w' := by
  obtain ⟨i0, hi, hz0, hz1, hz2⟩ := info_parts info61
  have HR : Hid (Row w v p.length (strs p)) := h
  obtain ⟨ao, cap, rfl, _⟩ := h
  have HZ : Hid ((∀ s ∈ p, s.size ≤ 281474976710656) ∧ wfF F ∧ TabAt w x bm n F) := ⟨hz, hF, hT⟩
  have hK0 : Keeps (fun _ => False) w (w.alloc (.cells #[.int .i64 0, .bool false] 61)) := (Keeps.refl _ w).alloc _
  have hB0 := heap_last w (.cells #[.int .i64 0, .bool false] 61)
  have hS0 : (w.alloc (.cells #[.int .i64 0, .bool false] 61)).heap.size = w.heap.size + 1 := World.size_alloc ..
  clear hz hF hT
  go_enter Try.func28, Try.ntmps28
  go_wp2
  go_step3
  go_wp2
  go_step3
  go_wp2
  have HN : Hid (WkI w (w.alloc (.cells #[.int .i64 0, .bool false] 61)) ((w.alloc (.cells #[.int .i64 0, .bool false] 61)).alloc (.cells #[.int .i64 1, .bool true] 61)) F p 0 (.slice (some ⟨w.heap.size + 1, 0, none⟩) 1 1)) := by
    refine ⟨(1, true), [], rfl, ?_, (Keeps.refl _ _).alloc _⟩
    have := World.ownsRow_lit (base := w.heap.size + 1) (e := 61) (size := 2) (w.alloc (.cells #[.int .i64 0, .bool false] 61)) #[.int .i64 1, .bool true] 1 (by rw [hS0]; omega) (by unfold maxLen; omega) rfl
    rw [hS0] at this
    exact this
  have HKB : Hid (Keeps (fun _ => False) w (w.alloc (.cells #[.int .i64 0, .bool false] 61)) ∧ (w.alloc (.cells #[.int .i64 0, .bool false] 61)).heap[w.heap.size]? = some (.cells #[.int .i64 0, .bool false] 61)) := ⟨hK0, hB0⟩
  obtain ⟨W0, hW0⟩ : ∃ W0, W0 = w.alloc (.cells #[.int .i64 0, .bool false] 61) := ⟨_, rfl⟩
  have HS0 : Hid (W0.heap.size = w.heap.size + 1) := by show _ = _; rw [hW0]; exact hS0
  rw [← hW0] at HN HKB
  clear hK0 hB0 hS0
  go_loopw [6, 7, 17] (fun v7 e i wr => e = .int .i64 0 ∧ ∃ k : Nat, k ≤ p.length ∧ i = .int .i64 k ∧ Hid (WkI w W0 wr F p k v7)) (fun _ _ i _ => p.length - (intOf i).toNat)
  case atStart => exact ⟨rfl, 0, Nat.zero_le _, rfl, by rw [← hW0]; exact HN⟩
  case round =>
    obtain ⟨rfl, k, hk, rfl, HI⟩ := hrel
    clear hW0 HN
    obtain ⟨a, r, hl, hw, hkp⟩ := HI.out
    have hrl := lead_len hl
    rw [List.length_take] at hrl
    obtain ⟨g, gc, e6, hg, hgc, g0, g1⟩ := hw.shape
    subst e6
    have HL : Hid (lead F (p.take k) = .ok a r ∧ WayAt wr (w.heap.size + 1) (.slice (some ⟨g, 0, none⟩) (r.length + 1) gc) a r ∧ Keeps (fun _ => False) W0 wr ∧ w.heap.size + 1 ≤ g) := ⟨hl, hw, hkp, hg⟩
    have HKR : Hid (wr.heap[w.heap.size]? = some (.cells #[.int .i64 0, .bool false] 61 (0, 0))) := hkp.at HKB.out.2 id
    have HWF : Hid ((Lit.int .i64 a.1).wf = true) := lead_wf HZ.out.2.1 hl
    clear HI hl hw hkp hg
    obtain ⟨an, ab⟩ := a
    simp only at g0 g1
    by_cases h1 : k < p.length
    · obtain ⟨b, o, cap', e, hb, hc⟩ := HR.out.pos (by omega)
      cases e
      have h1' : (k : Int) < (p.length : Int) := by omega
      have c2 := (HKB.out.1.trans HL.out.2.2.1).cell (hc k _ (strs_get h1)) id
      have HS : Hid (lead F (p.take (k + 1)) = step1 F (an, ab) r (p.getD k bz)) := by
        show _ = _
        rw [take_getD bz h1, lead_snoc, HL.out.1]
      have hsz := HZ.out.1 _ (getD_mem bz h1)
      generalize p.getD k bz = s at c2 HS hsz
      have HM : Hid (s.size ≤ maxLen) := by show s.size ≤ maxLen; unfold maxLen; omega
      clear hc hsz
      have hA := (Keeps.refl (fun _ => False) wr).alloc (.cells #[.int .i64 an, .bool ab] 61)
      have HR2 : Hid ((wr.alloc (.cells #[.int .i64 an, .bool ab] 61)).heap[w.heap.size]? = some (.cells #[.int .i64 0, .bool false] 61 (0, 0))) := hA.at HKR.out id
      have HK2 : Hid (Keeps (fun _ => False) w (wr.alloc (.cells #[.int .i64 an, .bool ab] 61)) ∧ Keeps (fun _ => False) W0 (wr.alloc (.cells #[.int .i64 an, .bool ab] 61)) ∧ WayAt (wr.alloc (.cells #[.int .i64 an, .bool ab] 61)) (w.heap.size + 1) (.slice (some ⟨g, 0, none⟩) (r.length + 1) gc) (an, ab) r) := ⟨(HKB.out.1.trans HL.out.2.2.1).trans hA, HL.out.2.2.1.trans hA, own_grow HL.out.2.1 hA⟩
      clear hA
      cases ab with
      | false =>
        have eR : wkR F p = ((0, false), 144) := by
          have h2 : lead F p = .bad 144 := lead_bad_take (k := k + 1) (HS.out.trans (by simp [step1]))
          unfold wkR; rw [h2]
        obtain ⟨q0, q1, qf⟩ := cells2 HR2.out
        have f0 := qf 0
        have f1 := qf 1
        obtain ⟨d0, d1⟩ := set2c HR2.out (.int .i64 0) (.bool false)
        obtain ⟨_, s2⟩ := set2 HR2.out (.int .i64 0) (.bool false)
        have HE := Hid.mk' (HK2.out.1.then s2 (fun k hk => Or.inr (Nat.le_of_eq hk.symm)))
        clear qf s2
        go_wp2
        try rw [Exit.noGoto_ret]
        refine bodyPost_ret (v := .tuple #[.agg #[.int .i64 0, .bool false], .int .i64 144]) (by simp [results, Try.results28, go_sem, d0, d1]) rfl ?_
        exact ⟨by rw [eR], HE.out⟩
      | true =>
        rcases Bool.eq_false_or_eq_true (isDot s) with hD | hD
        · have hD' : s.toList = [46] := by simpa [isDot] using hD
          have HN : Hid (WkI w W0 (wr.alloc (.cells #[.int .i64 an, .bool true] 61)) F p (k + 1) (.slice (some ⟨g, 0, none⟩) (r.length + 1) gc)) :=
            ⟨(an, true), r, HS.out.trans (by simp [step1, hD]), HK2.out.2.2, HK2.out.2.1⟩
          clear hD
          go_wp2
          go_roundw
          case rel => exact ⟨rfl, k + 1, by omega, by go_num, HN⟩
          case measure => simp [intOf]; omega
        · have hD' : (s.toList == [46]) = false := hD
          rcases Bool.eq_false_or_eq_true (isUp s) with hU | hU
          · have hU' : s.toList = [46, 46] := by simpa [isUp] using hU
            cases r with
            | nil =>
              have HN : Hid (WkI w W0 (wr.alloc (.cells #[.int .i64 an, .bool true] 61)) F p (k + 1) (.slice (some ⟨g, 0, none⟩) 1 gc)) :=
                ⟨(an, true), [], HS.out.trans (by simp [step1, hD, hU]), HK2.out.2.2, HK2.out.2.1⟩
              clear hD hU
              simp only [List.length_nil, Nat.zero_add, Nat.zero_mul] at g0 g1 hgc
              have hgc' : (1 : Int) ≤ (gc : Int) := by omega
              go_wp2
              go_roundw
              case rel => exact ⟨rfl, k + 1, by omega, by go_num, HN⟩
              case measure => simp [intOf]; omega
            | cons bb r =>
              have HN : Hid (WkI w W0 (wr.alloc (.cells #[.int .i64 an, .bool true] 61)) F p (k + 1) (.slice (some ⟨g, 0, none⟩) (r.length + 1) gc)) :=
                ⟨bb, r, HS.out.trans (by simp [step1, hD, hU]), HK2.out.2.2.cut, HK2.out.2.1⟩
              clear hD hU
              simp only [List.length_cons] at g0 g1 hgc
              have hgc' : ((r.length : Int) + 1) ≤ (gc : Int) := by omega
              have hrl2 : r.length + 1 < 8796093022000 := by simp only [List.length_cons] at hrl; omega
              clear hrl
              go_wp2
              go_roundw
              case rel =>
                have e : (max ((r.length : Int) + 1) 1).toNat = r.length + 1 := by omega
                exact ⟨rfl, k + 1, by omega, by go_num, by rw [e]; exact HN⟩
              case measure => simp [intOf]; omega
          · have hU' : (s.toList == [46, 46]) = false := hU
            have HS2 : Hid (lead F (p.take (k + 1)) = if (F an s).1 < 1 then .bad 143 else .ok (F an s) ((an, true) :: r)) := HS.out.trans (by simp [step1, hD, hU])
            have h16 := look_any (wr.alloc (.cells #[.int .i64 an, .bool true] 61)) x bm n F (HZ.out.2.2.grow HK2.out.1) an s HWF.out HM.out
            clear hD hU
            have hmt := method26
            have e16 : ∀ args w, (callFunc 16 args).run Try.prog w = .ok (.enter 16 args) w := enters_of Try.func16 (by kernel_rfl) rfl
            generalize F an s = y at HS2 h16
            obtain ⟨yn, yb⟩ := y
            simp only at h16
            by_cases h3 : yn < 1
            · have eR : wkR F p = ((0, false), 143) := by
                have h2 : lead F p = .bad 143 := lead_bad_take (k := k + 1) (HS2.out.trans (by simp [h3]))
                unfold wkR; rw [h2]
              go_wp2_with (first
                | (go_at_call 16; refine h16.mono ?_; clear h16; rintro e w2 ⟨rfl, hk2⟩
                   have hR3 := hk2.at HR2.out id
                   obtain ⟨q0, q1, qf⟩ := cells2 hR3
                   have f0 := qf 0
                   have f1 := qf 1
                   obtain ⟨d0, d1⟩ := set2c hR3 (.int .i64 0) (.bool false)
                   obtain ⟨_, s2⟩ := set2 hR3 (.int .i64 0) (.bool false)
                   have HE := Hid.mk' ((HK2.out.1.trans hk2).then s2 (fun k hk => Or.inr (Nat.le_of_eq hk.symm)))
                   clear qf s2 hR3 hk2))
              try rw [Exit.noGoto_ret]
              refine bodyPost_ret (v := .tuple #[.agg #[.int .i64 0, .bool false], .int .i64 143]) (by simp [results, Try.results28, go_sem, d0, d1]) rfl ?_
              exact ⟨by rw [eR], HE.out⟩
            · have HS3 : Hid (lead F (p.take (k + 1)) = .ok (yn, yb) ((an, true) :: r)) := HS2.out.trans (by simp [h3])
              clear HS2
              go_wp2_with (first
                | (go_at_call 16; refine h16.mono ?_; clear h16; rintro e w2 ⟨rfl, hk2⟩
                   have HK3 : Hid (Keeps (fun _ => False) W0 w2 ∧ WayAt w2 (w.heap.size + 1) (.slice (some ⟨g, 0, none⟩) (r.length + 1) gc) (an, true) r ∧ w.heap.size + 1 ≤ w2.heap.size) := ⟨HK2.out.2.1.trans hk2, own_grow HK2.out.2.2 hk2, Nat.le_trans (by have := heap_lt HR2.out; omega) hk2.size⟩
                   clear hk2)
                | (at_builtin; go_must (refine wpList_append_own_at _ rfl _ _ 87 rfl (w.heap.size + 1) 61 i0 (.agg #[.int .i64 0, .bool false]) 2 16 Try.underlying87 hi hz0 hz1 hz2 rfl (by decide) _ (r.length + 1) (encells (wayL (an, true) r)) rfl (World.ownsRow.alloc HK3.out.2.1 _) ⟨w2.heap.size, 0, none⟩ 1 1 [.int .i64 yn, .bool yb] rfl rfl (World.news_of_block (heap_last _ _)) (by simp [Value.oneCell']) (by unfold maxLen; omega) (by omega) (by rw [World.size_alloc]; have := HK3.out.2.2; omega) ?_); intro v' w3 hown hgr _ _))
              go_roundw
              case rel =>
                refine ⟨rfl, k + 1, by omega, by go_num, (yn, yb), (an, true) :: r, HS3.out, ?_, ?_⟩
                · unfold WayAt
                  rw [wayL_push, encells_snoc]; exact hown
                · refine (HK3.out.1.alloc _).step hgr ?_
                  rintro k' hk'
                  have := HL.out.2.2.2
                  cases hk'
                  right
                  show W0.heap.size ≤ g
                  rw [HS0.out]; exact this
              case measure => simp [intOf]; omega
    · have h1' : ¬ (k : Int) < (p.length : Int) := by omega
      have eR : wkR F p = ((an, ab), 0) := by
        have := HL.out.1
        rw [List.take_of_length_le (by omega)] at this
        unfold wkR; rw [this]
      obtain ⟨q0, q1, qf⟩ := cells2 HKR.out
      have f0 := qf 0
      have f1 := qf 1
      obtain ⟨d0, d1⟩ := set2c HKR.out (.int .i64 an) (.bool ab)
      obtain ⟨_, s2⟩ := set2 HKR.out (.int .i64 an) (.bool ab)
      have HE : Hid (Keeps (fun _ => False) w ((wr.setCell ⟨w.heap.size, 0, none⟩ (.int .i64 an)).setCell ⟨w.heap.size, 1, none⟩ (.bool ab))) := (HKB.out.1.trans HL.out.2.2.1).then s2 (fun k hk => Or.inr (Nat.le_of_eq hk.symm))
      clear qf s2
      go_wp2
      try rw [Exit.noGoto_ret]
      refine bodyPost_ret (v := .tuple #[.agg #[.int .i64 an, .bool ab], .int .i64 0]) (by simp [results, Try.results28, go_sem, d0, d1]) rfl ?_
      exact ⟨by rw [eR], HE.out⟩
end Go.Proofs.Ytfekgfimbkgkfab
