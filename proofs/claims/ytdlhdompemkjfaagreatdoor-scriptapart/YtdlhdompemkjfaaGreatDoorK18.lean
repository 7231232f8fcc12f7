import Derived.Test.YtdlhdompemkjfaaGreatDoorK17
import Derived.Deep.Cut
import Derived.Deep.CutRange
namespace Go.Proofs.YtdlhdompemkjfaaGreatDoor
open Go.RowKit Go.Maps
set_option maxRecDepth 100000

theorem Row.tail2 {W : World} {g n c : Nat} {l : List Wd} (h : Row W (.slice (some ⟨g, 0, none⟩) n c) l.length (wcells l)) (hl : 1 ≤ l.length) : Row W (.slice (if c = 1 then some ⟨g, 0, none⟩ else some ⟨g, 2, none⟩) (n - 1) (c - 1)) (l.drop 1).length (wcells (l.drop 1)) := by
  have h1 := h.tail hl
  have hn : n = l.length := by obtain ⟨_, _, e, _⟩ := h; cases e; rfl
  have hc : n ≤ c := by obtain ⟨_, _, e, hc, _⟩ := h; cases e; exact hc
  split
  · rename_i hc1
    have h2 := h1.2 (by omega) 0 (c - 1)
    rw [show n - 1 = 0 by omega]
    exact h2
  · exact h1.1
theorem kd_args {ws : List Wd} {k : Kd} (h : kindOf ws = some k) : k.args.length ≤ 100 := by
  have hm : k ∈ kds := by
    cases ws with
    | nil => cases h
    | cons x xs =>
      have e : (if x.quoted = true then none else kdOf x.text) = some k := h
      split at e
      · cases e
      · exact List.mem_of_find?_eq_some e
  have : ∀ k ∈ kds, k.args.length ≤ 100 := by simp [kds]
  exact this k hm
theorem S_set {W : World} {g b : Nat} {cs : List Value} {ds : Array Value} (h : W.rangeAt g 0 cs) (hb : ¬ g = b) : (W.setRow b ds).rangeAt g 0 cs := by
  have k := Keeps.setRow (X := fun k => k = b) (Keeps.refl _ W) b ds (Or.inr rfl)
  exact fun j u hj => k.cell (h j u hj) hb
theorem WB.shape {w W : World} {v : Value} {l : List Wd} (h : WB w W v l) (hl : 1 ≤ l.length) : ∃ g cap, v = .slice (some ⟨g, 0, none⟩) l.length cap := by
  rcases h.1.2 with ⟨_, h0⟩ | ⟨g, cap, cur, rfl, _⟩
  · omega
  · exact ⟨g, cap, rfl⟩

set_option maxHeartbeats 8000000 in
theorem line_any (w : World) (hv : Vars w) (s : ByteArray) :
    Calls Tryz.prog 16 #[.string s] w fun e w' => ∃ v, e = .returned (.tuple #[.agg (scell (lnS s.data.toList) v), .int .i64 (lnE s.data.toList)]) ∧ Hid (w'.ownsRow w.heap.size 3 1 v (lnS s.data.toList).l.length (ints (lnS s.data.toList).l) ∧ Keeps (fun _ => False) w w') := by
  have HS := Hid.mk' (size_len s)
  have HKz := Hid.mk' ((Keeps.refl (fun _ => False) w).alloc (.cells #[.int .i64 0, .string ⟨#[]⟩, .string ⟨#[]⟩, .int .i64 0, .int .i64 0, .int .i64 0, .slice none 0 0] 24))
  have HBz := Hid.mk' (heap_last w (.cells #[.int .i64 0, .string ⟨#[]⟩, .string ⟨#[]⟩, .int .i64 0, .int .i64 0, .int .i64 0, .slice none 0 0] 24))
  by_cases hL : 20000 < s.size
  · have hL' : (20000 : Int) < (s.size : Int) := by omega
    have hE : lnE s.data.toList = 191 := by unfold lnE; rw [← HS.out, if_pos hL]
    have hS : lnS s.data.toList = st0 0 := by unfold lnS; rw [← HS.out, if_pos hL]
    go_enter Tryz.func16, Tryz.ntmps16
    have S0 := Hid.mk' True.intro
    go_wp2_with (first
      | (clear S0; refine wpList_store_row rfl 24 (.tmp 2) _ rfl w.heap.size #[.int .i64 0, .string ⟨#[]⟩, .string ⟨#[]⟩, .int .i64 0, .int .i64 0, .int .i64 0, .slice none 0 0] (by rfl) (by rfl) 24 #[.int .i64 0, .string ⟨#[]⟩, .string ⟨#[]⟩, .int .i64 0, .int .i64 0, .int .i64 0, .slice none 0 0] (HBz.out) size24 rfl (by simp [Value.oneCell']) ?_; have S1 := Hid.mk' True.intro))
    exact bodyPost_ret (results_cell_slot rfl _ _ w.heap.size 24 #[.int .i64 0, .string ⟨#[]⟩, .string ⟨#[]⟩, .int .i64 0, .int .i64 0, .int .i64 0, .slice none 0 0] (0, 0) _ rfl (setRow_heap _ _ _ _ _ _ (HBz.out)) Tryz.underlying24 rfl size24) rfl ⟨.slice none 0 0, by rw [hE, hS]; rfl, by rw [hS]; exact ⟨World.ownsRow_nil _ _ _ _, (HKz.out).setRow _ _ (Or.inl (Nat.le_refl _))⟩⟩
  · have hL' : ¬ (20000 : Int) < (s.size : Int) := by omega
    have hL2 : ¬ 20000 < s.data.toList.length := by rw [← HS.out]; exact hL
    cases hws : wds [] s.data.toList with
    | none =>
      have hE : lnE s.data.toList = 194 := by unfold lnE; rw [if_neg hL2, hws]
      have hS : lnS s.data.toList = st0 0 := by unfold lnS; rw [if_neg hL2, hws]
      go_enter Tryz.func16, Tryz.ntmps16
      have S0 := Hid.mk' True.intro
      go_wp2_with (first
        | (clear S0; go_at_call 30; refine (wordsOf_any _ s (by omega)).mono ?_; rintro e w1 ⟨v, rfl, h1⟩; rw [hws] at h1 ⊢; have H1 := Hid.mk' h1; clear h1; have HG := Hid.mk' (H1.out.2.at HBz.out id); have S1 := Hid.mk' True.intro)
        | (clear S1; refine wpList_store_row rfl 24 (.tmp 2) _ rfl w.heap.size #[.int .i64 0, .string ⟨#[]⟩, .string ⟨#[]⟩, .int .i64 0, .int .i64 0, .int .i64 0, .slice none 0 0] (by rfl) (by rfl) 24 #[.int .i64 0, .string ⟨#[]⟩, .string ⟨#[]⟩, .int .i64 0, .int .i64 0, .int .i64 0, .slice none 0 0] (HG.out) size24 rfl (by simp [Value.oneCell']) ?_; have S2 := Hid.mk' True.intro))
      exact bodyPost_ret (results_cell_slot rfl _ _ w.heap.size 24 #[.int .i64 0, .string ⟨#[]⟩, .string ⟨#[]⟩, .int .i64 0, .int .i64 0, .int .i64 0, .slice none 0 0] (0, 0) _ rfl (setRow_heap _ _ _ _ _ _ (HG.out)) Tryz.underlying24 rfl size24) rfl ⟨.slice none 0 0, by rw [hE, hS]; rfl, by rw [hS]; exact ⟨World.ownsRow_nil _ _ _ _, (HKz.out.trans H1.out.2).setRow _ _ (Or.inl (Nat.le_refl _))⟩⟩
    | some ws =>
      have htx := wds_texts _ _ [] 20000 (Nat.le_refl _) (by omega) (fun x hx => by cases hx) ws hws
      rw [List.length_nil, Nat.zero_add, ← HS.out] at htx
      have HWL : Hid (ws.length ≤ 1000000) := by show _ ≤ _; omega
      cases hkd : kindOf ws with
      | none =>
        have hE : lnE s.data.toList = 190 := by unfold lnE; rw [if_neg hL2, hws]; simp only; rw [hkd]
        have hS : lnS s.data.toList = st0 0 := by unfold lnS; rw [if_neg hL2, hws]; simp only; rw [hkd]
        go_enter Tryz.func16, Tryz.ntmps16
        have S0 := Hid.mk' True.intro
        go_wp2_with (first
          | (clear S0; go_at_call 30; refine (wordsOf_any _ s (by omega)).mono ?_; rintro e w1 ⟨v, rfl, h1⟩; rw [hws] at h1 ⊢; have H1 := Hid.mk' h1; clear h1; have HROW := Hid.mk' (Row.of_own H1.out.1); have S1 := Hid.mk' True.intro)
          | (clear S1; go_at_call 31; refine (kindOf_any w1 _ ws HROW.out HWL.out).mono ?_; rintro e w2 ⟨n, q, pa, la, ca, rfl, h2⟩; rw [hkd] at h2 ⊢; have H2 := Hid.mk' h2; clear h2; have HKK := Hid.mk' ((Keeps.refl (fun _ => False) w2).alloc (.cells (kcell n q (.slice pa la ca)) 63)); have HG := Hid.mk' (HKK.out.at (H2.out.1.at (H1.out.2.at HBz.out id) id) id); have S2 := Hid.mk' True.intro)
          | (clear S2; refine wpList_alloc_kd rfl rfl ?_; have S3 := Hid.mk' True.intro)
          | (clear S3; refine wpList_store_kd rfl _ _ rfl n q pa la ca (by rfl) (by rfl) ?_; have S4 := Hid.mk' True.intro)
          | (clear S4; refine wpList_store_row rfl 24 (.tmp 2) _ rfl w.heap.size #[.int .i64 0, .string ⟨#[]⟩, .string ⟨#[]⟩, .int .i64 0, .int .i64 0, .int .i64 0, .slice none 0 0] (by rfl) (by rfl) 24 #[.int .i64 0, .string ⟨#[]⟩, .string ⟨#[]⟩, .int .i64 0, .int .i64 0, .int .i64 0, .slice none 0 0] (HG.out) size24 rfl (by simp [Value.oneCell']) ?_; have S5 := Hid.mk' True.intro))
        exact bodyPost_ret (results_cell_slot rfl _ _ w.heap.size 24 #[.int .i64 0, .string ⟨#[]⟩, .string ⟨#[]⟩, .int .i64 0, .int .i64 0, .int .i64 0, .slice none 0 0] (0, 0) _ rfl (setRow_heap _ _ _ _ _ _ (HG.out)) Tryz.underlying24 rfl size24) rfl ⟨.slice none 0 0, by rw [hE, hS]; rfl, by rw [hS]; exact ⟨World.ownsRow_nil _ _ _ _, (((HKz.out.trans H1.out.2).trans H2.out.1).trans HKK.out).setRow _ _ (Or.inl (Nat.le_refl _))⟩⟩
      | some k =>
        have hne : 1 ≤ ws.length := by
          cases ws with
          | nil => cases hkd
          | cons _ _ => simp
        go_enter Tryz.func16, Tryz.ntmps16
        have S0 := Hid.mk' True.intro
        go_wp2_with (first
          | (clear S0; go_at_call 30; refine (wordsOf_any _ s (by omega)).mono ?_; rintro e w1 ⟨v, rfl, h1⟩; rw [hws] at h1 ⊢; have H1 := Hid.mk' h1; clear h1; obtain ⟨g, cap, hve⟩ := H1.out.shape hne; subst hve; have HROW := Hid.mk' (Row.of_own H1.out.1); have S1 := Hid.mk' True.intro)
          | (clear S1; go_at_call 31; refine (kindOf_any w1 _ ws HROW.out HWL.out).mono ?_; rintro e w2 ⟨n, q, pa, la, ca, rfl, h2⟩; rw [hkd] at h2 ⊢; have H2 := Hid.mk' h2; clear h2; have HKK := Hid.mk' ((Keeps.refl (fun _ => False) w2).alloc (.cells (kcell n q (.slice pa la ca)) 63)); have HG := Hid.mk' (HKK.out.at (H2.out.1.at (H1.out.2.at HBz.out id) id) id); have S2 := Hid.mk' True.intro)
          | (clear S2; refine wpList_alloc_kd rfl rfl ?_; have S3 := Hid.mk' True.intro)
          | (clear S3; refine wpList_store_kd rfl _ _ rfl n q pa la ca (by rfl) (by rfl) ?_; have S4 := Hid.mk' True.intro))
        have hcapn : ws.length ≤ cap := HROW.out.cap
        have HR0 := Hid.mk' (rangeAt_block (heap_last w2 (.cells (kcell n q (.slice pa la ca)) 63)) (kcell n q (.slice pa la ca)))
        have hne' : ¬ (ws.length : Int) < 1 := by omega
        have HTL := Hid.mk' (HROW.out.tail2 hne)
        generalize hVT : (if cap = 1 then some (⟨g, 0, none⟩ : Addr) else some ⟨g, 2, none⟩) = VT at HTL
        have hn1 : ((ws.length : Int) - 1) = ((ws.length - 1 : Nat) : Int) := by omega
        have hc1 : ((cap : Int) - 1) = ((cap - 1 : Nat) : Int) := by omega
        obtain ⟨rfl, rfl, hka⟩ := H2.out.2 k rfl
        have HKD : Hid (Keeps (fun _ => False) w2 (w2.alloc (.cells (kcell k.num k.word (.slice pa la ca)) 63)).drew) := HKK.out.trans (Keeps.drewN _ _ 1)
        have h18 := takes_any ((w2.alloc (.cells (kcell k.num k.word (.slice pa la ca)) 63)).drew) k.num k.word (.slice pa la ca) k.args (hka.keep HKD.out) (kd_args hkd) (.slice VT (ws.length - 1) (cap - 1)) (ws.drop 1) ((HTL.out.keep H2.out.1).keep HKD.out) (by rw [List.length_drop]; omega)
        have HKA := Hid.mk' hka
        clear hka
        refine wp_region_held_drew (S := fun wx => wx.rangeAt w2.heap.size 0 (kcell k.num k.word (.slice pa la ca)).toList) (by kernel_rfl) HR0.out (fun hS => ?_)
        refine takeH 0 (some 28) (.agg (kcell k.num k.word (.slice pa la ca))) rfl rfl (by kernel_rfl) (by kernel_rfl) (by kernel_rfl) (fun _ _ _ h => h) (yieldsIf_load_mid (by rfl) 63 (.tmp 6) rfl w2.heap.size 0 (by rfl) (kcell k.num k.word (.slice pa la ca)).toList _ (fun _ h => h) Tryz.underlying63 rfl size63) hS ?_
        simp only [Act.put, List.setIfInBounds_toArray, List.set_cons_zero, List.set_cons_succ]
        refine takeH 1 (some 29) (.slice (some ⟨g, 0, none⟩) ws.length cap) rfl rfl (by kernel_rfl) (by kernel_rfl) (by kernel_rfl) (fun _ _ _ h => h) (Or.inl ⟨by rfl, fun wx _ => by go_simp⟩) hS ?_
        simp only [Act.put, List.setIfInBounds_toArray, List.set_cons_zero, List.set_cons_succ]
        refine takeH 2 (some 30) (.slice VT (ws.length - 1) (cap - 1)) rfl rfl (by kernel_rfl) (by kernel_rfl) (by kernel_rfl) (fun _ _ _ h => h) (Or.inl ⟨by rfl, fun wx _ => by rw [← hVT]; go_simp⟩) hS ?_
        simp only [Act.put, List.setIfInBounds_toArray, List.set_cons_zero, List.set_cons_succ]
        refine wpAnyH_ready (rs := [3]) (by kernel_rfl) (by simp) (AllReadyH.cons rfl (fun K hK => ?_) AllReadyH.nil)
        go_simp
        go_at_call 32
        refine h18.mono ?_
        clear h18
        rintro e w4 ⟨rfl, hk4⟩
        have HK4 := Hid.mk' hk4
        refine hK.out _ _ (fun j u hj => hk4.cell (hS j u hj) id) (fun hS => ?_)
        clear hK hk4
        try simp only [Act.put, List.setIfInBounds_toArray, List.set_cons_zero, List.set_cons_succ]
        refine takeH 4 (some 32) (.bool (!takesF k.args (ws.drop 1))) rfl rfl (by kernel_rfl) (by kernel_rfl) (by kernel_rfl) (fun _ _ _ h => h) (Or.inl ⟨by rfl, fun wx _ => by go_simp⟩) hS ?_
        simp only [Act.put, List.setIfInBounds_toArray, List.set_cons_zero, List.set_cons_succ]
        refine wpAnyH_done (by kernel_rfl) ?_ _
        have HKW4 := Hid.mk' ((((HKz.out.trans H1.out.2).trans H2.out.1).trans HKD.out).trans HK4.out)
        cases htk : takesF k.args (ws.drop 1) with
        | false =>
          have hE : lnE s.data.toList = 192 := by unfold lnE; rw [if_neg hL2, hws]; simp only; rw [hkd]; simp only; rw [htk]; rfl
          have hS2 : lnS s.data.toList = st0 0 := by unfold lnS; rw [if_neg hL2, hws]; simp only; rw [hkd]; simp only; rw [htk]; rfl
          have HG4 := Hid.mk' (HK4.out.at (((Keeps.drewN (fun _ => False) _ 1)).at HG.out id) id)
          have S5 := Hid.mk' True.intro
          go_wp2_with (first
            | (clear S5; refine wpList_store_row rfl 24 (.tmp 2) _ rfl w.heap.size #[.int .i64 0, .string ⟨#[]⟩, .string ⟨#[]⟩, .int .i64 0, .int .i64 0, .int .i64 0, .slice none 0 0] (by rfl) (by rfl) 24 #[.int .i64 0, .string ⟨#[]⟩, .string ⟨#[]⟩, .int .i64 0, .int .i64 0, .int .i64 0, .slice none 0 0] (HG4.out) size24 rfl (by simp [Value.oneCell']) ?_; have S6 := Hid.mk' True.intro))
          exact bodyPost_ret (results_cell_slot rfl _ _ w.heap.size 24 #[.int .i64 0, .string ⟨#[]⟩, .string ⟨#[]⟩, .int .i64 0, .int .i64 0, .int .i64 0, .slice none 0 0] (0, 0) _ rfl (setRow_heap _ _ _ _ _ _ HG4.out) Tryz.underlying24 rfl size24) rfl ⟨.slice none 0 0, rfl, World.ownsRow_nil _ _ _ _, (HKW4.out).setRow _ _ (Or.inl (Nat.le_refl _))⟩
        | true =>
          have hvv := hv.keep HKW4.out
          have HTX := Hid.mk' htx.1
          have HKT := Hid.mk' (HKD.out.trans HK4.out)
          have h19 := fun (W : World) (kk : Keeps (fun _ => False) w4 W) => step_any W (hvv.keep kk) k.num k.word (.slice pa la ca) k.args ((HKA.out.keep HKT.out).keep kk) (kd_args hkd) (.slice VT (ws.length - 1) (cap - 1)) (ws.drop 1) (((HTL.out.keep H2.out.1).keep HKT.out).keep kk) (by rw [List.length_drop]; omega) (fun x hx => by have := HTX.out x (List.mem_of_mem_drop hx); omega)
          have hE : lnE s.data.toList = if (stF k.args 0 (st0 k.num) (ws.drop 1)).isSome = true then 0 else 193 := by
            unfold lnE; rw [if_neg hL2, hws]; simp only; rw [hkd]; simp only; rw [if_pos htk]
            cases stF k.args 0 (st0 k.num) (ws.drop 1) <;> rfl
          have hSS : lnS s.data.toList = (stF k.args 0 (st0 k.num) (ws.drop 1)).getD (st0 0) := by
            unfold lnS; rw [if_neg hL2, hws]; simp only; rw [hkd]; simp only; rw [if_pos htk]
          have HZ : Hid ((stF k.args 0 (st0 k.num) (ws.drop 1)).isSome = false → (stF k.args 0 (st0 k.num) (ws.drop 1)).getD (st0 0) = st0 0) := by
            intro h; cases hh : stF k.args 0 (st0 k.num) (ws.drop 1) with
            | none => rfl
            | some _ => rw [hh] at h; cases h
          generalize (stF k.args 0 (st0 k.num) (ws.drop 1)).getD (st0 0) = ST at *
          generalize (stF k.args 0 (st0 k.num) (ws.drop 1)).isSome = OK at *
          have HG4 := Hid.mk' (HK4.out.at (((Keeps.drewN (fun _ => False) _ 1)).at HG.out id) id)
          have HS4 := Hid.mk' hS
          have HW2 := Hid.mk' (((Keeps.drewN (fun _ => False) w4 1)).at (HK4.out.at ((Keeps.drewN (fun _ => False) _ 1).at (heap_last w2 (.cells (kcell k.num k.word (.slice pa la ca)) 63)) id) id) id)
          have HW2b := Hid.mk' (HK4.out.at ((Keeps.drewN (fun _ => False) _ 1).at (heap_last w2 (.cells (kcell k.num k.word (.slice pa la ca)) 63)) id) id)
          have hW4 := HKW4.out.size
          have hdr : (w4.drewN 1).heap.size = w4.heap.size := rfl
          have hW4s := heap_lt HG4.out
          have hW24 := heap_lt HW2b.out
          have HE := Hid.mk' hE
          have HSS := Hid.mk' hSS
          clear hE hSS hvv hS htk
          go_wp2
          go_cut [5, 7] from 34 to 40 (fun v5 v7 wx => ∃ (b : Nat) (v2 : Value), v7 = .pointer (some ⟨b, 0, none⟩) ∧ v5 = .bool OK ∧ Hid (wx.heap[b]? = some (.cells (scell ST v2) 24 (0, 0)) ∧ wx.ownsRow w.heap.size 3 1 v2 ST.l.length (ints ST.l) ∧ Keeps (fun _ => False) w wx ∧ wx.heap[w.heap.size]? = some (.cells #[.int .i64 0, .string ⟨#[]⟩, .string ⟨#[]⟩, .int .i64 0, .int .i64 0, .int .i64 0, .slice none 0 0] 24 (0, 0))))
          case first =>
            refine wp_region_held_drew (S := fun wx => wx.rangeAt w2.heap.size 0 (kcell k.num k.word (.slice pa la ca)).toList) (by kernel_rfl) HS4.out (fun hS => ?_)
            refine takeH 0 (some 35) (.agg (kcell k.num k.word (.slice pa la ca))) rfl rfl (by kernel_rfl) (by kernel_rfl) (by kernel_rfl) (fun _ _ _ h => h) (yieldsIf_load_mid (by rfl) 63 (.tmp 6) rfl w2.heap.size 0 (by rfl) (kcell k.num k.word (.slice pa la ca)).toList _ (fun _ h => h) Tryz.underlying63 rfl size63) hS ?_
            try simp only [Act.put, List.setIfInBounds_toArray, List.set_cons_zero, List.set_cons_succ]
            refine takeH 1 (some 36) (.slice (some ⟨g, 0, none⟩) ws.length cap) rfl rfl (by kernel_rfl) (by kernel_rfl) (by kernel_rfl) (fun _ _ _ h => h) (Or.inl ⟨by rfl, fun wx _ => by go_simp⟩) hS ?_
            try simp only [Act.put, List.setIfInBounds_toArray, List.set_cons_zero, List.set_cons_succ]
            refine takeH 2 (some 37) (.slice VT (ws.length - 1) (cap - 1)) rfl rfl (by kernel_rfl) (by kernel_rfl) (by kernel_rfl) (fun _ _ _ h => h) (Or.inl ⟨by rfl, fun wx _ => by rw [← hVT]; go_simp⟩) hS ?_
            try simp only [Act.put, List.setIfInBounds_toArray, List.set_cons_zero, List.set_cons_succ]
            refine wpAnyH_ready (rs := [3, 7]) (by kernel_rfl) (by simp) (AllReadyH.cons rfl (fun K hK => ?_) (AllReadyH.cons rfl (fun K hK => ?_) AllReadyH.nil))
            · go_simp
              go_at_call 33
              refine (h19 _ (Keeps.drewN _ w4 1)).mono ?_
              rintro e w5 ⟨v2, rfl, h5⟩
              obtain ⟨va, vc, hve, _⟩ := Row.of_own h5.1
              subst hve
              have H5 := Hid.mk' h5
              refine hK.out _ _ (fun j u hj => h5.2.cell (hS j u hj) id) (fun hS => ?_)
              clear hK h5
              try simp only [Act.put, List.setIfInBounds_toArray, List.set_cons_zero, List.set_cons_succ]
              refine takeH 4 (some 34) (.tuple #[.agg (scell ST (.slice va ST.l.length vc)), .bool OK]) rfl rfl (by kernel_rfl) (by kernel_rfl) (by kernel_rfl) (fun _ _ _ h => h) (Or.inl ⟨by rfl, fun wx _ => by go_simp⟩) hS ?_
              try simp only [Act.put, List.setIfInBounds_toArray, List.set_cons_zero, List.set_cons_succ]
              refine takeH 5 (some 39) (.agg (scell ST (.slice va ST.l.length vc))) rfl rfl (by kernel_rfl) (by kernel_rfl) (by kernel_rfl) (fun _ _ _ h => h) (Or.inl ⟨by rfl, fun wx _ => by go_simp⟩) hS ?_
              try simp only [Act.put, List.setIfInBounds_toArray, List.set_cons_zero, List.set_cons_succ]
              refine takeH 6 (some 40) (.bool OK) rfl rfl (by kernel_rfl) (by kernel_rfl) (by kernel_rfl) (fun _ _ _ h => h) (Or.inl ⟨by rfl, fun wx _ => by go_simp⟩) hS ?_
              try simp only [Act.put, List.setIfInBounds_toArray, List.set_cons_zero, List.set_cons_succ]
              refine wpAnyH_ready (rs := [7]) (by kernel_rfl) (by simp) (AllReadyH.cons rfl (fun K hK => ?_) AllReadyH.nil)
              go_simp
              refine hK.out _ _ (fun j u hj => ((Keeps.refl (fun _ => False) w5).alloc _).cell (hS j u hj) id) (fun hS => ?_)
              clear hK
              try simp only [Act.put, List.setIfInBounds_toArray, List.set_cons_zero, List.set_cons_succ]
              have HS4b := Hid.mk' (H5.out.2.at (HW2.out) id)
              refine wpAnyH_ready (rs := [8]) (by kernel_rfl) (by simp) (AllReadyH.cons rfl (fun K hK => ?_) AllReadyH.nil)
              rw [if_pos (by rfl)]
              refine wp_store_row 24 (.tmp 7) (.tmp 39) rfl w5.heap.size (scell ST (.slice va ST.l.length vc)) (by rfl) (by rfl) 24 #[.int .i64 0, .string ⟨#[]⟩, .string ⟨#[]⟩, .int .i64 0, .int .i64 0, .int .i64 0, .slice none 0 0] (heap_last w5 _) size24 rfl (by simp [scell, Value.oneCell']) ?_
              refine hK.out _ _ (S_set hS (by have := heap_lt HS4b.out; omega)) (fun hS => ?_)
              clear hK
              try simp only [Act.put, List.setIfInBounds_toArray]
              refine takeH 9 (some 5) (.bool OK) rfl rfl (by kernel_rfl) (by kernel_rfl) (by kernel_rfl) (fun _ _ _ h => h) (Or.inl ⟨by rfl, fun wx _ => by go_simp⟩) hS ?_
              try simp only [Act.put]
              refine wpAnyH_done (by kernel_rfl) ?_ _
              go_wp2
              go_meet
              case rel => exact ⟨w5.heap.size, _, rfl, rfl, setRow_heap _ _ _ _ _ _ (heap_last w5 _), own_base (own_keep (H5.out.1.alloc _) (Keeps.setRow (X := fun q => q = w5.heap.size) (Keeps.refl _ _) _ _ (Or.inr rfl)) (fun g hg e => by have := (H5.out.1.lt g hg).2; omega)) (by omega), ((((HKW4.out.trans (Keeps.drewN _ w4 1)).trans H5.out.2).alloc _).setRow _ _ (Or.inl (by have := H5.out.2.size; omega))), ((Keeps.setRow (X := fun q => q = w5.heap.size) (Keeps.refl _ (w5.alloc (.cells #[.int .i64 0, .string ⟨#[]⟩, .string ⟨#[]⟩, .int .i64 0, .int .i64 0, .int .i64 0, .slice none 0 0] 24))) _ _ (Or.inr rfl)).at ((((Keeps.drewN (fun _ => False) w4 1).trans H5.out.2).alloc _).at HG4.out id) (by have := H5.out.2.size; omega))⟩
            · go_simp
              have hA3 : Keeps (fun _ => False) w4 ((w4.drew).alloc (.cells #[.int .i64 0, .string ⟨#[]⟩, .string ⟨#[]⟩, .int .i64 0, .int .i64 0, .int .i64 0, .slice none 0 0] 24)) := (Keeps.drewN _ w4 1).alloc _
              refine hK.out _ _ (fun j u hj => ((Keeps.refl (fun _ => False) w4.drew).alloc _).cell (hS j u hj) id) (fun hS => ?_)
              clear hK
              try simp only [Act.put, List.setIfInBounds_toArray, List.set_cons_zero, List.set_cons_succ]
              refine wpAnyH_ready (rs := [3]) (by kernel_rfl) (by simp) (AllReadyH.cons rfl (fun K hK => ?_) AllReadyH.nil)
              go_simp
              go_at_call 33
              refine (h19 _ (hA3)).mono ?_
              rintro e w5 ⟨v2, rfl, h5⟩
              obtain ⟨va, vc, hve, _⟩ := Row.of_own h5.1
              subst hve
              have H5 := Hid.mk' h5
              refine hK.out _ _ (fun j u hj => h5.2.cell (hS j u hj) id) (fun hS => ?_)
              clear hK h5
              try simp only [Act.put, List.setIfInBounds_toArray, List.set_cons_zero, List.set_cons_succ]
              refine takeH 4 (some 34) (.tuple #[.agg (scell ST (.slice va ST.l.length vc)), .bool OK]) rfl rfl (by kernel_rfl) (by kernel_rfl) (by kernel_rfl) (fun _ _ _ h => h) (Or.inl ⟨by rfl, fun wx _ => by go_simp⟩) hS ?_
              try simp only [Act.put, List.setIfInBounds_toArray, List.set_cons_zero, List.set_cons_succ]
              refine takeH 5 (some 39) (.agg (scell ST (.slice va ST.l.length vc))) rfl rfl (by kernel_rfl) (by kernel_rfl) (by kernel_rfl) (fun _ _ _ h => h) (Or.inl ⟨by rfl, fun wx _ => by go_simp⟩) hS ?_
              try simp only [Act.put, List.setIfInBounds_toArray, List.set_cons_zero, List.set_cons_succ]
              refine takeH 6 (some 40) (.bool OK) rfl rfl (by kernel_rfl) (by kernel_rfl) (by kernel_rfl) (fun _ _ _ h => h) (Or.inl ⟨by rfl, fun wx _ => by go_simp⟩) hS ?_
              try simp only [Act.put, List.setIfInBounds_toArray, List.set_cons_zero, List.set_cons_succ]
              have HS4b := Hid.mk' (H5.out.2.at (hA3.at HW2b.out id) id)
              refine wpAnyH_ready (rs := [8]) (by kernel_rfl) (by simp) (AllReadyH.cons rfl (fun K hK => ?_) AllReadyH.nil)
              rw [if_pos (by rfl)]
              refine wp_store_row 24 (.tmp 7) (.tmp 39) rfl w4.heap.size (scell ST (.slice va ST.l.length vc)) (by rfl) (by rfl) 24 #[.int .i64 0, .string ⟨#[]⟩, .string ⟨#[]⟩, .int .i64 0, .int .i64 0, .int .i64 0, .slice none 0 0] (H5.out.2.at (heap_last w4.drew _) id) size24 rfl (by simp [scell, Value.oneCell']) ?_
              refine hK.out _ _ (S_set hS (by have := heap_lt HS4b.out; omega)) (fun hS => ?_)
              clear hK
              try simp only [Act.put, List.setIfInBounds_toArray]
              refine takeH 9 (some 5) (.bool OK) rfl rfl (by kernel_rfl) (by kernel_rfl) (by kernel_rfl) (fun _ _ _ h => h) (Or.inl ⟨by rfl, fun wx _ => by go_simp⟩) hS ?_
              try simp only [Act.put]
              refine wpAnyH_done (by kernel_rfl) ?_ _
              go_wp2
              go_meet
              case rel => exact ⟨w4.heap.size, _, rfl, rfl, setRow_heap _ _ _ _ _ _ (H5.out.2.at (heap_last w4.drew _) id), own_base (own_keep H5.out.1 (Keeps.setRow (X := fun q => q = w4.heap.size) (Keeps.refl _ _) _ _ (Or.inr rfl)) (fun g hg e => by have h9 := (H5.out.1.lt g hg).1; rw [World.size_alloc] at h9; have : w4.drew.heap.size = w4.heap.size := rfl; omega)) (by rw [World.size_alloc]; have : w4.drew.heap.size = w4.heap.size := rfl; omega), (((HKW4.out.trans hA3).trans H5.out.2).setRow _ _ (Or.inl hW4)), ((Keeps.setRow (X := fun q => q = w4.heap.size) (Keeps.refl _ w5) _ _ (Or.inr rfl)).at ((hA3.trans H5.out.2).at HG4.out id) (by have := heap_lt HBz.out; have := (H1.out.2.size); omega))⟩
          case rest =>
            obtain ⟨b, v2, rfl, rfl, HC⟩ := hcut
            obtain ⟨va, vc, hve, _⟩ := Row.of_own HC.out.2.1
            subst hve
            cases OK with
            | false =>
              have HZZ := Hid.mk' (HZ.out rfl)
              have S5 := Hid.mk' True.intro
              go_wp2_with (first
                | (clear S5; refine wpList_store_row rfl 24 (.tmp 2) _ rfl w.heap.size #[.int .i64 0, .string ⟨#[]⟩, .string ⟨#[]⟩, .int .i64 0, .int .i64 0, .int .i64 0, .slice none 0 0] (by rfl) (by rfl) 24 #[.int .i64 0, .string ⟨#[]⟩, .string ⟨#[]⟩, .int .i64 0, .int .i64 0, .int .i64 0, .slice none 0 0] (HC.out.2.2.2) size24 rfl (by simp [Value.oneCell']) ?_; have S6 := Hid.mk' True.intro))
              exact bodyPost_ret (results_cell_slot rfl _ _ w.heap.size 24 #[.int .i64 0, .string ⟨#[]⟩, .string ⟨#[]⟩, .int .i64 0, .int .i64 0, .int .i64 0, .slice none 0 0] (0, 0) _ rfl (setRow_heap _ _ _ _ _ _ HC.out.2.2.2) Tryz.underlying24 rfl size24) rfl ⟨.slice none 0 0, by rw [HE.out, HSS.out, HZZ.out]; rfl, by rw [HSS.out, HZZ.out]; exact ⟨World.ownsRow_nil _ _ _ _, HC.out.2.2.1.setRow _ _ (Or.inl (Nat.le_refl _))⟩⟩
            | true =>
              have S5 := Hid.mk' True.intro
              go_wp2_with (first
                | (clear S5; refine wpList_load_row rfl 24 (.tmp 7) rfl b (by rfl) 24 (scell ST (.slice va ST.l.length vc)) (0, 0) _ HC.out.1 Tryz.underlying24 rfl size24 ?_; have S6 := Hid.mk' True.intro)
                | (clear S6; refine wpList_store_row rfl 24 (.tmp 2) _ rfl w.heap.size (scell ST (.slice va ST.l.length vc)) (by rfl) (by rfl) 24 #[.int .i64 0, .string ⟨#[]⟩, .string ⟨#[]⟩, .int .i64 0, .int .i64 0, .int .i64 0, .slice none 0 0] HC.out.2.2.2 size24 rfl (by simp [scell, Value.oneCell']) ?_; have S7 := Hid.mk' True.intro))
              exact bodyPost_ret (results_cell_slot rfl _ _ w.heap.size 24 (scell ST (.slice va ST.l.length vc)) (0, 0) _ rfl (setRow_heap _ _ _ _ _ _ HC.out.2.2.2) Tryz.underlying24 rfl size24) rfl ⟨.slice va ST.l.length vc, by rw [HE.out, HSS.out]; rfl, by rw [HSS.out]; exact ⟨own_keep HC.out.2.1 (Keeps.setRow (X := fun q => q = w.heap.size) (Keeps.refl _ wc) _ _ (Or.inr rfl)) (row_ne HC.out.2.2.2 HC.out.2.1), HC.out.2.2.1.setRow _ _ (Or.inl (Nat.le_refl _))⟩⟩
end Go.Proofs.YtdlhdompemkjfaaGreatDoor
