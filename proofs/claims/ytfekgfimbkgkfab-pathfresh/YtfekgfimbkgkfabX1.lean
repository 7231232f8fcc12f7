import Derived.Test.YtfekgfimbkgkfabS6
import Derived.Test.YtfekgfimbkgkfabS7
import Derived.Test.YtfekgfimbkgkfabS8
import Derived.Test.YtfekgfimbkgkfabR2
namespace Go.Proofs.Ytfekgfimbkgkfab
open Go.RowKit Go.Maps

theorem cells5 {w : World} {R : Nat} {a b c d e : Value} {t : TypeId} (h : w.heap[R]? = some (.cells #[a, b, c, d, e] t (0, 0))) :
    w.cell? ⟨R, 0, none⟩ = some a ∧ w.cell? ⟨R, 1, none⟩ = some b ∧ w.cell? ⟨R, 2, none⟩ = some c ∧ w.cell? ⟨R, 3, none⟩ = some d ∧ w.cell? ⟨R, 4, none⟩ = some e := by
  simp [World.cell?, h]
theorem prsP_len (t : Bs) : (prsP t).length ≤ 201 := by
  unfold prsP
  split
  · rename_i h
    have h1 : t.length ≤ 200 := by
      rcases Nat.lt_or_ge 200 t.length with h2 | h2
      · unfold prsE at h; rw [if_pos h2] at h; cases h
      · exact h2
    have := pts_len t []
    simp only [parts, List.length_map]; omega
  · simp
/-- A call of a script in its box, and the copy of its path. -/
structure TX (w : World) (o : OpP) (bk : Nat) (vk : Value) (W : World) : Prop where
  kp : Keeps (fun _ => False) w W
  ob : W.heap[w.heap.size]? = some (.cells #[.int .i64 o.k, .string o.t, o.v, .bool o.sl, .int .i64 o.n] 52 (0, 0))
  row : Row W o.v o.ps.length (strs o.ps)
  kb : PB W bk vk o.ps o.sl
theorem TX.keep {w : World} {o : OpP} {bk : Nat} {vk : Value} {W W' : World} (h : TX w o bk vk W) (k : Keeps (fun _ => False) W W') : TX w o bk vk W' :=
  ⟨h.kp.trans k, k.at h.ob id, h.row.keep k, h.kb.keep k⟩

set_option maxHeartbeats 4000000 in
set_option maxRecDepth 100000 in
theorem texts_any (w : World) (o : OpP) (ho : OpOk w o) :
    Calls Try.prog 24 #[.agg #[.int .i64 o.k, .string o.t, o.v, .bool o.sl, .int .i64 o.n]] w fun e w' => e = .returned (.bool true) ∧ Keeps (fun _ => False) w w' := by
  obtain ⟨ok, ot, ov, ops, osl, on⟩ := o
  obtain ⟨hR, hP, hT⟩ := ho
  dsimp only at hR hP hT ⊢
  have hA : Keeps (fun _ => False) w (w.alloc (.cells #[.int .i64 ok, .string ot, ov, .bool osl, .int .i64 on] 52)) := (Keeps.refl _ w).alloc _
  have hB := heap_last w (.cells #[.int .i64 ok, .string ot, ov, .bool osl, .int .i64 on] 52)
  obtain ⟨va, vc, rfl, _⟩ := id hR
  have h19 := copyPath_any (w.alloc (.cells #[.int .i64 ok, .string ot, .slice va ops.length vc, .bool osl, .int .i64 on] 52)) (.slice va ops.length vc) ops osl (hR.keep hA) hP.1
  obtain ⟨c0, c1, c2, c3, c4⟩ := cells5 hB
  have HP := Hid.mk' (And.intro hP (And.intro hA (And.intro hB hR)))
  clear hA hB hR hP
  by_cases h1 : ok = 1
  · subst h1
    have h18 := fun W => parse_any W ot (by omega)
    have h36 := fun W => rparse_any W ot (by omega)
    have hQ : (prsP ot.data.toList).length < 8796093022000 := by have := prsP_len ot.data.toList; omega
    generalize prsE ot.data.toList = E at h18 h36
    generalize prsP ot.data.toList = Q at h18 h36 hQ
    generalize prsS ot.data.toList = S at h18 h36
    
    go_enter Try.func24, Try.ntmps24
    go_wp2_with (first
      | (go_at_call 19; refine h19.mono ?_; clear h19; rintro e w1 ⟨r, rfl, H1⟩
         obtain ⟨ra, rc, er, _⟩ := Row.of_own H1.out.1
         subst er
         have HT : Hid (TX w ⟨1, ot, .slice va ops.length vc, ops, osl, on⟩ w1.heap.size (.slice ra ops.length rc) (w1.alloc (.cells #[.slice ra ops.length rc, .bool osl] 25))) := by
           have ha : Keeps (fun _ => False) w1 (w1.alloc (.cells #[.slice ra ops.length rc, .bool osl] 25)) := (Keeps.refl _ w1).alloc _
           exact ⟨(HP.out.2.1.trans H1.out.2).trans ha, (H1.out.2.trans ha).at HP.out.2.2.1 id, HP.out.2.2.2.keep ((HP.out.2.1.trans H1.out.2).trans ha), ⟨heap_last _ _, (Row.of_own H1.out.1).keep ha⟩⟩
         obtain ⟨y0, y1, y2, y3, y4⟩ := cells5 HT.out.ob
         have y5 := HT.out.kb.c0
         have y6 := HT.out.kb.c1
         have hS : ∀ W', Hid (Keeps (fun _ => False) (w1.alloc (.cells #[.slice ra ops.length rc, .bool osl] 25)) W') → Calls Try.prog 37 #[.agg #[.slice va ops.length vc, .bool osl], .agg #[.slice ra ops.length rc, .bool osl]] W' fun e w' => e = .returned (.bool true) ∧ Keeps (fun _ => False) w w' := fun W' hk => by
           have hx := HT.out.keep hk.out
           refine (rsame_any W' (.slice va ops.length vc) (.slice ra ops.length rc) ops ops osl osl hx.row hx.kb.row HP.out.1.1).mono ?_
           rintro e w' ⟨rfl, hk'⟩
           exact ⟨by simp, hx.kp.trans hk'⟩
         clear H1)
      | (go_at_call 18; refine (h18 _).mono ?_; clear h18; rintro e w2 ⟨r, rfl, H2⟩
         obtain ⟨pa, pc, er, _⟩ := Row.of_own H2.out.1
         subst er
         have HK2 := Hid.mk' (H2.out.2.alloc (.cells #[.slice pa Q.length pc, .bool S] 25))
         have HP2 : Hid (PB (w2.alloc (.cells #[.slice pa Q.length pc, .bool S] 25)) w2.heap.size (.slice pa Q.length pc) Q S) := ⟨heap_last _ _, (Row.of_own H2.out.1).keep ((Keeps.refl _ w2).alloc _)⟩
         obtain ⟨y0, y1, y2, y3, y4⟩ := cells5 (HT.out.keep HK2.out).ob
         have y5 := (HT.out.keep HK2.out).kb.c0
         have y6 := (HT.out.keep HK2.out).kb.c1
         clear H2)
      | (go_at_call 36; refine (h36 _).mono ?_; clear h36; rintro e w3 ⟨r, rfl, H3⟩
         obtain ⟨qa, qc, er, _⟩ := Row.of_own H3.out.1
         subst er
         have ha3 : Keeps (fun _ => False) (w2.alloc (.cells #[.slice pa Q.length pc, .bool S] 25)) (w3.alloc (.cells #[.slice qa Q.length qc, .bool S] 25)) := H3.out.2.alloc _
         have HK3 := Hid.mk' (HK2.out.trans ha3)
         have HP3 := Hid.mk' (HP2.out.keep ha3)
         have HQ3 : Hid (PB (w3.alloc (.cells #[.slice qa Q.length qc, .bool S] 25)) w3.heap.size (.slice qa Q.length qc) Q S) := ⟨heap_last _ _, (Row.of_own H3.out.1).keep ((Keeps.refl _ w3).alloc _)⟩
         obtain ⟨y0, y1, y2, y3, y4⟩ := cells5 (HT.out.keep HK3.out).ob
         have y5 := (HT.out.keep HK3.out).kb.c0
         have y6 := (HT.out.keep HK3.out).kb.c1
         have z0 := HP3.out.c0
         have z1 := HP3.out.c1
         have z2 := HQ3.out.c0
         have z3 := HQ3.out.c1
         have hU : ∀ W', Hid (Keeps (fun _ => False) (w3.alloc (.cells #[.slice qa Q.length qc, .bool S] 25)) W') → Calls Try.prog 37 #[.agg #[.slice pa Q.length pc, .bool S], .agg #[.slice qa Q.length qc, .bool S]] W' fun e w' => e = .returned (.bool true) ∧ Keeps (fun _ => False) (w3.alloc (.cells #[.slice qa Q.length qc, .bool S] 25)) w' := fun W' hk => by
           refine (rsame_any W' (.slice pa Q.length pc) (.slice qa Q.length qc) Q Q S S (HP3.out.keep hk.out).row (HQ3.out.keep hk.out).row hQ).mono ?_
           rintro e w' ⟨rfl, hk'⟩
           exact ⟨by simp, hk.out.trans hk'⟩
         clear H3)
      | (go_at_call 37; refine (hU _ (Keeps.refl _ _)).mono ?_; clear hU; rintro e w4 ⟨rfl, hk4⟩
         have HK4 := Hid.mk' (HK3.out.trans hk4)
         obtain ⟨y0, y1, y2, y3, y4⟩ := cells5 (HT.out.keep HK4.out).ob
         have y5 := (HT.out.keep HK4.out).kb.c0
         have y6 := (HT.out.keep HK4.out).kb.c1
         clear hk4)
      | (go_at_call 37; refine (hS _ HK4).mono ?_; clear hS; rintro e w5 ⟨rfl, hk5⟩))
    go_ret
    exact ⟨rfl, hk5⟩
  · by_cases h2 : ok = 2
    · subst h2
      go_enter Try.func24, Try.ntmps24
      go_wp2_with (first
      | (go_at_call 19; refine h19.mono ?_; clear h19; rintro e w1 ⟨r, rfl, H1⟩
         obtain ⟨ra, rc, er, _⟩ := Row.of_own H1.out.1
         subst er
         have HT : Hid (TX w ⟨2, ot, .slice va ops.length vc, ops, osl, on⟩ w1.heap.size (.slice ra ops.length rc) (w1.alloc (.cells #[.slice ra ops.length rc, .bool osl] 25))) := by
           have ha : Keeps (fun _ => False) w1 (w1.alloc (.cells #[.slice ra ops.length rc, .bool osl] 25)) := (Keeps.refl _ w1).alloc _
           exact ⟨(HP.out.2.1.trans H1.out.2).trans ha, (H1.out.2.trans ha).at HP.out.2.2.1 id, HP.out.2.2.2.keep ((HP.out.2.1.trans H1.out.2).trans ha), ⟨heap_last _ _, (Row.of_own H1.out.1).keep ha⟩⟩
         obtain ⟨y0, y1, y2, y3, y4⟩ := cells5 HT.out.ob
         have y5 := HT.out.kb.c0
         have y6 := HT.out.kb.c1
         have hS : ∀ W', Hid (Keeps (fun _ => False) (w1.alloc (.cells #[.slice ra ops.length rc, .bool osl] 25)) W') → Calls Try.prog 37 #[.agg #[.slice va ops.length vc, .bool osl], .agg #[.slice ra ops.length rc, .bool osl]] W' fun e w' => e = .returned (.bool true) ∧ Keeps (fun _ => False) w w' := fun W' hk => by
           have hx := HT.out.keep hk.out
           refine (rsame_any W' (.slice va ops.length vc) (.slice ra ops.length rc) ops ops osl osl hx.row hx.kb.row HP.out.1.1).mono ?_
           rintro e w' ⟨rfl, hk'⟩
           exact ⟨by simp, hx.kp.trans hk'⟩
         clear H1))
      have h21 : ∀ W', Hid (Keeps (fun _ => False) (w1.alloc (.cells #[.slice ra ops.length rc, .bool osl] 25)) W') → Calls Try.prog 21 #[.agg #[.slice va ops.length vc, .bool osl]] W' fun e w' => e = .returned (.string (txtF ops osl)) ∧ Hid (Keeps (fun _ => False) (w1.alloc (.cells #[.slice ra ops.length rc, .bool osl] 25)) w') := fun W' hk => by
        refine (text_any W' (.slice va ops.length vc) ops osl (HT.out.keep hk.out).row (by have := HP.out.1.1; omega) HP.out.1.2).mono ?_
        rintro e w' ⟨rfl, hk'⟩
        exact ⟨rfl, hk.out.trans hk'⟩
      have h38 : ∀ W', Hid (Keeps (fun _ => False) (w1.alloc (.cells #[.slice ra ops.length rc, .bool osl] 25)) W') → Calls Try.prog 38 #[.agg #[.slice ra ops.length rc, .bool osl]] W' fun e w' => e = .returned (.string (txtF ops osl)) ∧ Hid (Keeps (fun _ => False) (w1.alloc (.cells #[.slice ra ops.length rc, .bool osl] 25)) w') := fun W' hk => by
        refine (rtext_any W' (.slice ra ops.length rc) ops osl (HT.out.keep hk.out).kb.row HP.out.1.1 HP.out.1.2).mono ?_
        rintro e w' ⟨rfl, hk'⟩
        exact ⟨rfl, hk.out.trans hk'⟩
      have HF : Hid (∀ W', Keeps (fun _ => False) (w1.alloc (.cells #[.slice ra ops.length rc, .bool osl] 25)) W' → (W'.cell? ⟨w.heap.size, 2, none⟩ = some (.slice va ops.length vc) ∧ W'.cell? ⟨w.heap.size, 3, none⟩ = some (.bool osl) ∧ W'.cell? ⟨w1.heap.size, 0, none⟩ = some (.slice ra ops.length rc) ∧ W'.cell? ⟨w1.heap.size, 1, none⟩ = some (.bool osl))) := fun W' hk => by
        obtain ⟨_, _, a2, a3, _⟩ := cells5 (HT.out.keep hk).ob
        exact ⟨a2, a3, (HT.out.keep hk).kb.c0, (HT.out.keep hk).kb.c1⟩
      generalize txtF ops osl = X at h21 h38
      refine wp_region_held_drew (S := fun wx => wx.cell? ⟨w.heap.size, 2, none⟩ = some (.slice va ops.length vc) ∧ wx.cell? ⟨w.heap.size, 3, none⟩ = some (.bool osl) ∧ wx.cell? ⟨w1.heap.size, 0, none⟩ = some (.slice ra ops.length rc) ∧ wx.cell? ⟨w1.heap.size, 1, none⟩ = some (.bool osl)) (by kernel_rfl) ⟨y2, y3, y5, y6⟩ (fun hS0 => ?_)
      refine takeH 0 (some 38) (.pointer (some ⟨w.heap.size, 2, none⟩)) rfl rfl (by kernel_rfl) (by kernel_rfl) (by kernel_rfl) (fun _ _ _ h => h) (Or.inl ⟨by rfl, fun wx ⟨s0, s1, s2, s3⟩ => by go_simp⟩) hS0 ?_
      simp only [Act.put, List.setIfInBounds_toArray, List.set_cons_zero, List.set_cons_succ]
      refine takeH 1 (some 39) (Value.agg #[.slice va ops.length vc, .bool osl]) rfl rfl (by kernel_rfl) (by kernel_rfl) (by kernel_rfl) (fun _ _ _ h => h) (Or.inl ⟨by rfl, fun wx ⟨s0, s1, s2, s3⟩ => by go_simp⟩) hS0 ?_
      simp only [Act.put, List.setIfInBounds_toArray, List.set_cons_zero, List.set_cons_succ]
      refine takeH 3 (some 41) (Value.agg #[.slice ra ops.length rc, .bool osl]) rfl rfl (by kernel_rfl) (by kernel_rfl) (by kernel_rfl) (fun _ _ _ h => h) (Or.inl ⟨by rfl, fun wx ⟨s0, s1, s2, s3⟩ => by go_simp⟩) hS0 ?_
      simp only [Act.put, List.setIfInBounds_toArray, List.set_cons_zero, List.set_cons_succ]
      refine wpAnyH_ready (rs := [2]) (by kernel_rfl) (by simp) (AllReadyH.cons rfl (fun K hK => ?_) AllReadyH.nil)
      go_simp
      go_at_call 21
      refine (h21 _ (Keeps.drewN _ _ 1)).mono ?_
      rintro e w2 ⟨rfl, HK2⟩
      refine hK.out _ _ (HF.out _ HK2.out) (fun hS0 => ?_)
      clear hK
      try simp only [Act.put, List.setIfInBounds_toArray, List.set_cons_zero, List.set_cons_succ]
      refine wpAnyH_ready (rs := [4]) (by kernel_rfl) (by simp) (AllReadyH.cons rfl (fun K hK => ?_) AllReadyH.nil)
      go_simp
      go_at_call 38
      refine (h38 _ HK2).mono ?_
      rintro e w3 ⟨rfl, HK3⟩
      refine hK.out _ _ (HF.out _ HK3.out) (fun hS0 => ?_)
      clear hK
      try simp only [Act.put, List.setIfInBounds_toArray, List.set_cons_zero, List.set_cons_succ]
      refine takeH 5 (some 43) (.bool true) rfl rfl (by kernel_rfl) (by kernel_rfl) (by kernel_rfl) (fun _ _ _ h => h) (Or.inl ⟨by rfl, fun wx ⟨s0, s1, s2, s3⟩ => by go_simp⟩) hS0 ?_
      simp only [Act.put, List.setIfInBounds_toArray, List.set_cons_zero, List.set_cons_succ]
      refine takeH 6 (some 4) (.bool true) rfl rfl (by kernel_rfl) (by kernel_rfl) (by kernel_rfl) (fun _ _ _ h => h) (Or.inl ⟨by rfl, fun wx ⟨s0, s1, s2, s3⟩ => by go_simp⟩) hS0 ?_
      simp only [Act.put, List.setIfInBounds_toArray, List.set_cons_zero, List.set_cons_succ]
      refine wpAnyH_done (by kernel_rfl) ?_ _
      obtain ⟨y0, y1, y2, y3, y4⟩ := cells5 (HT.out.keep HK3.out).ob
      have y5 := (HT.out.keep HK3.out).kb.c0
      have y6 := (HT.out.keep HK3.out).kb.c1
      go_wp2_with (first
        | (go_at_call 37; refine (hS _ HK3).mono ?_; clear hS; rintro e w5 ⟨rfl, hk5⟩))
      go_ret
      exact ⟨rfl, hk5⟩
    · by_cases h3 : ok = 3
      · subst h3
        go_enter Try.func24, Try.ntmps24
        go_wp2_with (first
        | (go_at_call 19; refine h19.mono ?_; clear h19; rintro e w1 ⟨r, rfl, H1⟩
           obtain ⟨ra, rc, er, _⟩ := Row.of_own H1.out.1
           subst er
           have HT : Hid (TX w ⟨3, ot, .slice va ops.length vc, ops, osl, on⟩ w1.heap.size (.slice ra ops.length rc) (w1.alloc (.cells #[.slice ra ops.length rc, .bool osl] 25))) := by
             have ha : Keeps (fun _ => False) w1 (w1.alloc (.cells #[.slice ra ops.length rc, .bool osl] 25)) := (Keeps.refl _ w1).alloc _
             exact ⟨(HP.out.2.1.trans H1.out.2).trans ha, (H1.out.2.trans ha).at HP.out.2.2.1 id, HP.out.2.2.2.keep ((HP.out.2.1.trans H1.out.2).trans ha), ⟨heap_last _ _, (Row.of_own H1.out.1).keep ha⟩⟩
           obtain ⟨y0, y1, y2, y3, y4⟩ := cells5 HT.out.ob
           have y5 := HT.out.kb.c0
           have y6 := HT.out.kb.c1
           have hS : ∀ W', Hid (Keeps (fun _ => False) (w1.alloc (.cells #[.slice ra ops.length rc, .bool osl] 25)) W') → Calls Try.prog 37 #[.agg #[.slice va ops.length vc, .bool osl], .agg #[.slice ra ops.length rc, .bool osl]] W' fun e w' => e = .returned (.bool true) ∧ Keeps (fun _ => False) w w' := fun W' hk => by
             have hx := HT.out.keep hk.out
             refine (rsame_any W' (.slice va ops.length vc) (.slice ra ops.length rc) ops ops osl osl hx.row hx.kb.row HP.out.1.1).mono ?_
             rintro e w' ⟨rfl, hk'⟩
             exact ⟨by simp, hx.kp.trans hk'⟩
           clear H1))
        have h11 : ∀ W', Hid (Keeps (fun _ => False) (w1.alloc (.cells #[.slice ra ops.length rc, .bool osl] 25)) W') → Calls Try.prog 11 #[.agg #[.slice va ops.length vc, .bool osl]] W' fun e w' => ∃ r : Value, e = .returned (.agg #[r, .bool (clS ops osl)]) ∧ Hid (Row w' r (clP ops).length (strs (clP ops)) ∧ Keeps (fun _ => False) (w1.alloc (.cells #[.slice ra ops.length rc, .bool osl] 25)) w') := fun W' hk => by
          refine (clean_any W' (.slice va ops.length vc) ops osl (HT.out.keep hk.out).row HP.out.1.1 HP.out.1.2).mono ?_
          rintro e w' ⟨r, rfl, H⟩
          exact ⟨r, rfl, Row.of_own H.out.1, hk.out.trans H.out.2⟩
        have h39 : ∀ W', Hid (Keeps (fun _ => False) (w1.alloc (.cells #[.slice ra ops.length rc, .bool osl] 25)) W') → Calls Try.prog 39 #[.agg #[.slice ra ops.length rc, .bool osl]] W' fun e w' => ∃ r : Value, e = .returned (.agg #[r, .bool (clS ops osl)]) ∧ Hid (Row w' r (clP ops).length (strs (clP ops)) ∧ Keeps (fun _ => False) W' w') := fun W' hk => by
          refine (rclean_any W' (.slice ra ops.length rc) ops osl (HT.out.keep hk.out).kb.row HP.out.1.1).mono ?_
          rintro e w' ⟨r, rfl, H⟩
          exact ⟨r, rfl, Row.of_own H.out.1, H.out.2⟩
        have hC := HP.out.1.clean.1
        generalize clP ops = C at h11 h39 hC
        generalize clS ops osl = CS at h11 h39
        have h37 : ∀ (W' : World) (r1 r2 : Value), Hid (Row W' r1 C.length (strs C) ∧ Row W' r2 C.length (strs C) ∧ Keeps (fun _ => False) (w1.alloc (.cells #[.slice ra ops.length rc, .bool osl] 25)) W') → Calls Try.prog 37 #[.agg #[r1, .bool CS], .agg #[r2, .bool CS]] W' fun e w' => e = .returned (.bool true) ∧ Hid (Keeps (fun _ => False) (w1.alloc (.cells #[.slice ra ops.length rc, .bool osl] 25)) w') := fun W' r1 r2 hk => by
          refine (rsame_any W' r1 r2 C C CS CS hk.out.1 hk.out.2.1 hC).mono ?_
          rintro e w' ⟨rfl, hk'⟩
          exact ⟨by simp, hk.out.2.2.trans hk'⟩
        have HF : Hid (∀ W', Keeps (fun _ => False) (w1.alloc (.cells #[.slice ra ops.length rc, .bool osl] 25)) W' → (W'.cell? ⟨w.heap.size, 2, none⟩ = some (.slice va ops.length vc) ∧ W'.cell? ⟨w.heap.size, 3, none⟩ = some (.bool osl) ∧ W'.cell? ⟨w1.heap.size, 0, none⟩ = some (.slice ra ops.length rc) ∧ W'.cell? ⟨w1.heap.size, 1, none⟩ = some (.bool osl))) := fun W' hk => by
          obtain ⟨_, _, a2, a3, _⟩ := cells5 (HT.out.keep hk).ob
          exact ⟨a2, a3, (HT.out.keep hk).kb.c0, (HT.out.keep hk).kb.c1⟩
        refine wp_region_held_drew (S := fun wx => wx.cell? ⟨w.heap.size, 2, none⟩ = some (.slice va ops.length vc) ∧ wx.cell? ⟨w.heap.size, 3, none⟩ = some (.bool osl) ∧ wx.cell? ⟨w1.heap.size, 0, none⟩ = some (.slice ra ops.length rc) ∧ wx.cell? ⟨w1.heap.size, 1, none⟩ = some (.bool osl)) (by kernel_rfl) ⟨y2, y3, y5, y6⟩ (fun hS0 => ?_)
        refine takeH 0 (some 46) (.pointer (some ⟨w.heap.size, 2, none⟩)) rfl rfl (by kernel_rfl) (by kernel_rfl) (by kernel_rfl) (fun _ _ _ h => h) (Or.inl ⟨by rfl, fun wx ⟨s0, s1, s2, s3⟩ => by go_simp⟩) hS0 ?_
        simp only [Act.put, List.setIfInBounds_toArray, List.set_cons_zero, List.set_cons_succ]
        refine takeH 1 (some 47) (Value.agg #[.slice va ops.length vc, .bool osl]) rfl rfl (by kernel_rfl) (by kernel_rfl) (by kernel_rfl) (fun _ _ _ h => h) (Or.inl ⟨by rfl, fun wx ⟨s0, s1, s2, s3⟩ => by go_simp⟩) hS0 ?_
        simp only [Act.put, List.setIfInBounds_toArray, List.set_cons_zero, List.set_cons_succ]
        refine takeH 3 (some 49) (Value.agg #[.slice ra ops.length rc, .bool osl]) rfl rfl (by kernel_rfl) (by kernel_rfl) (by kernel_rfl) (fun _ _ _ h => h) (Or.inl ⟨by rfl, fun wx ⟨s0, s1, s2, s3⟩ => by go_simp⟩) hS0 ?_
        simp only [Act.put, List.setIfInBounds_toArray, List.set_cons_zero, List.set_cons_succ]
        refine wpAnyH_ready (rs := [2]) (by kernel_rfl) (by simp) (AllReadyH.cons rfl (fun K hK => ?_) AllReadyH.nil)
        go_simp
        go_at_call 11
        refine (h11 _ (Keeps.drewN _ _ 1)).mono ?_
        rintro e w2 ⟨rx, rfl, H2⟩
        obtain ⟨xa, xc, rfl, _⟩ := id H2.out.1
        refine hK.out _ _ (HF.out _ H2.out.2) (fun hS0 => ?_)
        clear hK
        try simp only [Act.put, List.setIfInBounds_toArray, List.set_cons_zero, List.set_cons_succ]
        refine wpAnyH_ready (rs := [4]) (by kernel_rfl) (by simp) (AllReadyH.cons rfl (fun K hK => ?_) AllReadyH.nil)
        go_simp
        go_at_call 39
        refine (h39 _ H2.out.2).mono ?_
        rintro e w3 ⟨ry, rfl, H3⟩
        obtain ⟨ya, yc, rfl, _⟩ := id H3.out.1
        refine hK.out _ _ (HF.out _ (H2.out.2.trans H3.out.2)) (fun hS0 => ?_)
        clear hK
        try simp only [Act.put, List.setIfInBounds_toArray, List.set_cons_zero, List.set_cons_succ]
        refine wpAnyH_ready (rs := [5]) (by kernel_rfl) (by simp) (AllReadyH.cons rfl (fun K hK => ?_) AllReadyH.nil)
        go_simp
        go_at_call 37
        refine (h37 _ _ _ ⟨H2.out.1.keep H3.out.2, H3.out.1, H2.out.2.trans H3.out.2⟩).mono ?_
        rintro e w4 ⟨rfl, HK4⟩
        refine hK.out _ _ (HF.out _ HK4.out) (fun hS0 => ?_)
        clear hK
        try simp only [Act.put, List.setIfInBounds_toArray, List.set_cons_zero, List.set_cons_succ]
        refine takeH 6 (some 4) (.bool true) rfl rfl (by kernel_rfl) (by kernel_rfl) (by kernel_rfl) (fun _ _ _ h => h) (Or.inl ⟨by rfl, fun wx ⟨s0, s1, s2, s3⟩ => by go_simp⟩) hS0 ?_
        simp only [Act.put, List.setIfInBounds_toArray, List.set_cons_zero, List.set_cons_succ]
        refine wpAnyH_done (by kernel_rfl) ?_ _
        obtain ⟨y0, y1, y2, y3, y4⟩ := cells5 (HT.out.keep HK4.out).ob
        have y5 := (HT.out.keep HK4.out).kb.c0
        have y6 := (HT.out.keep HK4.out).kb.c1
        go_wp2_with (first
          | (go_at_call 37; refine (hS _ HK4).mono ?_; clear hS; rintro e w5 ⟨rfl, hk5⟩))
        go_ret
        exact ⟨rfl, hk5⟩
      · have HP2 := HP
        go_enter Try.func24, Try.ntmps24
        go_wp2_with (first
        | (go_at_call 19; refine h19.mono ?_; clear h19; rintro e w1 ⟨r, rfl, H1⟩
           obtain ⟨ra, rc, er, _⟩ := Row.of_own H1.out.1
           subst er
           have HT : Hid (TX w ⟨ok, ot, .slice va ops.length vc, ops, osl, on⟩ w1.heap.size (.slice ra ops.length rc) (w1.alloc (.cells #[.slice ra ops.length rc, .bool osl] 25))) := by
             have ha : Keeps (fun _ => False) w1 (w1.alloc (.cells #[.slice ra ops.length rc, .bool osl] 25)) := (Keeps.refl _ w1).alloc _
             exact ⟨(HP.out.2.1.trans H1.out.2).trans ha, (H1.out.2.trans ha).at HP.out.2.2.1 id, HP.out.2.2.2.keep ((HP.out.2.1.trans H1.out.2).trans ha), ⟨heap_last _ _, (Row.of_own H1.out.1).keep ha⟩⟩
           obtain ⟨y0, y1, y2, y3, y4⟩ := cells5 HT.out.ob
           have y5 := HT.out.kb.c0
           have y6 := HT.out.kb.c1
           have hS : ∀ W', Hid (Keeps (fun _ => False) (w1.alloc (.cells #[.slice ra ops.length rc, .bool osl] 25)) W') → Calls Try.prog 37 #[.agg #[.slice va ops.length vc, .bool osl], .agg #[.slice ra ops.length rc, .bool osl]] W' fun e w' => e = .returned (.bool true) ∧ Keeps (fun _ => False) w w' := fun W' hk => by
             have hx := HT.out.keep hk.out
             refine (rsame_any W' (.slice va ops.length vc) (.slice ra ops.length rc) ops ops osl osl hx.row hx.kb.row HP.out.1.1).mono ?_
             rintro e w' ⟨rfl, hk'⟩
             exact ⟨by simp, hx.kp.trans hk'⟩
           clear H1)
        | (go_at_call 37; refine (hS _ (Keeps.refl _ _)).mono ?_; clear hS; rintro e w5 ⟨rfl, hk5⟩))
        go_ret
        exact ⟨rfl, hk5⟩
end Go.Proofs.Ytfekgfimbkgkfab
