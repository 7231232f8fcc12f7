import Derived.Test.YtfekgfimbkgkfabZ1
import Derived.Test.YtfekgfimbkgkfabX2
import Derived.Test.YtfekgfimbkgkfabR3
namespace Go.Proofs.Ytfekgfimbkgkfab
open Go.RowKit Go.Maps

theorem prsP_ok {t : Bs} : PsOk (prsP t) := by
  refine ⟨by have := prsP_len t; omega, fun s hs => ?_⟩
  unfold prsP at hs
  split at hs
  · rename_i h0
    rcases Nat.lt_or_ge 28 s.size with h | h
    · have hlg : long (parts t) = true := by
        unfold long
        rw [List.any_eq_true]
        exact ⟨s, hs, by simpa using h⟩
      unfold prsE at h0
      rw [hlg] at h0
      split at h0
      · cases h0
      · split at h0 <;> cases h0
    · omega
  · cases hs

set_option maxHeartbeats 4000000 in
set_option maxRecDepth 100000 in
theorem plays_any (w : World) (x bm n : Nat) (l : List Ed) (hT : TabAt w x bm n (tabF l)) (hF : wfF (tabF l)) (ve : Value) (he : Row w ve l.length (ecells l)) (hl : l.length ≤ 3518437208780) (o : OpP) (ho : OpOk2 w o) :
    Calls Try.prog 25 #[.pointer (some ⟨x, 0, none⟩), ve, .agg #[.int .i64 o.k, .string o.t, o.v, .bool o.sl, .int .i64 o.n]] w fun e w' => e = .returned (.bool true) ∧ Keeps (fun _ => False) w w' := by
  have hA : Keeps (fun _ => False) w (w.alloc (.cells #[.int .i64 o.k, .string o.t, o.v, .bool o.sl, .int .i64 o.n] 52)) := (Keeps.refl _ w).alloc _
  have hB := heap_last w (.cells #[.int .i64 o.k, .string o.t, o.v, .bool o.sl, .int .i64 o.n] 52)
  have h24 := texts_any (w.alloc (.cells #[.int .i64 o.k, .string o.t, o.v, .bool o.sl, .int .i64 o.n] 52)) o (ho.1.keep hA)
  obtain ⟨⟨hR, hP, hTs⟩, hwf⟩ := ho
  obtain ⟨ok, ot, ov, ops, osl, on⟩ := o
  dsimp only at hR hP hTs hwf hA hB h24 ⊢
  obtain ⟨va, vc, rfl, _⟩ := id hR
  obtain ⟨ea, ecp, rfl, _⟩ := id he
  obtain ⟨c0, c1, c2, c3, c4⟩ := cells5 hB
  have H0 := Hid.mk' (And.intro hT (And.intro hF (And.intro he (And.intro hA (And.intro hB (And.intro hR (And.intro hP hwf)))))))
  have h41 : ∀ (W' : World) (v : Value) (p : List ByteArray) (sl : Bool) (k : Int), Hid (Keeps (fun _ => False) w W' ∧ Row W' v p.length (strs p) ∧ PsOk p) → Calls Try.prog 41 #[.pointer (some ⟨x, 0, none⟩), .slice ea l.length ecp, .agg #[v, .bool sl], .int .i64 k] W' fun e w' => e = .returned (.bool true) ∧ Keeps (fun _ => False) w w' := fun W' v p sl k hk => by
    refine (leads_any W' x bm n l (hT.grow hk.out.1) hF _ (he.keep hk.out.1) hl v p sl hk.out.2.1 hk.out.2.2 k).mono ?_
    rintro e w' ⟨rfl, hk'⟩
    exact ⟨rfl, hk.out.1.trans hk'⟩
  clear hT hF he hA hB hR hP
  by_cases h4 : ok = 4
  · subst h4
    clear h24 h41
    have h16 := look_any (w.alloc (.cells #[.int .i64 4, .string ot, .slice va ops.length vc, .bool osl, .int .i64 on] 52)) x bm n (tabF l) (H0.out.1.grow H0.out.2.2.2.1) on ot hwf (by unfold maxLen; omega)
    have h40 := fun W hk => rlook_any W (.slice ea l.length ecp) l hk hl on ot
    generalize tabF l on ot = y at h16 h40
    obtain ⟨yn, yb⟩ := y
    dsimp only at h16 h40
    go_enter Try.func25, Try.ntmps25
    go_wp2_with (first
      | (go_at_call 16; refine h16.mono ?_; clear h16; rintro e w1 ⟨rfl, hk1⟩
         have HK1 := Hid.mk' (H0.out.2.2.2.1.trans hk1)
         obtain ⟨y0, y1, y2, y3, y4⟩ := cells5 (hk1.at H0.out.2.2.2.2.1 id)
         clear hk1)
      | (go_at_call 40; refine (h40 _ (H0.out.2.2.1.keep HK1.out)).mono ?_; clear h40; rintro e w2 ⟨rfl, hk2⟩))
    go_ret
    exact ⟨ret_bool (by simp), HK1.out.trans hk2⟩
  · by_cases h5 : ok = 5
    · subst h5
      clear h24
      go_enter Try.func25, Try.ntmps25
      go_wp2_with (first
        | (go_at_call 41; refine (h41 _ _ ops _ _ ⟨H0.out.2.2.2.1, H0.out.2.2.2.2.2.1.keep H0.out.2.2.2.1, H0.out.2.2.2.2.2.2.1⟩).mono ?_; clear h41; rintro e w1 ⟨rfl, hk1⟩))
      go_ret
      exact ⟨rfl, hk1⟩
    · by_cases h6 : ok = 6
      · subst h6
        clear h24
        go_enter Try.func25, Try.ntmps25
        go_wp2_with (first
          | (go_at_call 41; refine (h41 _ _ ops _ _ ⟨H0.out.2.2.2.1, H0.out.2.2.2.2.2.1.keep H0.out.2.2.2.1, H0.out.2.2.2.2.2.2.1⟩).mono ?_; clear h41; rintro e w1 ⟨rfl, hk1⟩))
        go_ret
        exact ⟨rfl, hk1⟩
      · by_cases h7 : ok = 7
        · subst h7
          clear h24
          have h18 := fun W => parse_any W ot (by omega)
          have h36 := fun W => rparse_any W ot (by omega)
          have hQ := prsP_ok (t := ot.data.toList)
          generalize prsE ot.data.toList = E at h18 h36
          generalize prsP ot.data.toList = Q at h18 h36 hQ
          generalize prsS ot.data.toList = S at h18 h36
          have HQ := Hid.mk' hQ
          clear hQ
          have hE0 : E = 0 ∨ ¬ E = 0 := Classical.em _
          rcases hE0 with rfl | hE0
          · go_enter Try.func25, Try.ntmps25
            go_wp2_with (first
              | (go_at_call 18; refine (h18 _).mono ?_; clear h18; rintro e w2 ⟨r, rfl, H2⟩
                 obtain ⟨pa, pc, er, _⟩ := Row.of_own H2.out.1
                 subst er
                 have HK2 := Hid.mk' (H0.out.2.2.2.1.trans (H2.out.2.alloc (.cells #[.slice pa Q.length pc, .bool S] 25)))
                 have HP2 : Hid (PB (w2.alloc (.cells #[.slice pa Q.length pc, .bool S] 25)) w2.heap.size (.slice pa Q.length pc) Q S) := ⟨heap_last _ _, (Row.of_own H2.out.1).keep ((Keeps.refl _ w2).alloc _)⟩
                 obtain ⟨y0, y1, y2, y3, y4⟩ := cells5 ((H2.out.2.alloc (.cells #[.slice pa Q.length pc, .bool S] 25)).at H0.out.2.2.2.2.1 id)
                 clear H2)
              | (go_at_call 36; refine (h36 _).mono ?_; clear h36; rintro e w3 ⟨r, rfl, H3⟩
                 obtain ⟨qa, qc, er, _⟩ := Row.of_own H3.out.1
                 subst er
                 have ha3 : Keeps (fun _ => False) (w2.alloc (.cells #[.slice pa Q.length pc, .bool S] 25)) (w3.alloc (.cells #[.slice qa Q.length qc, .bool S] 25)) := H3.out.2.alloc _
                 have HK3 := Hid.mk' (HK2.out.trans ha3)
                 have HP3 := Hid.mk' (HP2.out.keep ha3)
                 have HQ3 : Hid (PB (w3.alloc (.cells #[.slice qa Q.length qc, .bool S] 25)) w3.heap.size (.slice qa Q.length qc) Q S) := ⟨heap_last _ _, (Row.of_own H3.out.1).keep ((Keeps.refl _ w3).alloc _)⟩
                 have z0 := HP3.out.c0
                 have z1 := HP3.out.c1
                 have z2 := HQ3.out.c0
                 have z3 := HQ3.out.c1
                 have h37 : Calls Try.prog 37 #[.agg #[.slice pa Q.length pc, .bool S], .agg #[.slice qa Q.length qc, .bool S]] (w3.alloc (.cells #[.slice qa Q.length qc, .bool S] 25)) fun e w' => e = .returned (.bool true) ∧ Keeps (fun _ => False) (w3.alloc (.cells #[.slice qa Q.length qc, .bool S] 25)) w' := by
                   refine (rsame_any _ (.slice pa Q.length pc) (.slice qa Q.length qc) Q Q S S HP3.out.row HQ3.out.row HQ.out.1).mono ?_
                   rintro e w' ⟨rfl, hk'⟩
                   exact ⟨by simp, hk'⟩
                 clear H3)
              | (go_at_call 37; refine h37.mono ?_; clear h37; rintro e w4 ⟨rfl, hk4⟩
                 have HK4 := Hid.mk' (HK3.out.trans hk4)
                 have HP4 := Hid.mk' (HP3.out.keep hk4)
                 have z0 := HP4.out.c0
                 have z1 := HP4.out.c1
                 clear hk4)
              | (go_at_call 41; refine (h41 _ _ Q _ _ ⟨HK4.out, HP4.out.row, HQ.out⟩).mono ?_; clear h41; rintro e w5 ⟨rfl, hk5⟩))
            go_ret
            exact ⟨rfl, hk5⟩
          · have hE1 : (E != 0) = true := bne_iff_ne.2 hE0
            have hE2 : (E == 0) = false := beq_eq_false_iff_ne.2 hE0
            go_enter Try.func25, Try.ntmps25
            go_wp2_with (first
              | (go_at_call 18; refine (h18 _).mono ?_; clear h18; rintro e w2 ⟨r, rfl, H2⟩
                 obtain ⟨pa, pc, er, _⟩ := Row.of_own H2.out.1
                 subst er
                 have HK2 := Hid.mk' (H0.out.2.2.2.1.trans (H2.out.2.alloc (.cells #[.slice pa Q.length pc, .bool S] 25)))
                 have HP2 : Hid (PB (w2.alloc (.cells #[.slice pa Q.length pc, .bool S] 25)) w2.heap.size (.slice pa Q.length pc) Q S) := ⟨heap_last _ _, (Row.of_own H2.out.1).keep ((Keeps.refl _ w2).alloc _)⟩
                 obtain ⟨y0, y1, y2, y3, y4⟩ := cells5 ((H2.out.2.alloc (.cells #[.slice pa Q.length pc, .bool S] 25)).at H0.out.2.2.2.2.1 id)
                 clear H2)
              | (go_at_call 36; refine (h36 _).mono ?_; clear h36; rintro e w3 ⟨r, rfl, H3⟩
                 obtain ⟨qa, qc, er, _⟩ := Row.of_own H3.out.1
                 subst er
                 have ha3 : Keeps (fun _ => False) (w2.alloc (.cells #[.slice pa Q.length pc, .bool S] 25)) (w3.alloc (.cells #[.slice qa Q.length qc, .bool S] 25)) := H3.out.2.alloc _
                 have HK3 := Hid.mk' (HK2.out.trans ha3)
                 have HP3 := Hid.mk' (HP2.out.keep ha3)
                 have HQ3 : Hid (PB (w3.alloc (.cells #[.slice qa Q.length qc, .bool S] 25)) w3.heap.size (.slice qa Q.length qc) Q S) := ⟨heap_last _ _, (Row.of_own H3.out.1).keep ((Keeps.refl _ w3).alloc _)⟩
                 have z0 := HP3.out.c0
                 have z1 := HP3.out.c1
                 have z2 := HQ3.out.c0
                 have z3 := HQ3.out.c1
                 have h37 : Calls Try.prog 37 #[.agg #[.slice pa Q.length pc, .bool S], .agg #[.slice qa Q.length qc, .bool S]] (w3.alloc (.cells #[.slice qa Q.length qc, .bool S] 25)) fun e w' => e = .returned (.bool true) ∧ Keeps (fun _ => False) (w3.alloc (.cells #[.slice qa Q.length qc, .bool S] 25)) w' := by
                   refine (rsame_any _ (.slice pa Q.length pc) (.slice qa Q.length qc) Q Q S S HP3.out.row HQ3.out.row HQ.out.1).mono ?_
                   rintro e w' ⟨rfl, hk'⟩
                   exact ⟨by simp, hk'⟩
                 clear H3)
              | (go_at_call 37; refine h37.mono ?_; clear h37; rintro e w4 ⟨rfl, hk4⟩
                 have HK4 := Hid.mk' (HK3.out.trans hk4)
                 have HP4 := Hid.mk' (HP3.out.keep hk4)
                 have z0 := HP4.out.c0
                 have z1 := HP4.out.c1
                 clear hk4)
              | (go_at_call 41; refine (h41 _ _ Q _ _ ⟨HK4.out, HP4.out.row, HQ.out⟩).mono ?_; clear h41; rintro e w5 ⟨rfl, hk5⟩))
            go_ret
            exact ⟨rfl, HK4.out⟩
        · go_enter Try.func25, Try.ntmps25
          go_wp2_with (first
            | (go_at_call 24; refine h24.mono ?_; clear h24; rintro e w1 ⟨rfl, hk1⟩))
          go_ret
          exact ⟨rfl, H0.out.2.2.2.1.trans hk1⟩
end Go.Proofs.Ytfekgfimbkgkfab
