import Derived.Test.YtfekgfimbkgkfaaU1
namespace Go.Proofs.Ytfekgfimbkgkfaa
open Go.RowKit Go.Maps

theorem own_ne {W : World} {base : Nat} {e : TypeId} {size : Nat} {v : Value} {n : Nat} {xs : List Value} {b : Nat} {c : Array Value} {t : TypeId} (h : W.ownsRow base e size v n xs) (hb : W.heap[b]? = some (.cells c t (0, 0))) (ht : t ≠ e) : v.ownBlock ≠ some b := by
  rcases h.2 with ⟨rfl, _⟩ | ⟨g, cap, cur, rfl, _, hg, _⟩
  · simp [Value.ownBlock]
  · intro e
    have e : g = b := by simpa [Value.ownBlock] using e
    subst e
    rw [hb] at hg
    injection hg with hg
    injection hg with _ h2 _
    exact ht h2
/-- A list of one's own in a box of one's own. -/
structure BX (w0 : World) (b : Nat) (v : Value) (n : Nat) (L : List ByteArray) (W : World) : Prop where
  len : L.length = n
  kp : Keeps (fun _ => False) w0 W
  lo : w0.heap.size ≤ b
  box : W.heap[b]? = some (.cells #[v, .bool false] 25 (0, 0))
  own : W.ownsRow w0.heap.size 9 1 v n (strs L)
theorem BX.keep {w0 W W' : World} {b : Nat} {v : Value} {n : Nat} {L : List ByteArray} (h : BX w0 b v n L W) (k : Keeps (fun _ => False) W W') : BX w0 b v n L W' := ⟨h.len, h.kp.trans k, h.lo, k.at h.box id, own_grow h.own k⟩
theorem BX.c {w0 W : World} {b : Nat} {v : Value} {n : Nat} {L : List ByteArray} (h : BX w0 b v n L W) : W.cell? ⟨b, 0, none⟩ = some v ∧ W.cell? ⟨b, 1, none⟩ = some (.bool false) ∧ W.frozen? ⟨b, 0, none⟩ = false := ⟨(cells2 h.box).1, (cells2 h.box).2.1, (cells2 h.box).2.2 0⟩
theorem BX.row {w0 W : World} {b : Nat} {v : Value} {n : Nat} {L : List ByteArray} (h : BX w0 b v n L W) : Row W v L.length (strs L) := by rw [h.len]; exact Row.of_own h.own
/-- .. behind an append, ahead of the store: the box as it was. -/
theorem BX.grown {w0 W w' : World} {b : Nat} {v : Value} {n : Nat} {L : List ByteArray} (h : BX w0 b v n L W) (o : Obj) (hg : (W.alloc o).grownBy w' v.ownBlock) : w'.heap[b]? = some (.cells #[v, .bool false] 25 (0, 0)) ∧ Keeps (fun _ => False) w0 w' := by
  have h1 := h.keep ((Keeps.refl _ W).alloc o)
  refine ⟨?_, h1.kp.step hg (fun k hk => Or.inr (h1.own.lt k hk).1)⟩
  rw [hg.block b (heap_lt h1.box) (fun e => own_ne h1.own h1.box (by decide) e.symm)]
  exact h1.box
theorem BX.push {w0 W w' : World} {b : Nat} {v v' : Value} {n : Nat} {L : List ByteArray} {s : ByteArray} (h : BX w0 b v n L W) (o : Obj) (hg : (W.alloc o).grownBy w' v.ownBlock) (ho : w'.ownsRow w0.heap.size 9 1 v' (n + 1) (strs L ++ [.string s])) : BX w0 b v' (n + 1) (L ++ [s]) (w'.setCell ⟨b, 0, none⟩ v') := by
  obtain ⟨hb, hk⟩ := h.grown o hg
  have hs : Keeps (fun k => k = b) w' (w'.setCell ⟨b, 0, none⟩ v') := Keeps.of (grownBy_setCell w' ⟨b, 0, none⟩ v') (by rintro k e; cases e; exact Or.inl rfl)
  refine ⟨by rw [List.length_append, h.len]; rfl, hk.then hs (fun k e => Or.inr (by rw [e]; exact h.lo)), h.lo, ?_, ?_⟩
  · have := setCell_block (a := ⟨b, 0, none⟩) (v := v') hb rfl
    simpa using this
  · have e : strs (L ++ [s]) = strs L ++ [.string s] := by simp [strs]
    rw [e]
    exact own_keep ho hs (fun g hg e => own_ne ho hb (by decide) (by rw [hg, e]))

set_option maxHeartbeats 4000000 in
set_option maxRecDepth 100000 in
theorem up_walk (w : World) (v0 : Value) (l : List Ed) (h0 : Row w v0 l.length (ecells l)) (hl : l.length ≤ 3518437208780) (ho : ∀ e ∈ l, EdOk e) (vp : Value) (p : List ByteArray) (sl : Bool) (hp : Row w vp p.length (strs p)) (hk : PsOk p) (hk2 : p.length ≤ 8796093021952) (nm : ByteArray) (hnm : nm.size ≤ 140737488355328) :
    Calls Try.prog 5 #[v0, .agg #[vp, .bool sl], .string nm] w fun e w' => e = .returned (.bool true) ∧ Keeps (fun _ => False) w w' := by
  obtain ⟨i0, hi, hz0, hz1, hz2⟩ := info_parts info9
  have h13 := start_any w v0 l h0 hl ho vp p sl hp
  have HF : Hid (wfF (tabF l)) := wfF_tab ho
  have HK : Hid (PsOk p) := hk
  have HU := Hid.mk' (rsv_up (tabF l))
  have HC := Hid.mk' (up_cases (tabF l) p nm)
  obtain ⟨va, vcp, rfl, hcap, _⟩ := id hp
  generalize tabF l = F at h13 HF HC HU
  generalize l.length = n at h13
  have hpl := hk.1
  have hpl2 : p.length + 1 < 8796093022000 := by omega
  have hpl3 : p.length + 1 + 1 < 8796093022000 := by omega
  have HK1 : Hid (PsOk [upS]) := ⟨by decide, by intro s hs; simp only [List.mem_cons, List.not_mem_nil, or_false] at hs; subst hs; decide⟩
  have HK2 : Hid (PsOk (p ++ [nm])) := ⟨by rw [List.length_append]; exact hpl2, fun s hs => by
    rcases List.mem_append.1 hs with h | h
    · exact HK.out.2 s h
    · simp only [List.mem_cons, List.not_mem_nil, or_false] at h; subst h; omega⟩
  have HK3 : Hid (PsOk (p ++ [nm] ++ [upS])) := ⟨by rw [List.length_append, List.length_append]; exact hpl3, fun s hs => by
    rcases List.mem_append.1 hs with h | h
    · exact HK2.out.2 s h
    · exact HK1.out.2 s h⟩
  have HTk : Hid (p.take p.length = p) := List.take_length
  clear h0 hl ho hk hp
  obtain ⟨⟨N, B, E⟩, hV1⟩ : ∃ y, rsv F p false = y := ⟨_, rfl⟩
  by_cases hE : E = 0
  · subst hE
    rcases Bool.eq_false_or_eq_true (isDot nm) with hD | hD
    · have hD' : (nm.toList == [46]) = true := hD
      clear HC hD
      go_enter Try.func5, Try.ntmps5
      go_wp2_with (first
        | (go_at_call 14; refine (TS.resolve2 H12 HF (.slice ra11 (p.length + 1 + 1) rc11) (p ++ [nm] ++ [upS]) false H12r HK3).mono ?_; rintro e w13 ⟨rfl, H13⟩
           rw [hV3])
        | (go_at_call 14; refine (TS.resolve2 H9 HF (.slice ra9 (p.length + 1) rc9) (p ++ [nm]) false H9r HK2).mono ?_; rintro e w10 ⟨rfl, H10b⟩
           rw [hV2]
           have H10x := Hid.mk' (H9x.out.keep H10b.out.2)
           obtain ⟨n0, n1, n2⟩ := H10x.out.c
           clear H10b H9r)
        | (at_builtin; refine wpList_append_own_at _ rfl _ _ 23 rfl w6.heap.size 9 i0 (.string ⟨#[]⟩) 1 16 Try.underlying23 hi hz0 hz1 hz2 rfl (by decide) _ (p.length + 1) (strs (p ++ [nm])) rfl (H10x.out.own.alloc _) ⟨w10.heap.size, 0, none⟩ 1 1 [.string ⟨#[46, 46]⟩] rfl rfl (cell_one_new _ _ _) (by simp [Value.oneCell']) (by unfold maxLen; omega) (by omega) (by rw [World.size_alloc]; have := H10x.out.kp.size; omega) ?_; intro v11 w11 hown11 hgr11 _ _
           obtain ⟨ra11, rc11, er11, _⟩ := Row.of_own hown11
           subst er11
           have hB11 := (H10x.out.grown _ hgr11).1
           obtain ⟨m0, m1, mf⟩ := cells2 hB11
           have f0 := mf 0
           have H12x := Hid.mk' (H10x.out.push (s := upS) _ hgr11 hown11)
           obtain ⟨l0, l1, l2⟩ := H12x.out.c
           have H12 : Hid (TS w (w.heap.size + 1 + 1) (w.heap.size + 1) n F w.heap.size (.slice va p.length vcp) p sl _) := H6.out.keep H12x.out.kp
           have H12r := Hid.mk' H12x.out.row
           clear mf hB11 hgr11 hown11)
        | (at_builtin; refine wpList_append_own_at _ rfl _ _ 23 rfl w6.heap.size 9 i0 (.string ⟨#[]⟩) 1 16 Try.underlying23 hi hz0 hz1 hz2 rfl (by decide) _ p.length (strs p) rfl (H8x.out.own.alloc _) ⟨(w7.heap.size + 1), 0, none⟩ 1 1 [.string nm] rfl rfl (by have := cell_one_new (w7.alloc (.cells #[.slice r7 p.length c7, .bool false] 25)) (.string nm) 9; rwa [World.size_alloc] at this) (by simp [Value.oneCell']) (by unfold maxLen; omega) (by omega) (by rw [World.size_alloc]; have := H8x.out.kp.size; omega) ?_; intro v9 w9 hown9 hgr9 _ _
           obtain ⟨ra9, rc9, er9, _⟩ := Row.of_own hown9
           subst er9
           have hB9 := (H8x.out.grown _ hgr9).1
           obtain ⟨k0, k1, kf⟩ := cells2 hB9
           have g0 := kf 0
           have H9x := Hid.mk' (H8x.out.push (s := nm) _ hgr9 hown9)
           obtain ⟨j0, j1, j2⟩ := H9x.out.c
           have H9 : Hid (TS w (w.heap.size + 1 + 1) (w.heap.size + 1) n F w.heap.size (.slice va p.length vcp) p sl _) := H6.out.keep H9x.out.kp
           have H9r := Hid.mk' H9x.out.row
           clear kf hB9 hgr9 hown9)
        | (go_at_call 15; refine (TS.step H6 HK p.length (Nat.le_refl _)).mono ?_; rintro e w7 ⟨r7, c7, rfl, H7⟩
           have hA7 := (Keeps.refl (fun _ => False) w7).alloc (.cells #[.slice r7 p.length c7, .bool false] 25)
           have H8x : Hid (BX w6 w7.heap.size (.slice r7 p.length c7) p.length p (w7.alloc (.cells #[.slice r7 p.length c7, .bool false] 25))) := ⟨rfl, H7.out.2.2.2.trans hA7, H7.out.2.2.2.size, heap_last _ _, by have := own_grow H7.out.2.1 hA7; rw [HTk.out] at this; exact this⟩
           obtain ⟨i1, i2, i3⟩ := H8x.out.c
           clear hA7 H7)
        | (go_at_call 14; refine (TS.resolve2 H5 HF (.slice va p.length vcp) p false H5r HK).mono ?_; clear H5r; rintro e w6 ⟨rfl, H6b⟩
           rw [hV1]
           have H6 := Hid.mk' H6b.out.1
           clear H6b
           have t0 := H6.out.pp.c0
           have t1 := H6.out.pp.c1)
        | (go_at_call 13; refine h13.mono ?_; clear h13; rintro e w1 ⟨rfl, H1⟩)
        | (go_at_call 9; refine (TS.first H1).mono ?_; rintro e w2 ⟨rfl, H2⟩
           have x0 := H2.out.pp.c0
           have x1 := H2.out.pp.c1)
        | (at_builtin; refine wpList_append_own_at _ rfl _ _ 23 rfl w2.heap.size 9 i0 (.string ⟨#[]⟩) 1 16 Try.underlying23 hi hz0 hz1 hz2 rfl (by decide) (.slice none 0 0) 0 [] rfl (World.ownsRow_nil _ _ _ _) ⟨w2.heap.size, 0, none⟩ 1 1 [.string ⟨#[46, 46]⟩] rfl rfl (cell_one_new _ _ _) (by simp [Value.oneCell']) (by unfold maxLen; omega) (by omega) (by rw [World.size_alloc]; omega) ?_; intro v3 w3 hown hgr _ _
           have hk3 : Keeps (fun _ => False) w2 w3 := ((Keeps.refl _ w2).alloc _).step hgr (fun k hk => by cases hk)
           have H3 := Hid.mk' (H2.out.keep hk3)
           obtain ⟨ra3, rc3, er3, _⟩ := Row.of_own hown
           subst er3
           have H3r : Hid (Row w3 (.slice ra3 1 rc3) [upS].length (strs [upS])) := Row.of_own hown
           have y0 := H3.out.pp.c0
           have y1 := H3.out.pp.c1
           clear hown hgr hk3)
        | (go_at_call 14; refine (TS.resolve2 H3 HF (.slice ra3 1 rc3) [upS] true H3r HK1).mono ?_; clear H3r; rintro e w4 ⟨rfl, H4b⟩
           rw [HU.out]
           have H4 := Hid.mk' H4b.out.1
           clear H4b
           have z0 := H4.out.pp.c0
           have z1 := H4.out.pp.c1
           have H5 := Hid.mk' (H4.out.keep ((Keeps.refl _ w4).alloc (.cells #[.slice va p.length vcp, .bool false] 25)))
           have H5r := Hid.mk' H5.out.pp.row))
      go_ret
      exact ⟨rfl, H6.out.kp⟩
    · rcases Bool.eq_false_or_eq_true (isUp nm) with hU | hU
      · have hD' : (nm.toList == [46]) = false := hD
        have hU' : (nm.toList == [46, 46]) = true := hU
        clear HC hD hU
        go_enter Try.func5, Try.ntmps5
        go_wp2_with (first
          | (go_at_call 14; refine (TS.resolve2 H12 HF (.slice ra11 (p.length + 1 + 1) rc11) (p ++ [nm] ++ [upS]) false H12r HK3).mono ?_; rintro e w13 ⟨rfl, H13⟩
             rw [hV3])
          | (go_at_call 14; refine (TS.resolve2 H9 HF (.slice ra9 (p.length + 1) rc9) (p ++ [nm]) false H9r HK2).mono ?_; rintro e w10 ⟨rfl, H10b⟩
             rw [hV2]
             have H10x := Hid.mk' (H9x.out.keep H10b.out.2)
             obtain ⟨n0, n1, n2⟩ := H10x.out.c
             clear H10b H9r)
          | (at_builtin; refine wpList_append_own_at _ rfl _ _ 23 rfl w6.heap.size 9 i0 (.string ⟨#[]⟩) 1 16 Try.underlying23 hi hz0 hz1 hz2 rfl (by decide) _ (p.length + 1) (strs (p ++ [nm])) rfl (H10x.out.own.alloc _) ⟨w10.heap.size, 0, none⟩ 1 1 [.string ⟨#[46, 46]⟩] rfl rfl (cell_one_new _ _ _) (by simp [Value.oneCell']) (by unfold maxLen; omega) (by omega) (by rw [World.size_alloc]; have := H10x.out.kp.size; omega) ?_; intro v11 w11 hown11 hgr11 _ _
             obtain ⟨ra11, rc11, er11, _⟩ := Row.of_own hown11
             subst er11
             have hB11 := (H10x.out.grown _ hgr11).1
             obtain ⟨m0, m1, mf⟩ := cells2 hB11
             have f0 := mf 0
             have H12x := Hid.mk' (H10x.out.push (s := upS) _ hgr11 hown11)
             obtain ⟨l0, l1, l2⟩ := H12x.out.c
             have H12 : Hid (TS w (w.heap.size + 1 + 1) (w.heap.size + 1) n F w.heap.size (.slice va p.length vcp) p sl _) := H6.out.keep H12x.out.kp
             have H12r := Hid.mk' H12x.out.row
             clear mf hB11 hgr11 hown11)
          | (at_builtin; refine wpList_append_own_at _ rfl _ _ 23 rfl w6.heap.size 9 i0 (.string ⟨#[]⟩) 1 16 Try.underlying23 hi hz0 hz1 hz2 rfl (by decide) _ p.length (strs p) rfl (H8x.out.own.alloc _) ⟨(w7.heap.size + 1), 0, none⟩ 1 1 [.string nm] rfl rfl (by have := cell_one_new (w7.alloc (.cells #[.slice r7 p.length c7, .bool false] 25)) (.string nm) 9; rwa [World.size_alloc] at this) (by simp [Value.oneCell']) (by unfold maxLen; omega) (by omega) (by rw [World.size_alloc]; have := H8x.out.kp.size; omega) ?_; intro v9 w9 hown9 hgr9 _ _
             obtain ⟨ra9, rc9, er9, _⟩ := Row.of_own hown9
             subst er9
             have hB9 := (H8x.out.grown _ hgr9).1
             obtain ⟨k0, k1, kf⟩ := cells2 hB9
             have g0 := kf 0
             have H9x := Hid.mk' (H8x.out.push (s := nm) _ hgr9 hown9)
             obtain ⟨j0, j1, j2⟩ := H9x.out.c
             have H9 : Hid (TS w (w.heap.size + 1 + 1) (w.heap.size + 1) n F w.heap.size (.slice va p.length vcp) p sl _) := H6.out.keep H9x.out.kp
             have H9r := Hid.mk' H9x.out.row
             clear kf hB9 hgr9 hown9)
          | (go_at_call 15; refine (TS.step H6 HK p.length (Nat.le_refl _)).mono ?_; rintro e w7 ⟨r7, c7, rfl, H7⟩
             have hA7 := (Keeps.refl (fun _ => False) w7).alloc (.cells #[.slice r7 p.length c7, .bool false] 25)
             have H8x : Hid (BX w6 w7.heap.size (.slice r7 p.length c7) p.length p (w7.alloc (.cells #[.slice r7 p.length c7, .bool false] 25))) := ⟨rfl, H7.out.2.2.2.trans hA7, H7.out.2.2.2.size, heap_last _ _, by have := own_grow H7.out.2.1 hA7; rw [HTk.out] at this; exact this⟩
             obtain ⟨i1, i2, i3⟩ := H8x.out.c
             clear hA7 H7)
          | (go_at_call 14; refine (TS.resolve2 H5 HF (.slice va p.length vcp) p false H5r HK).mono ?_; clear H5r; rintro e w6 ⟨rfl, H6b⟩
             rw [hV1]
             have H6 := Hid.mk' H6b.out.1
             clear H6b
             have t0 := H6.out.pp.c0
             have t1 := H6.out.pp.c1)
          | (go_at_call 13; refine h13.mono ?_; clear h13; rintro e w1 ⟨rfl, H1⟩)
          | (go_at_call 9; refine (TS.first H1).mono ?_; rintro e w2 ⟨rfl, H2⟩
             have x0 := H2.out.pp.c0
             have x1 := H2.out.pp.c1)
          | (at_builtin; refine wpList_append_own_at _ rfl _ _ 23 rfl w2.heap.size 9 i0 (.string ⟨#[]⟩) 1 16 Try.underlying23 hi hz0 hz1 hz2 rfl (by decide) (.slice none 0 0) 0 [] rfl (World.ownsRow_nil _ _ _ _) ⟨w2.heap.size, 0, none⟩ 1 1 [.string ⟨#[46, 46]⟩] rfl rfl (cell_one_new _ _ _) (by simp [Value.oneCell']) (by unfold maxLen; omega) (by omega) (by rw [World.size_alloc]; omega) ?_; intro v3 w3 hown hgr _ _
             have hk3 : Keeps (fun _ => False) w2 w3 := ((Keeps.refl _ w2).alloc _).step hgr (fun k hk => by cases hk)
             have H3 := Hid.mk' (H2.out.keep hk3)
             obtain ⟨ra3, rc3, er3, _⟩ := Row.of_own hown
             subst er3
             have H3r : Hid (Row w3 (.slice ra3 1 rc3) [upS].length (strs [upS])) := Row.of_own hown
             have y0 := H3.out.pp.c0
             have y1 := H3.out.pp.c1
             clear hown hgr hk3)
          | (go_at_call 14; refine (TS.resolve2 H3 HF (.slice ra3 1 rc3) [upS] true H3r HK1).mono ?_; clear H3r; rintro e w4 ⟨rfl, H4b⟩
             rw [HU.out]
             have H4 := Hid.mk' H4b.out.1
             clear H4b
             have z0 := H4.out.pp.c0
             have z1 := H4.out.pp.c1
             have H5 := Hid.mk' (H4.out.keep ((Keeps.refl _ w4).alloc (.cells #[.slice va p.length vcp, .bool false] 25)))
             have H5r := Hid.mk' H5.out.pp.row))
        go_ret
        exact ⟨rfl, H6.out.kp⟩
      · have hD' : (nm.toList == [46]) = false := hD
        have hU' : (nm.toList == [46, 46]) = false := hU
        rcases HC.out hD hU (by rw [hV1]) with ⟨e2, he2, hV2, hV3⟩ | ⟨i2, hi2, hV2, hV3⟩ | ⟨i2, hV2, hV3'⟩
        · clear HC hD hU
          go_enter Try.func5, Try.ntmps5
          go_wp2_with (first
            | (go_at_call 14; refine (TS.resolve2 H12 HF (.slice ra11 (p.length + 1 + 1) rc11) (p ++ [nm] ++ [upS]) false H12r HK3).mono ?_; rintro e w13 ⟨rfl, H13⟩
               rw [hV3])
            | (go_at_call 14; refine (TS.resolve2 H9 HF (.slice ra9 (p.length + 1) rc9) (p ++ [nm]) false H9r HK2).mono ?_; rintro e w10 ⟨rfl, H10b⟩
               rw [hV2]
               have H10x := Hid.mk' (H9x.out.keep H10b.out.2)
               obtain ⟨n0, n1, n2⟩ := H10x.out.c
               clear H10b H9r)
            | (at_builtin; refine wpList_append_own_at _ rfl _ _ 23 rfl w6.heap.size 9 i0 (.string ⟨#[]⟩) 1 16 Try.underlying23 hi hz0 hz1 hz2 rfl (by decide) _ (p.length + 1) (strs (p ++ [nm])) rfl (H10x.out.own.alloc _) ⟨w10.heap.size, 0, none⟩ 1 1 [.string ⟨#[46, 46]⟩] rfl rfl (cell_one_new _ _ _) (by simp [Value.oneCell']) (by unfold maxLen; omega) (by omega) (by rw [World.size_alloc]; have := H10x.out.kp.size; omega) ?_; intro v11 w11 hown11 hgr11 _ _
               obtain ⟨ra11, rc11, er11, _⟩ := Row.of_own hown11
               subst er11
               have hB11 := (H10x.out.grown _ hgr11).1
               obtain ⟨m0, m1, mf⟩ := cells2 hB11
               have f0 := mf 0
               have H12x := Hid.mk' (H10x.out.push (s := upS) _ hgr11 hown11)
               obtain ⟨l0, l1, l2⟩ := H12x.out.c
               have H12 : Hid (TS w (w.heap.size + 1 + 1) (w.heap.size + 1) n F w.heap.size (.slice va p.length vcp) p sl _) := H6.out.keep H12x.out.kp
               have H12r := Hid.mk' H12x.out.row
               clear mf hB11 hgr11 hown11)
            | (at_builtin; refine wpList_append_own_at _ rfl _ _ 23 rfl w6.heap.size 9 i0 (.string ⟨#[]⟩) 1 16 Try.underlying23 hi hz0 hz1 hz2 rfl (by decide) _ p.length (strs p) rfl (H8x.out.own.alloc _) ⟨(w7.heap.size + 1), 0, none⟩ 1 1 [.string nm] rfl rfl (by have := cell_one_new (w7.alloc (.cells #[.slice r7 p.length c7, .bool false] 25)) (.string nm) 9; rwa [World.size_alloc] at this) (by simp [Value.oneCell']) (by unfold maxLen; omega) (by omega) (by rw [World.size_alloc]; have := H8x.out.kp.size; omega) ?_; intro v9 w9 hown9 hgr9 _ _
               obtain ⟨ra9, rc9, er9, _⟩ := Row.of_own hown9
               subst er9
               have hB9 := (H8x.out.grown _ hgr9).1
               obtain ⟨k0, k1, kf⟩ := cells2 hB9
               have g0 := kf 0
               have H9x := Hid.mk' (H8x.out.push (s := nm) _ hgr9 hown9)
               obtain ⟨j0, j1, j2⟩ := H9x.out.c
               have H9 : Hid (TS w (w.heap.size + 1 + 1) (w.heap.size + 1) n F w.heap.size (.slice va p.length vcp) p sl _) := H6.out.keep H9x.out.kp
               have H9r := Hid.mk' H9x.out.row
               clear kf hB9 hgr9 hown9)
            | (go_at_call 15; refine (TS.step H6 HK p.length (Nat.le_refl _)).mono ?_; rintro e w7 ⟨r7, c7, rfl, H7⟩
               have hA7 := (Keeps.refl (fun _ => False) w7).alloc (.cells #[.slice r7 p.length c7, .bool false] 25)
               have H8x : Hid (BX w6 w7.heap.size (.slice r7 p.length c7) p.length p (w7.alloc (.cells #[.slice r7 p.length c7, .bool false] 25))) := ⟨rfl, H7.out.2.2.2.trans hA7, H7.out.2.2.2.size, heap_last _ _, by have := own_grow H7.out.2.1 hA7; rw [HTk.out] at this; exact this⟩
               obtain ⟨i1, i2, i3⟩ := H8x.out.c
               clear hA7 H7)
            | (go_at_call 14; refine (TS.resolve2 H5 HF (.slice va p.length vcp) p false H5r HK).mono ?_; clear H5r; rintro e w6 ⟨rfl, H6b⟩
               rw [hV1]
               have H6 := Hid.mk' H6b.out.1
               clear H6b
               have t0 := H6.out.pp.c0
               have t1 := H6.out.pp.c1)
            | (go_at_call 13; refine h13.mono ?_; clear h13; rintro e w1 ⟨rfl, H1⟩)
            | (go_at_call 9; refine (TS.first H1).mono ?_; rintro e w2 ⟨rfl, H2⟩
               have x0 := H2.out.pp.c0
               have x1 := H2.out.pp.c1)
            | (at_builtin; refine wpList_append_own_at _ rfl _ _ 23 rfl w2.heap.size 9 i0 (.string ⟨#[]⟩) 1 16 Try.underlying23 hi hz0 hz1 hz2 rfl (by decide) (.slice none 0 0) 0 [] rfl (World.ownsRow_nil _ _ _ _) ⟨w2.heap.size, 0, none⟩ 1 1 [.string ⟨#[46, 46]⟩] rfl rfl (cell_one_new _ _ _) (by simp [Value.oneCell']) (by unfold maxLen; omega) (by omega) (by rw [World.size_alloc]; omega) ?_; intro v3 w3 hown hgr _ _
               have hk3 : Keeps (fun _ => False) w2 w3 := ((Keeps.refl _ w2).alloc _).step hgr (fun k hk => by cases hk)
               have H3 := Hid.mk' (H2.out.keep hk3)
               obtain ⟨ra3, rc3, er3, _⟩ := Row.of_own hown
               subst er3
               have H3r : Hid (Row w3 (.slice ra3 1 rc3) [upS].length (strs [upS])) := Row.of_own hown
               have y0 := H3.out.pp.c0
               have y1 := H3.out.pp.c1
               clear hown hgr hk3)
            | (go_at_call 14; refine (TS.resolve2 H3 HF (.slice ra3 1 rc3) [upS] true H3r HK1).mono ?_; clear H3r; rintro e w4 ⟨rfl, H4b⟩
               rw [HU.out]
               have H4 := Hid.mk' H4b.out.1
               clear H4b
               have z0 := H4.out.pp.c0
               have z1 := H4.out.pp.c1
               have H5 := Hid.mk' (H4.out.keep ((Keeps.refl _ w4).alloc (.cells #[.slice va p.length vcp, .bool false] 25)))
               have H5r := Hid.mk' H5.out.pp.row))
          go_ret
          exact ⟨rfl, H13.out.1.kp⟩
        · clear HC hD hU
          go_enter Try.func5, Try.ntmps5
          go_wp2_with (first
            | (go_at_call 14; refine (TS.resolve2 H12 HF (.slice ra11 (p.length + 1 + 1) rc11) (p ++ [nm] ++ [upS]) false H12r HK3).mono ?_; rintro e w13 ⟨rfl, H13⟩
               rw [hV3])
            | (go_at_call 14; refine (TS.resolve2 H9 HF (.slice ra9 (p.length + 1) rc9) (p ++ [nm]) false H9r HK2).mono ?_; rintro e w10 ⟨rfl, H10b⟩
               rw [hV2]
               have H10x := Hid.mk' (H9x.out.keep H10b.out.2)
               obtain ⟨n0, n1, n2⟩ := H10x.out.c
               clear H10b H9r)
            | (at_builtin; refine wpList_append_own_at _ rfl _ _ 23 rfl w6.heap.size 9 i0 (.string ⟨#[]⟩) 1 16 Try.underlying23 hi hz0 hz1 hz2 rfl (by decide) _ (p.length + 1) (strs (p ++ [nm])) rfl (H10x.out.own.alloc _) ⟨w10.heap.size, 0, none⟩ 1 1 [.string ⟨#[46, 46]⟩] rfl rfl (cell_one_new _ _ _) (by simp [Value.oneCell']) (by unfold maxLen; omega) (by omega) (by rw [World.size_alloc]; have := H10x.out.kp.size; omega) ?_; intro v11 w11 hown11 hgr11 _ _
               obtain ⟨ra11, rc11, er11, _⟩ := Row.of_own hown11
               subst er11
               have hB11 := (H10x.out.grown _ hgr11).1
               obtain ⟨m0, m1, mf⟩ := cells2 hB11
               have f0 := mf 0
               have H12x := Hid.mk' (H10x.out.push (s := upS) _ hgr11 hown11)
               obtain ⟨l0, l1, l2⟩ := H12x.out.c
               have H12 : Hid (TS w (w.heap.size + 1 + 1) (w.heap.size + 1) n F w.heap.size (.slice va p.length vcp) p sl _) := H6.out.keep H12x.out.kp
               have H12r := Hid.mk' H12x.out.row
               clear mf hB11 hgr11 hown11)
            | (at_builtin; refine wpList_append_own_at _ rfl _ _ 23 rfl w6.heap.size 9 i0 (.string ⟨#[]⟩) 1 16 Try.underlying23 hi hz0 hz1 hz2 rfl (by decide) _ p.length (strs p) rfl (H8x.out.own.alloc _) ⟨(w7.heap.size + 1), 0, none⟩ 1 1 [.string nm] rfl rfl (by have := cell_one_new (w7.alloc (.cells #[.slice r7 p.length c7, .bool false] 25)) (.string nm) 9; rwa [World.size_alloc] at this) (by simp [Value.oneCell']) (by unfold maxLen; omega) (by omega) (by rw [World.size_alloc]; have := H8x.out.kp.size; omega) ?_; intro v9 w9 hown9 hgr9 _ _
               obtain ⟨ra9, rc9, er9, _⟩ := Row.of_own hown9
               subst er9
               have hB9 := (H8x.out.grown _ hgr9).1
               obtain ⟨k0, k1, kf⟩ := cells2 hB9
               have g0 := kf 0
               have H9x := Hid.mk' (H8x.out.push (s := nm) _ hgr9 hown9)
               obtain ⟨j0, j1, j2⟩ := H9x.out.c
               have H9 : Hid (TS w (w.heap.size + 1 + 1) (w.heap.size + 1) n F w.heap.size (.slice va p.length vcp) p sl _) := H6.out.keep H9x.out.kp
               have H9r := Hid.mk' H9x.out.row
               clear kf hB9 hgr9 hown9)
            | (go_at_call 15; refine (TS.step H6 HK p.length (Nat.le_refl _)).mono ?_; rintro e w7 ⟨r7, c7, rfl, H7⟩
               have hA7 := (Keeps.refl (fun _ => False) w7).alloc (.cells #[.slice r7 p.length c7, .bool false] 25)
               have H8x : Hid (BX w6 w7.heap.size (.slice r7 p.length c7) p.length p (w7.alloc (.cells #[.slice r7 p.length c7, .bool false] 25))) := ⟨rfl, H7.out.2.2.2.trans hA7, H7.out.2.2.2.size, heap_last _ _, by have := own_grow H7.out.2.1 hA7; rw [HTk.out] at this; exact this⟩
               obtain ⟨i1, i2, i3⟩ := H8x.out.c
               clear hA7 H7)
            | (go_at_call 14; refine (TS.resolve2 H5 HF (.slice va p.length vcp) p false H5r HK).mono ?_; clear H5r; rintro e w6 ⟨rfl, H6b⟩
               rw [hV1]
               have H6 := Hid.mk' H6b.out.1
               clear H6b
               have t0 := H6.out.pp.c0
               have t1 := H6.out.pp.c1)
            | (go_at_call 13; refine h13.mono ?_; clear h13; rintro e w1 ⟨rfl, H1⟩)
            | (go_at_call 9; refine (TS.first H1).mono ?_; rintro e w2 ⟨rfl, H2⟩
               have x0 := H2.out.pp.c0
               have x1 := H2.out.pp.c1)
            | (at_builtin; refine wpList_append_own_at _ rfl _ _ 23 rfl w2.heap.size 9 i0 (.string ⟨#[]⟩) 1 16 Try.underlying23 hi hz0 hz1 hz2 rfl (by decide) (.slice none 0 0) 0 [] rfl (World.ownsRow_nil _ _ _ _) ⟨w2.heap.size, 0, none⟩ 1 1 [.string ⟨#[46, 46]⟩] rfl rfl (cell_one_new _ _ _) (by simp [Value.oneCell']) (by unfold maxLen; omega) (by omega) (by rw [World.size_alloc]; omega) ?_; intro v3 w3 hown hgr _ _
               have hk3 : Keeps (fun _ => False) w2 w3 := ((Keeps.refl _ w2).alloc _).step hgr (fun k hk => by cases hk)
               have H3 := Hid.mk' (H2.out.keep hk3)
               obtain ⟨ra3, rc3, er3, _⟩ := Row.of_own hown
               subst er3
               have H3r : Hid (Row w3 (.slice ra3 1 rc3) [upS].length (strs [upS])) := Row.of_own hown
               have y0 := H3.out.pp.c0
               have y1 := H3.out.pp.c1
               clear hown hgr hk3)
            | (go_at_call 14; refine (TS.resolve2 H3 HF (.slice ra3 1 rc3) [upS] true H3r HK1).mono ?_; clear H3r; rintro e w4 ⟨rfl, H4b⟩
               rw [HU.out]
               have H4 := Hid.mk' H4b.out.1
               clear H4b
               have z0 := H4.out.pp.c0
               have z1 := H4.out.pp.c1
               have H5 := Hid.mk' (H4.out.keep ((Keeps.refl _ w4).alloc (.cells #[.slice va p.length vcp, .bool false] 25)))
               have H5r := Hid.mk' H5.out.pp.row))
          go_ret
          exact ⟨rfl, H13.out.1.kp⟩
        · have hV3 := hV3'.trans hV1
          clear HC hD hU hV3'
          go_enter Try.func5, Try.ntmps5
          go_wp2_with (first
            | (go_at_call 14; refine (TS.resolve2 H12 HF (.slice ra11 (p.length + 1 + 1) rc11) (p ++ [nm] ++ [upS]) false H12r HK3).mono ?_; rintro e w13 ⟨rfl, H13⟩
               rw [hV3])
            | (go_at_call 14; refine (TS.resolve2 H9 HF (.slice ra9 (p.length + 1) rc9) (p ++ [nm]) false H9r HK2).mono ?_; rintro e w10 ⟨rfl, H10b⟩
               rw [hV2]
               have H10x := Hid.mk' (H9x.out.keep H10b.out.2)
               obtain ⟨n0, n1, n2⟩ := H10x.out.c
               clear H10b H9r)
            | (at_builtin; refine wpList_append_own_at _ rfl _ _ 23 rfl w6.heap.size 9 i0 (.string ⟨#[]⟩) 1 16 Try.underlying23 hi hz0 hz1 hz2 rfl (by decide) _ (p.length + 1) (strs (p ++ [nm])) rfl (H10x.out.own.alloc _) ⟨w10.heap.size, 0, none⟩ 1 1 [.string ⟨#[46, 46]⟩] rfl rfl (cell_one_new _ _ _) (by simp [Value.oneCell']) (by unfold maxLen; omega) (by omega) (by rw [World.size_alloc]; have := H10x.out.kp.size; omega) ?_; intro v11 w11 hown11 hgr11 _ _
               obtain ⟨ra11, rc11, er11, _⟩ := Row.of_own hown11
               subst er11
               have hB11 := (H10x.out.grown _ hgr11).1
               obtain ⟨m0, m1, mf⟩ := cells2 hB11
               have f0 := mf 0
               have H12x := Hid.mk' (H10x.out.push (s := upS) _ hgr11 hown11)
               obtain ⟨l0, l1, l2⟩ := H12x.out.c
               have H12 : Hid (TS w (w.heap.size + 1 + 1) (w.heap.size + 1) n F w.heap.size (.slice va p.length vcp) p sl _) := H6.out.keep H12x.out.kp
               have H12r := Hid.mk' H12x.out.row
               clear mf hB11 hgr11 hown11)
            | (at_builtin; refine wpList_append_own_at _ rfl _ _ 23 rfl w6.heap.size 9 i0 (.string ⟨#[]⟩) 1 16 Try.underlying23 hi hz0 hz1 hz2 rfl (by decide) _ p.length (strs p) rfl (H8x.out.own.alloc _) ⟨(w7.heap.size + 1), 0, none⟩ 1 1 [.string nm] rfl rfl (by have := cell_one_new (w7.alloc (.cells #[.slice r7 p.length c7, .bool false] 25)) (.string nm) 9; rwa [World.size_alloc] at this) (by simp [Value.oneCell']) (by unfold maxLen; omega) (by omega) (by rw [World.size_alloc]; have := H8x.out.kp.size; omega) ?_; intro v9 w9 hown9 hgr9 _ _
               obtain ⟨ra9, rc9, er9, _⟩ := Row.of_own hown9
               subst er9
               have hB9 := (H8x.out.grown _ hgr9).1
               obtain ⟨k0, k1, kf⟩ := cells2 hB9
               have g0 := kf 0
               have H9x := Hid.mk' (H8x.out.push (s := nm) _ hgr9 hown9)
               obtain ⟨j0, j1, j2⟩ := H9x.out.c
               have H9 : Hid (TS w (w.heap.size + 1 + 1) (w.heap.size + 1) n F w.heap.size (.slice va p.length vcp) p sl _) := H6.out.keep H9x.out.kp
               have H9r := Hid.mk' H9x.out.row
               clear kf hB9 hgr9 hown9)
            | (go_at_call 15; refine (TS.step H6 HK p.length (Nat.le_refl _)).mono ?_; rintro e w7 ⟨r7, c7, rfl, H7⟩
               have hA7 := (Keeps.refl (fun _ => False) w7).alloc (.cells #[.slice r7 p.length c7, .bool false] 25)
               have H8x : Hid (BX w6 w7.heap.size (.slice r7 p.length c7) p.length p (w7.alloc (.cells #[.slice r7 p.length c7, .bool false] 25))) := ⟨rfl, H7.out.2.2.2.trans hA7, H7.out.2.2.2.size, heap_last _ _, by have := own_grow H7.out.2.1 hA7; rw [HTk.out] at this; exact this⟩
               obtain ⟨i1, i2, i3⟩ := H8x.out.c
               clear hA7 H7)
            | (go_at_call 14; refine (TS.resolve2 H5 HF (.slice va p.length vcp) p false H5r HK).mono ?_; clear H5r; rintro e w6 ⟨rfl, H6b⟩
               rw [hV1]
               have H6 := Hid.mk' H6b.out.1
               clear H6b
               have t0 := H6.out.pp.c0
               have t1 := H6.out.pp.c1)
            | (go_at_call 13; refine h13.mono ?_; clear h13; rintro e w1 ⟨rfl, H1⟩)
            | (go_at_call 9; refine (TS.first H1).mono ?_; rintro e w2 ⟨rfl, H2⟩
               have x0 := H2.out.pp.c0
               have x1 := H2.out.pp.c1)
            | (at_builtin; refine wpList_append_own_at _ rfl _ _ 23 rfl w2.heap.size 9 i0 (.string ⟨#[]⟩) 1 16 Try.underlying23 hi hz0 hz1 hz2 rfl (by decide) (.slice none 0 0) 0 [] rfl (World.ownsRow_nil _ _ _ _) ⟨w2.heap.size, 0, none⟩ 1 1 [.string ⟨#[46, 46]⟩] rfl rfl (cell_one_new _ _ _) (by simp [Value.oneCell']) (by unfold maxLen; omega) (by omega) (by rw [World.size_alloc]; omega) ?_; intro v3 w3 hown hgr _ _
               have hk3 : Keeps (fun _ => False) w2 w3 := ((Keeps.refl _ w2).alloc _).step hgr (fun k hk => by cases hk)
               have H3 := Hid.mk' (H2.out.keep hk3)
               obtain ⟨ra3, rc3, er3, _⟩ := Row.of_own hown
               subst er3
               have H3r : Hid (Row w3 (.slice ra3 1 rc3) [upS].length (strs [upS])) := Row.of_own hown
               have y0 := H3.out.pp.c0
               have y1 := H3.out.pp.c1
               clear hown hgr hk3)
            | (go_at_call 14; refine (TS.resolve2 H3 HF (.slice ra3 1 rc3) [upS] true H3r HK1).mono ?_; clear H3r; rintro e w4 ⟨rfl, H4b⟩
               rw [HU.out]
               have H4 := Hid.mk' H4b.out.1
               clear H4b
               have z0 := H4.out.pp.c0
               have z1 := H4.out.pp.c1
               have H5 := Hid.mk' (H4.out.keep ((Keeps.refl _ w4).alloc (.cells #[.slice va p.length vcp, .bool false] 25)))
               have H5r := Hid.mk' H5.out.pp.row))
          go_ret
          exact ⟨rfl, H13.out.1.kp⟩
  · clear HC
    go_enter Try.func5, Try.ntmps5
    go_wp2_with (first
      | (go_at_call 14; refine (TS.resolve2 H12 HF (.slice ra11 (p.length + 1 + 1) rc11) (p ++ [nm] ++ [upS]) false H12r HK3).mono ?_; rintro e w13 ⟨rfl, H13⟩
         rw [hV3])
      | (go_at_call 14; refine (TS.resolve2 H9 HF (.slice ra9 (p.length + 1) rc9) (p ++ [nm]) false H9r HK2).mono ?_; rintro e w10 ⟨rfl, H10b⟩
         rw [hV2]
         have H10x := Hid.mk' (H9x.out.keep H10b.out.2)
         obtain ⟨n0, n1, n2⟩ := H10x.out.c
         clear H10b H9r)
      | (at_builtin; refine wpList_append_own_at _ rfl _ _ 23 rfl w6.heap.size 9 i0 (.string ⟨#[]⟩) 1 16 Try.underlying23 hi hz0 hz1 hz2 rfl (by decide) _ (p.length + 1) (strs (p ++ [nm])) rfl (H10x.out.own.alloc _) ⟨w10.heap.size, 0, none⟩ 1 1 [.string ⟨#[46, 46]⟩] rfl rfl (cell_one_new _ _ _) (by simp [Value.oneCell']) (by unfold maxLen; omega) (by omega) (by rw [World.size_alloc]; have := H10x.out.kp.size; omega) ?_; intro v11 w11 hown11 hgr11 _ _
         obtain ⟨ra11, rc11, er11, _⟩ := Row.of_own hown11
         subst er11
         have hB11 := (H10x.out.grown _ hgr11).1
         obtain ⟨m0, m1, mf⟩ := cells2 hB11
         have f0 := mf 0
         have H12x := Hid.mk' (H10x.out.push (s := upS) _ hgr11 hown11)
         obtain ⟨l0, l1, l2⟩ := H12x.out.c
         have H12 : Hid (TS w (w.heap.size + 1 + 1) (w.heap.size + 1) n F w.heap.size (.slice va p.length vcp) p sl _) := H6.out.keep H12x.out.kp
         have H12r := Hid.mk' H12x.out.row
         clear mf hB11 hgr11 hown11)
      | (at_builtin; refine wpList_append_own_at _ rfl _ _ 23 rfl w6.heap.size 9 i0 (.string ⟨#[]⟩) 1 16 Try.underlying23 hi hz0 hz1 hz2 rfl (by decide) _ p.length (strs p) rfl (H8x.out.own.alloc _) ⟨(w7.heap.size + 1), 0, none⟩ 1 1 [.string nm] rfl rfl (by have := cell_one_new (w7.alloc (.cells #[.slice r7 p.length c7, .bool false] 25)) (.string nm) 9; rwa [World.size_alloc] at this) (by simp [Value.oneCell']) (by unfold maxLen; omega) (by omega) (by rw [World.size_alloc]; have := H8x.out.kp.size; omega) ?_; intro v9 w9 hown9 hgr9 _ _
         obtain ⟨ra9, rc9, er9, _⟩ := Row.of_own hown9
         subst er9
         have hB9 := (H8x.out.grown _ hgr9).1
         obtain ⟨k0, k1, kf⟩ := cells2 hB9
         have g0 := kf 0
         have H9x := Hid.mk' (H8x.out.push (s := nm) _ hgr9 hown9)
         obtain ⟨j0, j1, j2⟩ := H9x.out.c
         have H9 : Hid (TS w (w.heap.size + 1 + 1) (w.heap.size + 1) n F w.heap.size (.slice va p.length vcp) p sl _) := H6.out.keep H9x.out.kp
         have H9r := Hid.mk' H9x.out.row
         clear kf hB9 hgr9 hown9)
      | (go_at_call 15; refine (TS.step H6 HK p.length (Nat.le_refl _)).mono ?_; rintro e w7 ⟨r7, c7, rfl, H7⟩
         have hA7 := (Keeps.refl (fun _ => False) w7).alloc (.cells #[.slice r7 p.length c7, .bool false] 25)
         have H8x : Hid (BX w6 w7.heap.size (.slice r7 p.length c7) p.length p (w7.alloc (.cells #[.slice r7 p.length c7, .bool false] 25))) := ⟨rfl, H7.out.2.2.2.trans hA7, H7.out.2.2.2.size, heap_last _ _, by have := own_grow H7.out.2.1 hA7; rw [HTk.out] at this; exact this⟩
         obtain ⟨i1, i2, i3⟩ := H8x.out.c
         clear hA7 H7)
      | (go_at_call 14; refine (TS.resolve2 H5 HF (.slice va p.length vcp) p false H5r HK).mono ?_; clear H5r; rintro e w6 ⟨rfl, H6b⟩
         rw [hV1]
         have H6 := Hid.mk' H6b.out.1
         clear H6b
         have t0 := H6.out.pp.c0
         have t1 := H6.out.pp.c1)
      | (go_at_call 13; refine h13.mono ?_; clear h13; rintro e w1 ⟨rfl, H1⟩)
      | (go_at_call 9; refine (TS.first H1).mono ?_; rintro e w2 ⟨rfl, H2⟩
         have x0 := H2.out.pp.c0
         have x1 := H2.out.pp.c1)
      | (at_builtin; refine wpList_append_own_at _ rfl _ _ 23 rfl w2.heap.size 9 i0 (.string ⟨#[]⟩) 1 16 Try.underlying23 hi hz0 hz1 hz2 rfl (by decide) (.slice none 0 0) 0 [] rfl (World.ownsRow_nil _ _ _ _) ⟨w2.heap.size, 0, none⟩ 1 1 [.string ⟨#[46, 46]⟩] rfl rfl (cell_one_new _ _ _) (by simp [Value.oneCell']) (by unfold maxLen; omega) (by omega) (by rw [World.size_alloc]; omega) ?_; intro v3 w3 hown hgr _ _
         have hk3 : Keeps (fun _ => False) w2 w3 := ((Keeps.refl _ w2).alloc _).step hgr (fun k hk => by cases hk)
         have H3 := Hid.mk' (H2.out.keep hk3)
         obtain ⟨ra3, rc3, er3, _⟩ := Row.of_own hown
         subst er3
         have H3r : Hid (Row w3 (.slice ra3 1 rc3) [upS].length (strs [upS])) := Row.of_own hown
         have y0 := H3.out.pp.c0
         have y1 := H3.out.pp.c1
         clear hown hgr hk3)
      | (go_at_call 14; refine (TS.resolve2 H3 HF (.slice ra3 1 rc3) [upS] true H3r HK1).mono ?_; clear H3r; rintro e w4 ⟨rfl, H4b⟩
         rw [HU.out]
         have H4 := Hid.mk' H4b.out.1
         clear H4b
         have z0 := H4.out.pp.c0
         have z1 := H4.out.pp.c1
         have H5 := Hid.mk' (H4.out.keep ((Keeps.refl _ w4).alloc (.cells #[.slice va p.length vcp, .bool false] 25)))
         have H5r := Hid.mk' H5.out.pp.row))
    go_ret
    exact ⟨rfl, H6.out.kp⟩
end Go.Proofs.Ytfekgfimbkgkfaa
