import Derived.Test.YtendmohjodeelaaG7
namespace Go.Proofs.Ytendmohjodeelaa
open Go.RowKit Go.Maps Go.Great Go.Shelf
attribute [local go_sem] Oper.semAt_some

def lbs (x b6 b7 b8 bX : Nat) (d : Int) : Bxs := [(bX + 1, 3, .int .i64 d), (bX, 24, .pointer (some ⟨x, 0, none⟩)), (b8, 3, .int .i64 d), (b7, 24, .pointer (some ⟨x, 0, none⟩)), (b6, 4, .bool false)]
def rbs (x b6 b7 b8 bX br bl : Nat) (d : Int) (vl : Value) (r seen met : Int) : Bxs := (bl + 2, 3, .int .i64 met) :: (bl + 1, 3, .int .i64 seen) :: (bl, 26, vl) :: (br, 3, .int .i64 r) :: lbs x b6 b7 b8 bX d
section
variable (w : World) (x bm b6 b7 b8 bX br bl : Nat) (d : Int) (vl : Value) (base : Nat) (L : List De) (ds : List Nat) (r : Int) (Rf : List De → List Rw)
def IL (pre : List De) (W : World) : Prop := ST w W x bm (Rf pre) (rbs x b6 b7 b8 bX br bl d vl r pre.length (cntM pre)) ds base vl L ∧ pre <+: L ∧ (r = 1 → pre = [])
def XL (c : Code) (pre : List De) (W : World) : Prop := (c = .ret ∧ ¬ pre <+: L) ∨ (c = .exit 2 ∧ r = 1 ∧ ST w W x bm (Rf pre) (rbs x b6 b7 b8 bX br bl d vl r pre.length (cntM pre)) ds base vl L ∧ pre <+: L ∧ pre.length = 1)
def ML (W : World) : Prop := ∃ pre, ST w W x bm (Rf pre) (rbs x b6 b7 b8 bX br bl d vl r pre.length (cntM pre)) ds base vl L ∧ (r ≠ 1 → pre = L) ∧ (r = 1 → pre.length = min 1 L.length)
variable {w x bm b6 b7 b8 bX br bl d vl base L ds r Rf}
theorem IL.own {B : Nat} (hB : w.heap.size ≤ B) (hbm : bm < B) (hD : ∀ k ∈ ds, k < B) : OwnFrom B (IL w x bm b6 b7 b8 bX br bl d vl base L ds r Rf) := fun _ _ _ _ hs hg hr => ⟨hs.1.own hB hbm hD hg hr, hs.2⟩
theorem XL.own {B : Nat} (hB : w.heap.size ≤ B) (hbm : bm < B) (hD : ∀ k ∈ ds, k < B) (c : Code) : OwnFrom B (XL w x bm b6 b7 b8 bX br bl d vl base L ds r Rf c) := fun _ _ _ _ hs hg hr => by
  rcases hs with h | ⟨h1, h2, h3, h4⟩
  · exact .inl h
  · exact .inr ⟨h1, h2, h3.own hB hbm hD hg hr, h4⟩
theorem ml_done {W : World} (h : IL w x bm b6 b7 b8 bX br bl d vl base L ds r Rf L W) : ML w x bm b6 b7 b8 bX br bl d vl base L ds r Rf W :=
  ⟨L, h.1, fun _ => rfl, fun h1 => by have := h.2.2 h1; rw [this]; rfl⟩
theorem ml_stop {W : World} {c : Code} {pre : List De} (hp : pre <+: L) (h : XL w x bm b6 b7 b8 bX br bl d vl base L ds r Rf c pre W) : c = .exit 2 ∧ ML w x bm b6 b7 b8 bX br bl d vl base L ds r Rf W := by
  rcases h with ⟨_, h⟩ | ⟨h1, h2, h3, h4, h5⟩
  · exact absurd hp h
  · have hl := h4.length_le
    exact ⟨h1, pre, h3, fun h => absurd h2 h, fun _ => by omega⟩
theorem ST.metL {W : World} {R : List Rw} {s m : Int} (h : ST w W x bm R (rbs x b6 b7 b8 bX br bl d vl r s m) ds base vl L) (hb : b6 < bl ∧ b7 < bl ∧ b8 < bl ∧ bX + 1 < bl ∧ br < bl) (m' : Int) : ST w (W.setCell ⟨bl + 2, 0, none⟩ (.int .i64 m')) x bm R (rbs x b6 b7 b8 bX br bl d vl r s m') ds base vl L :=
  h.set (b := bl + 2) (t := 3) (v := .int .i64 m) (.int .i64 m') (by simp [rbs]) (by decide) (by decide) (by
    intro q hq
    simp only [rbs, lbs, List.mem_cons, List.mem_nil_iff, or_false] at hq ⊢
    rcases hq with rfl | rfl | rfl | rfl | rfl | rfl | rfl | rfl | rfl <;> simp <;> omega)
theorem ST.seenL {W : World} {R : List Rw} {s m : Int} (h : ST w W x bm R (rbs x b6 b7 b8 bX br bl d vl r s m) ds base vl L) (hb : b6 < bl ∧ b7 < bl ∧ b8 < bl ∧ bX + 1 < bl ∧ br < bl) (s' : Int) : ST w (W.setCell ⟨bl + 1, 0, none⟩ (.int .i64 s')) x bm R (rbs x b6 b7 b8 bX br bl d vl r s' m) ds base vl L :=
  h.set (b := bl + 1) (t := 3) (v := .int .i64 s) (.int .i64 s') (by simp [rbs]) (by decide) (by decide) (by
    intro q hq
    simp only [rbs, lbs, List.mem_cons, List.mem_nil_iff, or_false] at hq ⊢
    rcases hq with rfl | rfl | rfl | rfl | rfl | rfl | rfl | rfl | rfl <;> simp <;> omega)
/-- What a step of a round's body keeps beside. -/
def Kr (B : Nat) (W W' : World) : Prop := KeepsFrom B W W' ∧ KpR W W'
theorem Kr.trans {B : Nat} {X Y Z : World} (h : Kr B X Y) (k : Kr B Y Z) : Kr B X Z := ⟨h.1.trans k.1, h.2.trans k.2⟩
theorem Kr.refl (B : Nat) (W : World) : Kr B W W := ⟨KeepsFrom.refl B W, fun _ _ h => h⟩
theorem kr_map {B : Nat} {W W' : World} {R : List Rw} (hi : IxAt W x bm R) (hb : bm < B) (k : Keeps (fun c => c = bm) W W') : Kr B W W' :=
  ⟨keepsFrom_of k (by rintro i rfl; exact .inl hb), KpR.of k (fun b c hc e => hi.no_cells (e ▸ hc))⟩
theorem kr_box {B b : Nat} {W : World} {v v' : Value} (hb : Boxed W b 3 v) : Kr B W (W.setCell ⟨b, 0, none⟩ v') :=
  ⟨keepsFrom_of (one_keeps W b 0 v') (by rintro i rfl; exact .inr ⟨_, _, _, hb⟩), KpR.of (one_keeps W b 0 v') (by rintro b' c hc rfl; have := (show W.heap[b']? = _ from hb).symm.trans hc; simp at this)⟩
end
theorem results_box4L {fn : Func} {p : Tmp} (h : fn.results = #[.cell p 4]) (tmps : Array Value) (w : World) (g : Nat) (v : Value) (hp : tmps.getD p undef = .pointer (some ⟨g, 0, none⟩)) (hb : Boxed w g 4 v) : (results fn tmps).run Try.prog w = .ok v w := by
  have hp' : tmps[p]?.getD undef = .pointer (some ⟨g, 0, none⟩) := by simpa using hp
  have hc := hb.cell
  simp only [results, h]
  simp [hp', asAddr]
  go_simp

set_option maxHeartbeats 80000000 in
set_option maxRecDepth 100000 in
theorem late_walk (w : World) (p : Option Addr) (cap : Nat) (l : List OpT) (hp : OpIn w p l) (hn : l.length < 3000000000000) (dir : Int) (nm : ByteArray) (to : Int) :
    Calls Try.prog 7 #[.slice p l.length cap, .int .i64 dir, .string nm, .int .i64 to] w fun e w' => e = .returned (.bool true) ∧ Keeps (fun _ => False) w w' := by
  have k0 : Keeps (fun _ => False) w (w.alloc (.cells #[.bool false] 4)) := (Keeps.refl _ w).alloc _
  have h10 := st_filled w (w.alloc (.cells #[.bool false] 4)) k0 p cap l (hp.keep k0 (fun _ h => h.elim)) hn [(w.heap.size, 4, .bool false)] (by
    intro q hq
    rw [List.mem_singleton.1 hq]
    exact ⟨Boxed.new w 4 (.bool false), Nat.le_refl _⟩)
  rw [World.size_alloc] at h10
  have ho := fillS_ok l
  have hlen := fillS_len l
  obtain ⟨d, hd⟩ : ∃ d, d = inoF dir := ⟨_, rfl⟩
  obtain ⟨t, ht⟩ : ∃ t, t = inoF to := ⟨_, rfl⟩
  have h16 : ∀ W, Calls Try.prog 16 #[.int .i64 dir] W fun e w' => e = .returned (.int .i64 d) ∧ w' = W := fun W => by rw [hd]; exact ino_any dir W
  have h16b : ∀ W, Calls Try.prog 16 #[.int .i64 to] W fun e w' => e = .returned (.int .i64 t) ∧ w' = W := fun W => by rw [ht]; exact ino_any to W
  have hdb : 1 ≤ d ∧ d ≤ 256 := by rw [hd]; exact inoF_bd _
  have htb : 1 ≤ t ∧ t ≤ 256 := by rw [ht]; exact inoF_bd _
  have hwf : (Lit.int .i64 d).wf = true := wf64 (by omega) (by omega)
  clear hd ht
  generalize fillS l = S at *
  have hlp := late_put ho.1 ho.2 hdb htb nm
  obtain ⟨S1, hS1⟩ : ∃ S1, delS (delS S d mB) d nm = S1 := ⟨_, rfl⟩
  have HS1 := Hid.mk' hS1
  rw [hS1] at hlp
  obtain ⟨S2, hS2⟩ : ∃ S2, putS S1 d mB t = S2 := ⟨_, rfl⟩
  have HS2 := Hid.mk' hS2
  rw [hS2] at hlp
  have HLP := Hid.mk' hlp
  have hSl : S.length < 3000000000000 := by omega
  clear ho hlen hp hn k0 hlp hS1 hS2
  refine (callsIn_wide (n := 9)).1 ?_
  refine callsIn_of_wp_marks Try.func7 rfl trivial ?_ rfl
  simp only [Try.ntmps7, List.size_toArray, List.length_cons, List.length_nil, Nat.reduceAdd, Nat.reduceSub, Array.replicate_succ, Array.replicate_zero, List.push_toArray, List.append_toArray, List.nil_append, List.cons_append]
  refine wpIn_wide.2 ?_
  go_wp2_with (first
    | (go_at_call 22; refine (all_any _ _ _).mono ?_; rintro e w9 ⟨rfl, hw9⟩)
    | (go_at_call 21; refine (st_drop H3 d hwf nm _ _ S1 rfl rfl HS1.out).mono ?_; rintro e w4 ⟨rfl, H4'⟩; have H4 := Hid.mk' H4'.out.1; clear H3 H4' cx cd; have cx := (H4.out.bx (b := w1.heap.size) (t := 24) (v := .pointer (some ⟨w.heap.size + 1 + 1, 0, none⟩)) (by simp)).cell; have cd := (H4.out.bx (b := w2.heap.size) (t := 3) (v := .int .i64 d) (by simp)).cell)
    | (go_at_call 21; refine (st_drop (Hid.mk' (H2.out.newb 3 (.int .i64 d))) d hwf mB _ _ _ rfl rfl rfl).mono ?_; rintro e w3 ⟨rfl, H3'⟩; have H3 := Hid.mk' H3'.out.1; clear H2 H3' cx; have cx := (H3.out.bx (b := w1.heap.size) (t := 24) (v := .pointer (some ⟨w.heap.size + 1 + 1, 0, none⟩)) (by simp)).cell; have cd := (H3.out.bx (b := w2.heap.size) (t := 3) (v := .int .i64 d) (by simp)).cell)
    | (go_at_call 16; refine (h16 _).mono ?_; rintro e w0 ⟨rfl, hw0⟩; subst w0; clear h16)
    | (go_at_call 9; refine (st_first (Hid.mk' (H1.out.newb 24 (.pointer (some ⟨w.heap.size + 1 + 1, 0, none⟩))))).mono ?_; rintro e w2 ⟨rfl, H2⟩; clear H1; have cx := ((H2.out.newb 3 (.int .i64 d)).bx (b := w1.heap.size) (t := 24) (v := .pointer (some ⟨w.heap.size + 1 + 1, 0, none⟩)) (by simp)).cell)
    | (go_at_call 10; refine h10.mono ?_; rintro e w1 ⟨rfl, H1⟩; clear h10))
  obtain ⟨b7, hb7⟩ : ∃ b, w1.heap.size = b := ⟨_, rfl⟩
  obtain ⟨b8, hb8⟩ : ∃ b, w2.heap.size = b := ⟨_, rfl⟩
  obtain ⟨bX, hbX⟩ : ∃ b, w4.heap.size = b := ⟨_, rfl⟩
  have hbs : w.heap.size + 1 < bX ∧ b7 < bX ∧ b8 < bX := by
    have h1 := (H4.out.bx (b := w1.heap.size) (t := 24) (v := .pointer (some ⟨w.heap.size + 1 + 1, 0, none⟩)) (by simp)).lt
    have h2 := (H4.out.bx (b := w2.heap.size) (t := 3) (v := .int .i64 d) (by simp)).lt
    have h3 := H4.out.ix.lt
    omega
  have H9 : Hid (ST w w9 (w.heap.size + 1 + 1) (w.heap.size + 1) S1 (lbs (w.heap.size + 1 + 1) w.heap.size b7 b8 bX d) [] 0 (.slice none 0 0) []) := Hid.mk' (by
    have h := (H4.out.newb 24 (.pointer (some ⟨w.heap.size + 1 + 1, 0, none⟩))).newb 3 (.int .i64 d)
    rw [← hw9] at h
    simp only [World.size_alloc, hb7, hb8, hbX] at h
    exact h)
  rw [← hw9]
  simp only [hb7, hb8, hbX]
  clear hw9 H4 cx cd hb7 hb8 hbX
  have HCL : Hid (∀ (R : List Rw) (ds : List Nat) (base : Nat) (vl : Value) (L : List De) (ww : World), (ST w ww (w.heap.size + 1 + 1) (w.heap.size + 1) R (lbs (w.heap.size + 1 + 1) w.heap.size b7 b8 bX d) ds base vl L) → ww.cell? ⟨b7, 0, none⟩ = some (.pointer (some ⟨w.heap.size + 1 + 1, 0, none⟩)) ∧ ww.cell? ⟨b8, 0, none⟩ = some (.int .i64 d)) := Hid.mk' (fun R ds base vl L ww h =>
    ⟨(h.bx (b := b7) (t := 24) (v := .pointer (some ⟨w.heap.size + 1 + 1, 0, none⟩)) (by simp [lbs])).cell, (h.bx (b := b8) (t := 3) (v := .int .i64 d) (by simp [lbs])).cell⟩)
  have hfew2 : S2.length < 4000000000000 := by have := HLP.out.2.1.few; omega
  have h18 : ∀ nn, Calls Try.prog 18 #[.pointer (some ⟨w.heap.size + 1 + 1, 0, none⟩), .int .i64 d, .string ⟨#[109]⟩, .int .i64 t] (w9.drewN nn) fun e w' => e = .returned (.int .i64 0) ∧ Hid (ST w w' (w.heap.size + 1 + 1) (w.heap.size + 1) S2 (lbs (w.heap.size + 1 + 1) w.heap.size b7 b8 bX d) [] 0 (.slice none 0 0) []) ∧ w'.cell? ⟨b7, 0, none⟩ = some (.pointer (some ⟨w.heap.size + 1 + 1, 0, none⟩)) ∧ w'.cell? ⟨b8, 0, none⟩ = some (.int .i64 d) := by
    intro nn
    refine (st_put (Hid.mk' (H9.out.drewN nn)) d mB t 0 S2 HLP.out.1 HS2.out hfew2).mono ?_
    rintro e w' ⟨rfl, H⟩
    exact ⟨rfl, H.out.1, HCL.out _ _ _ _ _ w' H.out.1⟩
  have H18 := Hid.mk' h18
  obtain ⟨cx, cd⟩ := HCL.out _ _ _ _ _ w9 H9.out
  clear h18
  have hfe : ∀ W : World, (binOp .eql 45 (.func (.func 31) #[] #[.pointer (some ⟨bX, 0, none⟩), .pointer (some ⟨bX + 1, 0, none⟩)]) .nilFunc).run Try.prog W = .ok (.bool false) W := fun W => by first | rfl | kernel_rfl
  go_region_held3 (fun wx => wx.cell? ⟨b7, 0, none⟩ = some (.pointer (some ⟨w.heap.size + 1 + 1, 0, none⟩)) ∧ wx.cell? ⟨b8, 0, none⟩ = some (.int .i64 d))
    (first | go_keep)
    (first
      | (go_at_call 18; refine (H18.out _).mono ?_; rintro e w10 ⟨rfl, H10, x1, x2⟩)
      | (go_at_call 16; refine (h16b _).mono ?_; rintro e w0 ⟨rfl, hw0⟩; subst w0))
  clear H18 cx cd H9 hfe
  have h15 := good_any nm
  by_cases hv : valid nm = true
  · rw [hv] at h15
    by_cases hnm : nm = mB
    · have hnq : (nm.toList == [109]) = true := by rw [hnm]; kernel_rfl
      have HLT : Hid (LT S2 d (S.length + 2)) := Hid.mk' ⟨HLP.out.2.1.rise, HLP.out.2.1.ok, by have := HLP.out.2.1.few; omega, HLP.out.2.1.has⟩
      clear hv hnm
      go_wp2
      go_quiet (first | (go_at_call 15; exact Calls.quiet_of_same (h15 _)))
      have HZ := Hid.mk' (H10.out.drewN nq)
      obtain ⟨WZ, hWZ⟩ : ∃ W, w10.drewN nq = W := ⟨_, rfl⟩
      rw [hWZ] at HZ ⊢
      clear hWZ H10 x1 x2 h15
      go_wp2
      refine wp_loop_rounds 4 ?_
      rw [rounds_succ]
      have HB0 := Hid.mk' (HZ.out.newb 3 (.int .i64 0))
      obtain ⟨br0, hbr0⟩ : ∃ b, WZ.heap.size = b := ⟨_, rfl⟩
      have hbx0 : bX + 1 < br0 := by have := (HZ.out.bx (b := bX + 1) (t := 3) (v := .int .i64 d) (by simp [lbs])).lt; omega
      rw [hbr0] at HB0
      obtain ⟨WW0, hWW0⟩ : ∃ W, WZ.alloc (.cells #[.int .i64 0] 3) = W := ⟨_, rfl⟩
      rw [hWW0] at HB0
      simp only [hbr0, hWW0]
      clear hWW0 hbr0 HZ
      obtain ⟨L0, hL0⟩ : ∃ L, lstS S2 d = L := ⟨_, rfl⟩
      have HL0 := Hid.mk' hL0
      have hLl0 : L0.length < 3500000000000 := by rw [← hL0, lst_len]; have := filt_le S2 (inDir d); have := HLT.out.few; omega
      clear hL0
      have cr0 := (HB0.out.bx (b := br0) (t := 3) (v := .int .i64 0) (by simp)).cell
      have cx0 := (HB0.out.bx (b := b7) (t := 24) (v := .pointer (some ⟨w.heap.size + 1 + 1, 0, none⟩)) (by simp [lbs])).cell
      have cd0 := (HB0.out.bx (b := b8) (t := 3) (v := .int .i64 d) (by simp [lbs])).cell
      go_wp2_with (first
        | (go_at_call 20; refine (st_copy HC0 DC0 (by omega)).mono ?_; rintro e wc0 ⟨pk0, ck0, rfl, HD0⟩; clear HC0 DC0)
        | (go_at_call 11; refine (st_list HB0 d L0 HL0.out).mono ?_; rintro e wl0 ⟨pl0, cl0, rfl, HC0, DC0⟩; clear HB0 cr0 cx0 cd0))
      obtain ⟨bl0, hbl0⟩ : ∃ b, wc0.heap.size = b := ⟨_, rfl⟩
      have hlt0 : br0 < bl0 ∧ w.heap.size + 1 < bl0 := by
        have h1 := (HD0.out.bx (b := br0) (t := 3) (v := .int .i64 0) (by simp)).lt
        have h2 := HD0.out.ix.lt
        omega
      have hdd0 : ∀ k ∈ ([] : List Nat), k < bl0 := fun k hk => by have := heap_lt (HD0.out.nc k hk); omega
      have HDD0 := Hid.mk' hdd0
      obtain ⟨WL0, hWL0⟩ : ∃ W, ((wc0.alloc (.cells #[.slice pk0 L0.length ck0] 26)).alloc (.cells #[.int .i64 0] 3)).alloc (.cells #[.int .i64 0] 3) = W := ⟨_, rfl⟩
      have HE0 : Hid (ST w WL0 (w.heap.size + 1 + 1) (w.heap.size + 1) S2 (rbs (w.heap.size + 1 + 1) w.heap.size b7 b8 bX br0 bl0 d (.slice pk0 L0.length ck0) 0 0 0) [] wl0.heap.size (.slice pk0 L0.length ck0) L0) := Hid.mk' (by
        have h := ((HD0.out.newb 26 (.slice pk0 L0.length ck0)).newb 3 (.int .i64 0)).newb 3 (.int .i64 0)
        rw [hWL0] at h
        simp only [World.size_alloc, hbl0] at h
        exact h)
      have hszL0 : WL0.heap.size = bl0 + 3 := by rw [← hWL0]; simp only [World.size_alloc, hbl0]
      simp only [hbl0, hWL0]
      clear hWL0 hbl0 HD0
      have cX0 := (HE0.out.bx (b := bX) (t := 24) (v := .pointer (some ⟨w.heap.size + 1 + 1, 0, none⟩)) (by simp [rbs, lbs])).cell
      have cD0 := (HE0.out.bx (b := bX + 1) (t := 3) (v := .int .i64 d) (by simp [rbs, lbs])).cell
      have hseq0 := all_stopsR 8 bX (bX + 1) (w.heap.size + 1 + 1) (w.heap.size + 1) d S2 HE0.out.few WL0 cX0 cD0 HE0.out.ix
      rw [HL0.out] at hseq0
      have HO0 : Hid (w.heap.size < bl0 ∧ b7 < bl0 ∧ b8 < bl0 ∧ bX + 1 < bl0 ∧ br0 < bl0) := Hid.mk' (by omega)
      refine wpIn_wide.1 (rangeFunc_m (n := 9) rfl (by decide) (gf := 31) (lb := #[.pointer (some ⟨bX, 0, none⟩), .pointer (some ⟨bX + 1, 0, none⟩)]) rfl trivial (enters_of Try.func31 (by kernel_rfl) rfl)
        hseq0 (fun h k => h.trans k) (kpR_b WL0) (Below.refl _ _) (fun _ => rfl)
        (IL w (w.heap.size + 1 + 1) (w.heap.size + 1) w.heap.size b7 b8 bX br0 bl0 d (.slice pk0 L0.length ck0) wl0.heap.size L0 [] 0 (lateR S2 d)) (XL w (w.heap.size + 1 + 1) (w.heap.size + 1) w.heap.size b7 b8 bX br0 bl0 d (.slice pk0 L0.length ck0) wl0.heap.size L0 [] 0 (lateR S2 d)) (IL.own (by omega) (by omega) (fun k hk => by have := hdd0 k hk; omega)) (XL.own (by omega) (by omega) (fun k hk => by have := hdd0 k hk; omega)) ⟨HE0.out, List.nil_prefix, fun _ => rfl⟩
        (fun x' t => (((t.setIfInBounds 72 (.string x'.1)).setIfInBounds 73 (.int .i64 x'.2)).setIfInBounds 16 (.string x'.1)).setIfInBounds 17 (.int .i64 x'.2))
        (ML w (w.heap.size + 1 + 1) (w.heap.size + 1) w.heap.size b7 b8 bX br0 bl0 d (.slice pk0 L0.length ck0) wl0.heap.size L0 [] 0 (lateR S2 d)) 2
        (fun xs W hS hi => by subst hS; exact ml_done hi) (fun c pre W hS hx => ml_stop hS hx) ?hQ0 ?assign0 ?body0 ?rest0)
      case hQ0 => intro a W h; simpa only [Exit.inBlock, if_true] using h
      case assign0 =>
        intro r x' W K hK
        simp only [encs]
        gi_wp2
        simpa using hK
      case body0 =>
        rintro rr pre x' W ⟨hS, hpre, hr1⟩ hl
        simp only [List.setIfInBounds_toArray, List.set_cons_zero, List.set_cons_succ]
        have cs := (hS.bx (b := bl0 + 1) (t := 3) (v := .int .i64 pre.length) (by simp [rbs])).cell
        have fs := (hS.bx (b := bl0 + 1) (t := 3) (v := .int .i64 pre.length) (by simp [rbs])).frozen
        have cm := (hS.bx (b := bl0 + 2) (t := 3) (v := .int .i64 (cntM pre)) (by simp [rbs])).cell
        have fm := (hS.bx (b := bl0 + 2) (t := 3) (v := .int .i64 (cntM pre)) (by simp [rbs])).frozen
        have cl := (hS.bx (b := bl0) (t := 26) (v := .slice pk0 L0.length ck0) (by simp [rbs])).cell
        have cr := (hS.bx (b := br0) (t := 3) (v := .int .i64 0) (by simp [rbs])).cell
        have c6 := (hS.bx (b := w.heap.size) (t := 4) (v := .bool false) (by simp [rbs, lbs])).cell
        have f6 := (hS.bx (b := w.heap.size) (t := 4) (v := .bool false) (by simp [rbs, lbs])).frozen
        obtain ⟨g, o, cap', e, _, hcell⟩ := hS.row.dsl.pos (by omega)
        cases e
        obtain ⟨q0, q1⟩ := hcell pre.length hl
        have hget : L0[pre.length]? = some (L0.getD pre.length dz) := by rw [getD_lt hl, List.getElem?_eq_getElem hl]
        have hlt : (pre.length : Int) < (L0.length : Int) := by omega
        have hlt2 : ¬ (L0.length : Int) ≤ (pre.length : Int) := by omega
        have hp0 : (0 : Int) ≤ (pre.length : Int) := by omega
        have hcn : (cntM pre : Int) < 3500000000000 := by have := cnt_le pre; omega
        have hcn0 : (0 : Int) ≤ (cntM pre : Int) := by omega
        generalize L0.getD pre.length dz = y at *
        have HMIS : Hid (y ≠ x' → ¬ pre ++ [x'] <+: L0) := Hid.mk' (fun hne hp => by
          have := prefix_snoc_get hp
          rw [hget] at this
          exact hne (Option.some.inj this))
        have HS := Hid.mk' hS
        have HPR := Hid.mk' hpre
        have HR1 := Hid.mk' hr1
        have HGET := Hid.mk' hget
        clear hcell hget hS hpre hr1
        by_cases hxy : y.1 = x'.1
        · have hb1 : (y.1.toList == x'.1.toList) = true := by rw [beq_toList]; exact decide_eq_true hxy
          by_cases hvv : y.2 = x'.2
          · have hb2 : (y.2 == x'.2) = true := by simpa using hvv
            have hb3 : (y.2 != x'.2) = false := by simpa using hvv
            obtain rfl : y = x' := Prod.ext hxy hvv
            have HPX : Hid (pre ++ [y] <+: L0) := Hid.mk' (prefix_get_snoc HPR.out HGET.out)
            have hm109 : mB.toList = [109] := by kernel_rfl
            by_cases hm : y.1 = mB
            · have hq1 : (y.1.toList == [109]) = true := by rw [← hm109, beq_toList]; exact decide_eq_true hm
              have hSa := HS.out.metL HO0.out ((cntM pre : Int) + 1)
              have hka : Kr (bl0 + 3) W (W.setCell ⟨bl0 + 2, 0, none⟩ (.int .i64 ((cntM pre : Int) + 1))) := kr_box (HS.out.bx (b := bl0 + 2) (t := 3) (v := .int .i64 (cntM pre)) (by simp [rbs]))
              generalize hWa : W.setCell ⟨bl0 + 2, 0, none⟩ (.int .i64 ((cntM pre : Int) + 1)) = Wa at *
              have HMN := Hid.mk' hm
              have hSb := hSa.seenL HO0.out ((pre.length : Int) + 1)
              have hkb : Kr (bl0 + 3) W (Wa.setCell ⟨bl0 + 1, 0, none⟩ (.int .i64 ((pre.length : Int) + 1))) := hka.trans (kr_box (hSa.bx (b := bl0 + 1) (t := 3) (v := .int .i64 pre.length) (by simp [rbs])))
              have a1 := (hSa.bx (b := bl0 + 1) (t := 3) (v := .int .i64 pre.length) (by simp [rbs])).cell
              have a2 := (hSa.bx (b := bl0 + 1) (t := 3) (v := .int .i64 pre.length) (by simp [rbs])).frozen
              generalize hWb : Wa.setCell ⟨bl0 + 1, 0, none⟩ (.int .i64 ((pre.length : Int) + 1)) = Wb at *
              have n0 := (hSb.bx (b := br0) (t := 3) (v := .int .i64 0) (by simp [rbs])).cell
              have n7 := (hSb.bx (b := b7) (t := 24) (v := .pointer (some ⟨w.heap.size + 1 + 1, 0, none⟩)) (by simp [rbs, lbs])).cell
              have n8 := (hSb.bx (b := b8) (t := 3) (v := .int .i64 d) (by simp [rbs, lbs])).cell
              have h21 : ∀ m, CallsIn (Fence.wide.inRound rr) m Try.prog 21 #[.pointer (some ⟨w.heap.size + 1 + 1, 0, none⟩), .int .i64 d, .string y.1] Wb fun e w' => ∃ a E : Int, e = .returned (.tuple #[.int .i64 a, .int .i64 E]) ∧ Hid (ST w w' (w.heap.size + 1 + 1) (w.heap.size + 1) ((lateR S2 d) (pre ++ [y])) (rbs (w.heap.size + 1 + 1) w.heap.size b7 b8 bX br0 bl0 d (.slice (some ⟨g, o, none⟩) L0.length ck0) 0 ((pre.length : Int) + 1) ((cntM pre : Int) + 1)) [] wl0.heap.size (.slice (some ⟨g, o, none⟩) L0.length ck0) L0 ∧ Kr (bl0 + 3) W w') ∧ w'.cell? ⟨br0, 0, none⟩ = some (.int .i64 0) := fun m => CallsIn.inRound rr (callsIn_wide.2 ((st_drop (Hid.mk' hSb) d hwf y.1 _ _ ((lateR S2 d) (pre ++ [y])) rfl rfl (by rw [hm]; exact lateR_snoc_m hm)).mono (by
                rintro e w' ⟨rfl, H⟩
                exact ⟨_, _, rfl, ⟨H.out.1, hkb.trans (kr_map hSb.ix (by omega) H.out.2)⟩, (H.out.1.bx (b := br0) (t := 3) (v := .int .i64 0) (by simp [rbs])).cell⟩)))
              have H21 := Hid.mk' h21
              clear h21 hSb hkb hSa hka hm hxy hvv
              gi_wp2_with (first
                | (refine ⟨trivial, ?_⟩; (try refine ⟨fun h => (by cases h), ?_⟩); gi_at_call 21; refine (H21.out _).mono ?_; clear H21; rintro e w5 ⟨a5, E5, rfl, H5, z0⟩))
              refine ⟨by first | exact H5.out.2.1 | (rw [hszL0]; exact H5.out.2.1), H5.out.2.2, ?_, HPX.out, fun h => by cases h⟩
              rw [List.length_append, cnt_snoc_m HMN.out]
              exact H5.out.1
            · have hq1 : (y.1.toList == [109]) = false := by rw [← hm109, beq_toList]; exact decide_eq_false hm
              have hSa := HS.out
              have hka : Kr (bl0 + 3) W W := Kr.refl _ _
              obtain ⟨Wa, hWa⟩ : ∃ Wa, W = Wa := ⟨_, rfl⟩
              have HMN : Hid (y.1 ≠ mB) := Hid.mk' hm
              have hSb := hSa.seenL HO0.out ((pre.length : Int) + 1)
              have hkb : Kr (bl0 + 3) W (W.setCell ⟨bl0 + 1, 0, none⟩ (.int .i64 ((pre.length : Int) + 1))) := hka.trans (kr_box (hSa.bx (b := bl0 + 1) (t := 3) (v := .int .i64 pre.length) (by simp [rbs])))
              have a1 := (hSa.bx (b := bl0 + 1) (t := 3) (v := .int .i64 pre.length) (by simp [rbs])).cell
              have a2 := (hSa.bx (b := bl0 + 1) (t := 3) (v := .int .i64 pre.length) (by simp [rbs])).frozen
              generalize hWb : W.setCell ⟨bl0 + 1, 0, none⟩ (.int .i64 ((pre.length : Int) + 1)) = Wb at *
              have n0 := (hSb.bx (b := br0) (t := 3) (v := .int .i64 0) (by simp [rbs])).cell
              have HSB := Hid.mk' hSb
              have HKB := Hid.mk' hkb
              clear hSb hkb hSa hka hm hxy hvv hWa
              gi_wp2
              refine ⟨by first | exact HKB.out.1 | (rw [hszL0]; exact HKB.out.1), HKB.out.2, ?_, HPX.out, fun h => by cases h⟩
              rw [List.length_append, cnt_snoc HMN.out, lateR_snoc HMN.out]
              exact HSB.out
          · have hb2 : (y.2 == x'.2) = false := by simpa using hvv
            have hb3 : (y.2 != x'.2) = true := by simpa using hvv
            have HNE : Hid (¬ pre ++ [x'] <+: L0) := Hid.mk' (HMIS.out (fun e => hvv (by rw [e])))
            clear hxy hvv
            gi_wp2
            exact ⟨keepsFrom_of (one_keeps _ _ _ _) (by rintro i rfl; exact .inr ⟨_, _, _, HS.out.bx (b := w.heap.size) (t := 4) (v := .bool false) (by simp [rbs, lbs])⟩), .inl ⟨rfl, HNE.out⟩⟩
        · have hb1 : (y.1.toList == x'.1.toList) = false := by rw [beq_toList]; exact decide_eq_false hxy
          have HNE : Hid (¬ pre ++ [x'] <+: L0) := Hid.mk' (HMIS.out (fun e => hxy (by rw [e])))
          clear hxy
          gi_wp2
          exact ⟨keepsFrom_of (one_keeps _ _ _ _) (by rintro i rfl; exact .inr ⟨_, _, _, HS.out.bx (b := w.heap.size) (t := 4) (v := .bool false) (by simp [rbs, lbs])⟩), .inl ⟨rfl, HNE.out⟩⟩
      case rest0 =>
        rintro D0 WR0 hDD0 hK0 ⟨pre0, hS0, hp10, hp20⟩
        obtain ⟨S4, hS4⟩ : ∃ S4, delS S2 d mB = S4 := ⟨_, rfl⟩
        have HG4 : Hid (cntM (lstS S4 d) = 0 ∧ getS S4 d mB = 0) := Hid.mk' (by rw [← hS4]; exact ⟨lt_gone.1, lt_gone.2.1⟩)
        have hl4 : S4.length ≤ (S2).length := by rw [← hS4]; exact List.length_filter_le ..
        have HF4 : Hid (S4.length < 3500000000000) := Hid.mk' (by have h1 := HLT.out.few; omega)
        clear hl4
        have hpL := hp10 (by decide)
        rw [hpL] at hS0
        have hc1 : cntM L0 = 1 := by rw [← HL0.out]; exact (lt_one HLT.out).1
        have hRe : lateR S2 d L0 = S4 := by rw [← HL0.out, lateR_end HLT.out]; exact hS4
        rw [hc1, hRe] at hS0
        clear hpL hc1 hRe hS4 hp10 hp20 pre0
        have HF0 := Hid.mk' (hS0.addD hK0)
        have hDlt0 : w.heap.size < D0 ∧ bl0 + 3 ≤ D0 := by omega
        have cr := (HF0.out.bx (b := br0) (t := 3) (v := .int .i64 0) (by simp [rbs])).cell
        have cs := (HF0.out.bx (b := bl0 + 1) (t := 3) (v := .int .i64 (L0.length : Int)) (by simp [rbs])).cell
        have cm := (HF0.out.bx (b := bl0 + 2) (t := 3) (v := .int .i64 ((1 : Nat) : Int)) (by simp [rbs])).cell
        have cl := (HF0.out.bx (b := bl0) (t := 26) (v := .slice pk0 L0.length ck0) (by simp [rbs])).cell
        clear hS0 hK0 hDD0 HE0 cX0 cD0 hseq0 hszL0 hdd0
        simp only [Exit.inBlock, Exit.then]
        go_wp2
        rw [rounds_succ]
        have HB1 : Hid (ST w (WR0.alloc (.cells #[.int .i64 1] 3)) (w.heap.size + 1 + 1) (w.heap.size + 1) S4 ((WR0.heap.size, 3, .int .i64 1) :: (lbs (w.heap.size + 1 + 1) w.heap.size b7 b8 bX d)) [D0] wl0.heap.size (.slice pk0 L0.length ck0) L0) := Hid.mk' (by
          have h := (HF0.out.sub (bs' := (lbs (w.heap.size + 1 + 1) w.heap.size b7 b8 bX d)) (by intro q hq; simp only [rbs, List.mem_cons]; right; right; right; right; exact hq)).newb 3 (.int .i64 1)
          exact h)
        obtain ⟨br1, hbr1⟩ : ∃ b, WR0.heap.size = b := ⟨_, rfl⟩
        have hbx1 : bX + 1 < br1 := by have := (HF0.out.bx (b := bX + 1) (t := 3) (v := .int .i64 d) (by simp [rbs, lbs])).lt; omega
        rw [hbr1] at HB1
        obtain ⟨WW1, hWW1⟩ : ∃ W, WR0.alloc (.cells #[.int .i64 1] 3) = W := ⟨_, rfl⟩
        rw [hWW1] at HB1
        simp only [hbr1, hWW1]
        clear hWW1 hbr1 HF0 cr cs cm cl
        obtain ⟨L1, hL1⟩ : ∃ L, lstS S4 d = L := ⟨_, rfl⟩
        have HL1 := Hid.mk' hL1
        have hLl1 : L1.length < 3500000000000 := by rw [← hL1, lst_len]; have := filt_le S4 (inDir d); have := HF4.out; omega
        clear hL1
        have cr1 := (HB1.out.bx (b := br1) (t := 3) (v := .int .i64 1) (by simp)).cell
        have cx1 := (HB1.out.bx (b := b7) (t := 24) (v := .pointer (some ⟨w.heap.size + 1 + 1, 0, none⟩)) (by simp [lbs])).cell
        have cd1 := (HB1.out.bx (b := b8) (t := 3) (v := .int .i64 d) (by simp [lbs])).cell
        go_wp2_with (first
          | (go_at_call 20; refine (st_copy HC1 DC1 (by omega)).mono ?_; rintro e wc1 ⟨pk1, ck1, rfl, HD1⟩; clear HC1 DC1)
          | (go_at_call 11; refine (st_list HB1 d L1 HL1.out).mono ?_; rintro e wl1 ⟨pl1, cl1, rfl, HC1, DC1⟩; clear HB1 cr1 cx1 cd1))
        obtain ⟨bl1, hbl1⟩ : ∃ b, wc1.heap.size = b := ⟨_, rfl⟩
        have hlt1 : br1 < bl1 ∧ w.heap.size + 1 < bl1 := by
          have h1 := (HD1.out.bx (b := br1) (t := 3) (v := .int .i64 1) (by simp)).lt
          have h2 := HD1.out.ix.lt
          omega
        have hdd1 : ∀ k ∈ ([D0] : List Nat), k < bl1 := fun k hk => by have := heap_lt (HD1.out.nc k hk); omega
        have HDD1 := Hid.mk' hdd1
        obtain ⟨WL1, hWL1⟩ : ∃ W, ((wc1.alloc (.cells #[.slice pk1 L1.length ck1] 26)).alloc (.cells #[.int .i64 0] 3)).alloc (.cells #[.int .i64 0] 3) = W := ⟨_, rfl⟩
        have HE1 : Hid (ST w WL1 (w.heap.size + 1 + 1) (w.heap.size + 1) S4 (rbs (w.heap.size + 1 + 1) w.heap.size b7 b8 bX br1 bl1 d (.slice pk1 L1.length ck1) 1 0 0) [D0] wl1.heap.size (.slice pk1 L1.length ck1) L1) := Hid.mk' (by
          have h := ((HD1.out.newb 26 (.slice pk1 L1.length ck1)).newb 3 (.int .i64 0)).newb 3 (.int .i64 0)
          rw [hWL1] at h
          simp only [World.size_alloc, hbl1] at h
          exact h)
        have hszL1 : WL1.heap.size = bl1 + 3 := by rw [← hWL1]; simp only [World.size_alloc, hbl1]
        simp only [hbl1, hWL1]
        clear hWL1 hbl1 HD1
        have cX1 := (HE1.out.bx (b := bX) (t := 24) (v := .pointer (some ⟨w.heap.size + 1 + 1, 0, none⟩)) (by simp [rbs, lbs])).cell
        have cD1 := (HE1.out.bx (b := bX + 1) (t := 3) (v := .int .i64 d) (by simp [rbs, lbs])).cell
        have hseq1 := all_stopsR 8 bX (bX + 1) (w.heap.size + 1 + 1) (w.heap.size + 1) d S4 HE1.out.few WL1 cX1 cD1 HE1.out.ix
        rw [HL1.out] at hseq1
        have HO1 : Hid (w.heap.size < bl1 ∧ b7 < bl1 ∧ b8 < bl1 ∧ bX + 1 < bl1 ∧ br1 < bl1) := Hid.mk' (by omega)
        refine wpIn_wide.1 (rangeFunc_m (n := 9) rfl (by decide) (gf := 31) (lb := #[.pointer (some ⟨bX, 0, none⟩), .pointer (some ⟨bX + 1, 0, none⟩)]) rfl trivial (enters_of Try.func31 (by kernel_rfl) rfl)
          hseq1 (fun h k => h.trans k) (kpR_b WL1) (Below.refl _ _) (fun _ => rfl)
          (IL w (w.heap.size + 1 + 1) (w.heap.size + 1) w.heap.size b7 b8 bX br1 bl1 d (.slice pk1 L1.length ck1) wl1.heap.size L1 [D0] 1 (fun _ => S4)) (XL w (w.heap.size + 1 + 1) (w.heap.size + 1) w.heap.size b7 b8 bX br1 bl1 d (.slice pk1 L1.length ck1) wl1.heap.size L1 [D0] 1 (fun _ => S4)) (IL.own (by omega) (by omega) (fun k hk => by have := hdd1 k hk; omega)) (XL.own (by omega) (by omega) (fun k hk => by have := hdd1 k hk; omega)) ⟨HE1.out, List.nil_prefix, fun _ => rfl⟩
          (fun x' t => (((t.setIfInBounds 72 (.string x'.1)).setIfInBounds 73 (.int .i64 x'.2)).setIfInBounds 16 (.string x'.1)).setIfInBounds 17 (.int .i64 x'.2))
          (ML w (w.heap.size + 1 + 1) (w.heap.size + 1) w.heap.size b7 b8 bX br1 bl1 d (.slice pk1 L1.length ck1) wl1.heap.size L1 [D0] 1 (fun _ => S4)) 2
          (fun xs W hS hi => by subst hS; exact ml_done hi) (fun c pre W hS hx => ml_stop hS hx) ?hQ1 ?assign1 ?body1 ?rest1)
        case hQ1 => intro a W h; simpa only [Exit.inBlock, if_true] using h
        case assign1 =>
          intro r x' W K hK
          simp only [encs]
          gi_wp2
          simpa using hK
        case body1 =>
          rintro rr pre x' W ⟨hS, hpre, hr1⟩ hl
          simp only [List.setIfInBounds_toArray, List.set_cons_zero, List.set_cons_succ]
          have cs := (hS.bx (b := bl1 + 1) (t := 3) (v := .int .i64 pre.length) (by simp [rbs])).cell
          have fs := (hS.bx (b := bl1 + 1) (t := 3) (v := .int .i64 pre.length) (by simp [rbs])).frozen
          have cm := (hS.bx (b := bl1 + 2) (t := 3) (v := .int .i64 (cntM pre)) (by simp [rbs])).cell
          have fm := (hS.bx (b := bl1 + 2) (t := 3) (v := .int .i64 (cntM pre)) (by simp [rbs])).frozen
          have cl := (hS.bx (b := bl1) (t := 26) (v := .slice pk1 L1.length ck1) (by simp [rbs])).cell
          have cr := (hS.bx (b := br1) (t := 3) (v := .int .i64 1) (by simp [rbs])).cell
          have c6 := (hS.bx (b := w.heap.size) (t := 4) (v := .bool false) (by simp [rbs, lbs])).cell
          have f6 := (hS.bx (b := w.heap.size) (t := 4) (v := .bool false) (by simp [rbs, lbs])).frozen
          obtain ⟨g, o, cap', e, _, hcell⟩ := hS.row.dsl.pos (by omega)
          cases e
          obtain ⟨q0, q1⟩ := hcell pre.length hl
          have hget : L1[pre.length]? = some (L1.getD pre.length dz) := by rw [getD_lt hl, List.getElem?_eq_getElem hl]
          have hlt : (pre.length : Int) < (L1.length : Int) := by omega
          have hlt2 : ¬ (L1.length : Int) ≤ (pre.length : Int) := by omega
          have hp0 : (0 : Int) ≤ (pre.length : Int) := by omega
          have hcn : (cntM pre : Int) < 3500000000000 := by have := cnt_le pre; omega
          have hcn0 : (0 : Int) ≤ (cntM pre : Int) := by omega
          generalize L1.getD pre.length dz = y at *
          have HMIS : Hid (y ≠ x' → ¬ pre ++ [x'] <+: L1) := Hid.mk' (fun hne hp => by
            have := prefix_snoc_get hp
            rw [hget] at this
            exact hne (Option.some.inj this))
          have HS := Hid.mk' hS
          have HPR := Hid.mk' hpre
          have HR1 := Hid.mk' hr1
          have HGET := Hid.mk' hget
          clear hcell hget hS hpre hr1
          by_cases hxy : y.1 = x'.1
          · have hb1 : (y.1.toList == x'.1.toList) = true := by rw [beq_toList]; exact decide_eq_true hxy
            by_cases hvv : y.2 = x'.2
            · have hb2 : (y.2 == x'.2) = true := by simpa using hvv
              have hb3 : (y.2 != x'.2) = false := by simpa using hvv
              obtain rfl : y = x' := Prod.ext hxy hvv
              have HPX : Hid (pre ++ [y] <+: L1) := Hid.mk' (prefix_get_snoc HPR.out HGET.out)
              have hm109 : mB.toList = [109] := by kernel_rfl
              by_cases hm : y.1 = mB
              · have hq1 : (y.1.toList == [109]) = true := by rw [← hm109, beq_toList]; exact decide_eq_true hm
                have hSa := HS.out.metL HO1.out ((cntM pre : Int) + 1)
                have hka : Kr (bl1 + 3) W (W.setCell ⟨bl1 + 2, 0, none⟩ (.int .i64 ((cntM pre : Int) + 1))) := kr_box (HS.out.bx (b := bl1 + 2) (t := 3) (v := .int .i64 (cntM pre)) (by simp [rbs]))
                generalize hWa : W.setCell ⟨bl1 + 2, 0, none⟩ (.int .i64 ((cntM pre : Int) + 1)) = Wa at *
                have HMN := Hid.mk' hm
                have hSb := hSa.seenL HO1.out ((pre.length : Int) + 1)
                have hkb : Kr (bl1 + 3) W (Wa.setCell ⟨bl1 + 1, 0, none⟩ (.int .i64 ((pre.length : Int) + 1))) := hka.trans (kr_box (hSa.bx (b := bl1 + 1) (t := 3) (v := .int .i64 pre.length) (by simp [rbs])))
                have a1 := (hSa.bx (b := bl1 + 1) (t := 3) (v := .int .i64 pre.length) (by simp [rbs])).cell
                have a2 := (hSa.bx (b := bl1 + 1) (t := 3) (v := .int .i64 pre.length) (by simp [rbs])).frozen
                generalize hWb : Wa.setCell ⟨bl1 + 1, 0, none⟩ (.int .i64 ((pre.length : Int) + 1)) = Wb at *
                have n0 := (hSb.bx (b := br1) (t := 3) (v := .int .i64 1) (by simp [rbs])).cell
                have HSB := Hid.mk' hSb
                have HKB := Hid.mk' hkb
                clear hSb hkb hSa hka hm hxy hvv
                gi_wp2
                refine ⟨by first | exact HKB.out.1 | (rw [hszL1]; exact HKB.out.1), .inr ⟨rfl, rfl, ?_, HPX.out, by rw [List.length_append, HR1.out (by decide)]; rfl⟩⟩
                rw [List.length_append, cnt_snoc_m HMN.out]
                exact HSB.out
              · have hq1 : (y.1.toList == [109]) = false := by rw [← hm109, beq_toList]; exact decide_eq_false hm
                have hSa := HS.out
                have hka : Kr (bl1 + 3) W W := Kr.refl _ _
                obtain ⟨Wa, hWa⟩ : ∃ Wa, W = Wa := ⟨_, rfl⟩
                have HMN : Hid (y.1 ≠ mB) := Hid.mk' hm
                have hSb := hSa.seenL HO1.out ((pre.length : Int) + 1)
                have hkb : Kr (bl1 + 3) W (W.setCell ⟨bl1 + 1, 0, none⟩ (.int .i64 ((pre.length : Int) + 1))) := hka.trans (kr_box (hSa.bx (b := bl1 + 1) (t := 3) (v := .int .i64 pre.length) (by simp [rbs])))
                have a1 := (hSa.bx (b := bl1 + 1) (t := 3) (v := .int .i64 pre.length) (by simp [rbs])).cell
                have a2 := (hSa.bx (b := bl1 + 1) (t := 3) (v := .int .i64 pre.length) (by simp [rbs])).frozen
                generalize hWb : W.setCell ⟨bl1 + 1, 0, none⟩ (.int .i64 ((pre.length : Int) + 1)) = Wb at *
                have n0 := (hSb.bx (b := br1) (t := 3) (v := .int .i64 1) (by simp [rbs])).cell
                have HSB := Hid.mk' hSb
                have HKB := Hid.mk' hkb
                clear hSb hkb hSa hka hm hxy hvv hWa
                gi_wp2
                refine ⟨by first | exact HKB.out.1 | (rw [hszL1]; exact HKB.out.1), .inr ⟨rfl, rfl, ?_, HPX.out, by rw [List.length_append, HR1.out (by decide)]; rfl⟩⟩
                rw [List.length_append, cnt_snoc HMN.out]
                exact HSB.out
            · have hb2 : (y.2 == x'.2) = false := by simpa using hvv
              have hb3 : (y.2 != x'.2) = true := by simpa using hvv
              have HNE : Hid (¬ pre ++ [x'] <+: L1) := Hid.mk' (HMIS.out (fun e => hvv (by rw [e])))
              clear hxy hvv
              gi_wp2
              exact ⟨keepsFrom_of (one_keeps _ _ _ _) (by rintro i rfl; exact .inr ⟨_, _, _, HS.out.bx (b := w.heap.size) (t := 4) (v := .bool false) (by simp [rbs, lbs])⟩), .inl ⟨rfl, HNE.out⟩⟩
          · have hb1 : (y.1.toList == x'.1.toList) = false := by rw [beq_toList]; exact decide_eq_false hxy
            have HNE : Hid (¬ pre ++ [x'] <+: L1) := Hid.mk' (HMIS.out (fun e => hxy (by rw [e])))
            clear hxy
            gi_wp2
            exact ⟨keepsFrom_of (one_keeps _ _ _ _) (by rintro i rfl; exact .inr ⟨_, _, _, HS.out.bx (b := w.heap.size) (t := 4) (v := .bool false) (by simp [rbs, lbs])⟩), .inl ⟨rfl, HNE.out⟩⟩
        case rest1 =>
          rintro D1 WR1 hDD1 hK1 ⟨pre1, hS1, hp11, hp21⟩
          obtain ⟨sn, hsn⟩ : ∃ n, pre1.length = n := ⟨_, rfl⟩
          obtain ⟨mt, hmt⟩ : ∃ n, cntM pre1 = n := ⟨_, rfl⟩
          have hmin := hp21 rfl
          rw [hsn] at hmin
          rw [hsn, hmt] at hS1
          dsimp only at hS1
          have hsl : (sn : Int) < 3500000000000 := by omega
          have hmi : min 1 (L1.length : Int) = (sn : Int) := by omega
          clear hsn hmt hmin hp11 hp21 pre1
          have HF1 := Hid.mk' (hS1.addD hK1)
          have hDlt1 : w.heap.size < D1 ∧ bl1 + 3 ≤ D1 := by omega
          have cr := (HF1.out.bx (b := br1) (t := 3) (v := .int .i64 1) (by simp [rbs])).cell
          have cs := (HF1.out.bx (b := bl1 + 1) (t := 3) (v := .int .i64 (sn : Int)) (by simp [rbs])).cell
          have cm := (HF1.out.bx (b := bl1 + 2) (t := 3) (v := .int .i64 (mt : Int)) (by simp [rbs])).cell
          have cl := (HF1.out.bx (b := bl1) (t := 26) (v := .slice pk1 L1.length ck1) (by simp [rbs])).cell
          clear hS1 hK1 hDD1 HE1 cX1 cD1 hseq1 hszL1 hdd1
          simp only [Exit.inBlock, Exit.then]
          go_wp2
          rw [rounds_succ]
          have HB2 : Hid (ST w (WR1.alloc (.cells #[.int .i64 2] 3)) (w.heap.size + 1 + 1) (w.heap.size + 1) S4 ((WR1.heap.size, 3, .int .i64 2) :: (lbs (w.heap.size + 1 + 1) w.heap.size b7 b8 bX d)) [D1, D0] wl1.heap.size (.slice pk1 L1.length ck1) L1) := Hid.mk' (by
            have h := (HF1.out.sub (bs' := (lbs (w.heap.size + 1 + 1) w.heap.size b7 b8 bX d)) (by intro q hq; simp only [rbs, List.mem_cons]; right; right; right; right; exact hq)).newb 3 (.int .i64 2)
            exact h)
          obtain ⟨br2, hbr2⟩ : ∃ b, WR1.heap.size = b := ⟨_, rfl⟩
          have hbx2 : bX + 1 < br2 := by have := (HF1.out.bx (b := bX + 1) (t := 3) (v := .int .i64 d) (by simp [rbs, lbs])).lt; omega
          rw [hbr2] at HB2
          obtain ⟨WW2, hWW2⟩ : ∃ W, WR1.alloc (.cells #[.int .i64 2] 3) = W := ⟨_, rfl⟩
          rw [hWW2] at HB2
          simp only [hbr2, hWW2]
          clear hWW2 hbr2 HF1 cr cs cm cl
          obtain ⟨L2, hL2⟩ : ∃ L, lstS S4 d = L := ⟨_, rfl⟩
          have HL2 := Hid.mk' hL2
          have hLl2 : L2.length < 3500000000000 := by rw [← hL2, lst_len]; have := filt_le S4 (inDir d); have := HF4.out; omega
          clear hL2
          have cr2 := (HB2.out.bx (b := br2) (t := 3) (v := .int .i64 2) (by simp)).cell
          have cx2 := (HB2.out.bx (b := b7) (t := 24) (v := .pointer (some ⟨w.heap.size + 1 + 1, 0, none⟩)) (by simp [lbs])).cell
          have cd2 := (HB2.out.bx (b := b8) (t := 3) (v := .int .i64 d) (by simp [lbs])).cell
          go_wp2_with (first
            | (go_at_call 20; refine (st_copy HC2 DC2 (by omega)).mono ?_; rintro e wc2 ⟨pk2, ck2, rfl, HD2⟩; clear HC2 DC2)
            | (go_at_call 11; refine (st_list HB2 d L2 HL2.out).mono ?_; rintro e wl2 ⟨pl2, cl2, rfl, HC2, DC2⟩; clear HB2 cr2 cx2 cd2))
          obtain ⟨bl2, hbl2⟩ : ∃ b, wc2.heap.size = b := ⟨_, rfl⟩
          have hlt2 : br2 < bl2 ∧ w.heap.size + 1 < bl2 := by
            have h1 := (HD2.out.bx (b := br2) (t := 3) (v := .int .i64 2) (by simp)).lt
            have h2 := HD2.out.ix.lt
            omega
          have hdd2 : ∀ k ∈ ([D1, D0] : List Nat), k < bl2 := fun k hk => by have := heap_lt (HD2.out.nc k hk); omega
          have HDD2 := Hid.mk' hdd2
          obtain ⟨WL2, hWL2⟩ : ∃ W, ((wc2.alloc (.cells #[.slice pk2 L2.length ck2] 26)).alloc (.cells #[.int .i64 0] 3)).alloc (.cells #[.int .i64 0] 3) = W := ⟨_, rfl⟩
          have HE2 : Hid (ST w WL2 (w.heap.size + 1 + 1) (w.heap.size + 1) S4 (rbs (w.heap.size + 1 + 1) w.heap.size b7 b8 bX br2 bl2 d (.slice pk2 L2.length ck2) 2 0 0) [D1, D0] wl2.heap.size (.slice pk2 L2.length ck2) L2) := Hid.mk' (by
            have h := ((HD2.out.newb 26 (.slice pk2 L2.length ck2)).newb 3 (.int .i64 0)).newb 3 (.int .i64 0)
            rw [hWL2] at h
            simp only [World.size_alloc, hbl2] at h
            exact h)
          have hszL2 : WL2.heap.size = bl2 + 3 := by rw [← hWL2]; simp only [World.size_alloc, hbl2]
          simp only [hbl2, hWL2]
          clear hWL2 hbl2 HD2
          have cX2 := (HE2.out.bx (b := bX) (t := 24) (v := .pointer (some ⟨w.heap.size + 1 + 1, 0, none⟩)) (by simp [rbs, lbs])).cell
          have cD2 := (HE2.out.bx (b := bX + 1) (t := 3) (v := .int .i64 d) (by simp [rbs, lbs])).cell
          have hseq2 := all_stopsR 8 bX (bX + 1) (w.heap.size + 1 + 1) (w.heap.size + 1) d S4 HE2.out.few WL2 cX2 cD2 HE2.out.ix
          rw [HL2.out] at hseq2
          have HO2 : Hid (w.heap.size < bl2 ∧ b7 < bl2 ∧ b8 < bl2 ∧ bX + 1 < bl2 ∧ br2 < bl2) := Hid.mk' (by omega)
          refine wpIn_wide.1 (rangeFunc_m (n := 9) rfl (by decide) (gf := 31) (lb := #[.pointer (some ⟨bX, 0, none⟩), .pointer (some ⟨bX + 1, 0, none⟩)]) rfl trivial (enters_of Try.func31 (by kernel_rfl) rfl)
            hseq2 (fun h k => h.trans k) (kpR_b WL2) (Below.refl _ _) (fun _ => rfl)
            (IL w (w.heap.size + 1 + 1) (w.heap.size + 1) w.heap.size b7 b8 bX br2 bl2 d (.slice pk2 L2.length ck2) wl2.heap.size L2 [D1, D0] 2 (fun _ => S4)) (XL w (w.heap.size + 1 + 1) (w.heap.size + 1) w.heap.size b7 b8 bX br2 bl2 d (.slice pk2 L2.length ck2) wl2.heap.size L2 [D1, D0] 2 (fun _ => S4)) (IL.own (by omega) (by omega) (fun k hk => by have := hdd2 k hk; omega)) (XL.own (by omega) (by omega) (fun k hk => by have := hdd2 k hk; omega)) ⟨HE2.out, List.nil_prefix, fun _ => rfl⟩
            (fun x' t => (((t.setIfInBounds 72 (.string x'.1)).setIfInBounds 73 (.int .i64 x'.2)).setIfInBounds 16 (.string x'.1)).setIfInBounds 17 (.int .i64 x'.2))
            (ML w (w.heap.size + 1 + 1) (w.heap.size + 1) w.heap.size b7 b8 bX br2 bl2 d (.slice pk2 L2.length ck2) wl2.heap.size L2 [D1, D0] 2 (fun _ => S4)) 2
            (fun xs W hS hi => by subst hS; exact ml_done hi) (fun c pre W hS hx => ml_stop hS hx) ?hQ2 ?assign2 ?body2 ?rest2)
          case hQ2 => intro a W h; simpa only [Exit.inBlock, if_true] using h
          case assign2 =>
            intro r x' W K hK
            simp only [encs]
            gi_wp2
            simpa using hK
          case body2 =>
            rintro rr pre x' W ⟨hS, hpre, hr1⟩ hl
            simp only [List.setIfInBounds_toArray, List.set_cons_zero, List.set_cons_succ]
            have cs := (hS.bx (b := bl2 + 1) (t := 3) (v := .int .i64 pre.length) (by simp [rbs])).cell
            have fs := (hS.bx (b := bl2 + 1) (t := 3) (v := .int .i64 pre.length) (by simp [rbs])).frozen
            have cm := (hS.bx (b := bl2 + 2) (t := 3) (v := .int .i64 (cntM pre)) (by simp [rbs])).cell
            have fm := (hS.bx (b := bl2 + 2) (t := 3) (v := .int .i64 (cntM pre)) (by simp [rbs])).frozen
            have cl := (hS.bx (b := bl2) (t := 26) (v := .slice pk2 L2.length ck2) (by simp [rbs])).cell
            have cr := (hS.bx (b := br2) (t := 3) (v := .int .i64 2) (by simp [rbs])).cell
            have c6 := (hS.bx (b := w.heap.size) (t := 4) (v := .bool false) (by simp [rbs, lbs])).cell
            have f6 := (hS.bx (b := w.heap.size) (t := 4) (v := .bool false) (by simp [rbs, lbs])).frozen
            obtain ⟨g, o, cap', e, _, hcell⟩ := hS.row.dsl.pos (by omega)
            cases e
            obtain ⟨q0, q1⟩ := hcell pre.length hl
            have hget : L2[pre.length]? = some (L2.getD pre.length dz) := by rw [getD_lt hl, List.getElem?_eq_getElem hl]
            have hlt : (pre.length : Int) < (L2.length : Int) := by omega
            have hlt2 : ¬ (L2.length : Int) ≤ (pre.length : Int) := by omega
            have hp0 : (0 : Int) ≤ (pre.length : Int) := by omega
            have hcn : (cntM pre : Int) < 3500000000000 := by have := cnt_le pre; omega
            have hcn0 : (0 : Int) ≤ (cntM pre : Int) := by omega
            generalize L2.getD pre.length dz = y at *
            have HMIS : Hid (y ≠ x' → ¬ pre ++ [x'] <+: L2) := Hid.mk' (fun hne hp => by
              have := prefix_snoc_get hp
              rw [hget] at this
              exact hne (Option.some.inj this))
            have HS := Hid.mk' hS
            have HPR := Hid.mk' hpre
            have HR1 := Hid.mk' hr1
            have HGET := Hid.mk' hget
            clear hcell hget hS hpre hr1
            by_cases hxy : y.1 = x'.1
            · have hb1 : (y.1.toList == x'.1.toList) = true := by rw [beq_toList]; exact decide_eq_true hxy
              by_cases hvv : y.2 = x'.2
              · have hb2 : (y.2 == x'.2) = true := by simpa using hvv
                have hb3 : (y.2 != x'.2) = false := by simpa using hvv
                obtain rfl : y = x' := Prod.ext hxy hvv
                have HPX : Hid (pre ++ [y] <+: L2) := Hid.mk' (prefix_get_snoc HPR.out HGET.out)
                have hm109 : mB.toList = [109] := by kernel_rfl
                by_cases hm : y.1 = mB
                · have hq1 : (y.1.toList == [109]) = true := by rw [← hm109, beq_toList]; exact decide_eq_true hm
                  have hSa := HS.out.metL HO2.out ((cntM pre : Int) + 1)
                  have hka : Kr (bl2 + 3) W (W.setCell ⟨bl2 + 2, 0, none⟩ (.int .i64 ((cntM pre : Int) + 1))) := kr_box (HS.out.bx (b := bl2 + 2) (t := 3) (v := .int .i64 (cntM pre)) (by simp [rbs]))
                  generalize hWa : W.setCell ⟨bl2 + 2, 0, none⟩ (.int .i64 ((cntM pre : Int) + 1)) = Wa at *
                  have HMN := Hid.mk' hm
                  have hSb := hSa.seenL HO2.out ((pre.length : Int) + 1)
                  have hkb : Kr (bl2 + 3) W (Wa.setCell ⟨bl2 + 1, 0, none⟩ (.int .i64 ((pre.length : Int) + 1))) := hka.trans (kr_box (hSa.bx (b := bl2 + 1) (t := 3) (v := .int .i64 pre.length) (by simp [rbs])))
                  have a1 := (hSa.bx (b := bl2 + 1) (t := 3) (v := .int .i64 pre.length) (by simp [rbs])).cell
                  have a2 := (hSa.bx (b := bl2 + 1) (t := 3) (v := .int .i64 pre.length) (by simp [rbs])).frozen
                  generalize hWb : Wa.setCell ⟨bl2 + 1, 0, none⟩ (.int .i64 ((pre.length : Int) + 1)) = Wb at *
                  have n0 := (hSb.bx (b := br2) (t := 3) (v := .int .i64 2) (by simp [rbs])).cell
                  have HSB := Hid.mk' hSb
                  have HKB := Hid.mk' hkb
                  clear hSb hkb hSa hka hm hxy hvv
                  gi_wp2
                  refine ⟨by first | exact HKB.out.1 | (rw [hszL2]; exact HKB.out.1), HKB.out.2, ?_, HPX.out, fun h => by cases h⟩
                  rw [List.length_append, cnt_snoc_m HMN.out]
                  exact HSB.out
                · have hq1 : (y.1.toList == [109]) = false := by rw [← hm109, beq_toList]; exact decide_eq_false hm
                  have hSa := HS.out
                  have hka : Kr (bl2 + 3) W W := Kr.refl _ _
                  obtain ⟨Wa, hWa⟩ : ∃ Wa, W = Wa := ⟨_, rfl⟩
                  have HMN : Hid (y.1 ≠ mB) := Hid.mk' hm
                  have hSb := hSa.seenL HO2.out ((pre.length : Int) + 1)
                  have hkb : Kr (bl2 + 3) W (W.setCell ⟨bl2 + 1, 0, none⟩ (.int .i64 ((pre.length : Int) + 1))) := hka.trans (kr_box (hSa.bx (b := bl2 + 1) (t := 3) (v := .int .i64 pre.length) (by simp [rbs])))
                  have a1 := (hSa.bx (b := bl2 + 1) (t := 3) (v := .int .i64 pre.length) (by simp [rbs])).cell
                  have a2 := (hSa.bx (b := bl2 + 1) (t := 3) (v := .int .i64 pre.length) (by simp [rbs])).frozen
                  generalize hWb : W.setCell ⟨bl2 + 1, 0, none⟩ (.int .i64 ((pre.length : Int) + 1)) = Wb at *
                  have n0 := (hSb.bx (b := br2) (t := 3) (v := .int .i64 2) (by simp [rbs])).cell
                  have HSB := Hid.mk' hSb
                  have HKB := Hid.mk' hkb
                  clear hSb hkb hSa hka hm hxy hvv hWa
                  gi_wp2
                  refine ⟨by first | exact HKB.out.1 | (rw [hszL2]; exact HKB.out.1), HKB.out.2, ?_, HPX.out, fun h => by cases h⟩
                  rw [List.length_append, cnt_snoc HMN.out]
                  exact HSB.out
              · have hb2 : (y.2 == x'.2) = false := by simpa using hvv
                have hb3 : (y.2 != x'.2) = true := by simpa using hvv
                have HNE : Hid (¬ pre ++ [x'] <+: L2) := Hid.mk' (HMIS.out (fun e => hvv (by rw [e])))
                clear hxy hvv
                gi_wp2
                exact ⟨keepsFrom_of (one_keeps _ _ _ _) (by rintro i rfl; exact .inr ⟨_, _, _, HS.out.bx (b := w.heap.size) (t := 4) (v := .bool false) (by simp [rbs, lbs])⟩), .inl ⟨rfl, HNE.out⟩⟩
            · have hb1 : (y.1.toList == x'.1.toList) = false := by rw [beq_toList]; exact decide_eq_false hxy
              have HNE : Hid (¬ pre ++ [x'] <+: L2) := Hid.mk' (HMIS.out (fun e => hxy (by rw [e])))
              clear hxy
              gi_wp2
              exact ⟨keepsFrom_of (one_keeps _ _ _ _) (by rintro i rfl; exact .inr ⟨_, _, _, HS.out.bx (b := w.heap.size) (t := 4) (v := .bool false) (by simp [rbs, lbs])⟩), .inl ⟨rfl, HNE.out⟩⟩
          case rest2 =>
            rintro D2 WR2 hDD2 hK2 ⟨pre2, hS2, hp12, hp22⟩
            have hpL := hp12 (by decide)
            rw [hpL] at hS2
            have hc0 : cntM L2 = 0 := by rw [← HL2.out]; exact HG4.out.1
            rw [hc0] at hS2
            dsimp only at hS2
            clear hpL hc0 hp12 hp22 pre2
            have HF2 := Hid.mk' (hS2.addD hK2)
            have hDlt2 : w.heap.size < D2 ∧ bl2 + 3 ≤ D2 := by omega
            have cr := (HF2.out.bx (b := br2) (t := 3) (v := .int .i64 2) (by simp [rbs])).cell
            have cs := (HF2.out.bx (b := bl2 + 1) (t := 3) (v := .int .i64 (L2.length : Int)) (by simp [rbs])).cell
            have cm := (HF2.out.bx (b := bl2 + 2) (t := 3) (v := .int .i64 ((0 : Nat) : Int)) (by simp [rbs])).cell
            have cl := (HF2.out.bx (b := bl2) (t := 26) (v := .slice pk2 L2.length ck2) (by simp [rbs])).cell
            clear hS2 hK2 hDD2 HE2 cX2 cD2 hseq2 hszL2 hdd2
            simp only [Exit.inBlock, Exit.then]
            go_wp2
            rw [rounds_succ]
            have HB3 : Hid (ST w (WR2.alloc (.cells #[.int .i64 3] 3)) (w.heap.size + 1 + 1) (w.heap.size + 1) S4 ((WR2.heap.size, 3, .int .i64 3) :: (lbs (w.heap.size + 1 + 1) w.heap.size b7 b8 bX d)) [D2, D1, D0] wl2.heap.size (.slice pk2 L2.length ck2) L2) := Hid.mk' (by
              have h := (HF2.out.sub (bs' := (lbs (w.heap.size + 1 + 1) w.heap.size b7 b8 bX d)) (by intro q hq; simp only [rbs, List.mem_cons]; right; right; right; right; exact hq)).newb 3 (.int .i64 3)
              exact h)
            obtain ⟨br3, hbr3⟩ : ∃ b, WR2.heap.size = b := ⟨_, rfl⟩
            have hbx3 : bX + 1 < br3 := by have := (HF2.out.bx (b := bX + 1) (t := 3) (v := .int .i64 d) (by simp [rbs, lbs])).lt; omega
            rw [hbr3] at HB3
            obtain ⟨WW3, hWW3⟩ : ∃ W, WR2.alloc (.cells #[.int .i64 3] 3) = W := ⟨_, rfl⟩
            rw [hWW3] at HB3
            simp only [hbr3, hWW3]
            clear hWW3 hbr3 HF2 cr cs cm cl
            have cr := (HB3.out.bx (b := br3) (t := 3) (v := .int .i64 3) (by simp)).cell
            have cx := (HB3.out.bx (b := b7) (t := 24) (v := .pointer (some ⟨w.heap.size + 1 + 1, 0, none⟩)) (by simp [lbs])).cell
            have cd := (HB3.out.bx (b := b8) (t := 3) (v := .int .i64 d) (by simp [lbs])).cell
            go_wp2_with (first
              | (go_at_call 13; refine (st_get HB3 d hwf mB 0 HG4.out.2).mono ?_; rintro e w30 ⟨rfl, H30'⟩; have H30 := Hid.mk' H30'.out.1; clear HB3 H30' cr cx cd; have c6 := (H30.out.bx (b := w.heap.size) (t := 4) (v := .bool false) (by simp [lbs])).cell; have f6 := (H30.out.bx (b := w.heap.size) (t := 4) (v := .bool false) (by simp [lbs])).frozen))
            have hE := H30.out.set (b := w.heap.size) (t := 4) (v := .bool false) (.bool true) (by simp [lbs]) (by decide) (by decide) (bs' := [(w.heap.size, 4, .bool true)]) (by intro q hq; left; simpa using hq)
            have e0 := hE.nc D0 (by simp)
            have e1 := hE.nc D1 (by simp)
            have e2 := hE.nc D2 (by simp)
            have hbx := hE.bx (b := w.heap.size) (t := 4) (v := .bool true) (by simp)
            have g1 := HDD1.out D0 (by simp)
            have g2 := HDD2.out D0 (by simp)
            have g3 := HDD2.out D1 (by simp)
            refine ⟨by simp, .inl ⟨_, _, rfl, run_takeDeferred e2, ?_⟩⟩
            have e1' := (World.putObj_heap_other (o := .deferred none) (show D1 ≠ D2 by omega)).trans e1
            have e0' := (World.putObj_heap_other (o := .deferred none) (show D0 ≠ D2 by omega)).trans e0
            have hbx1 : Boxed _ w.heap.size 4 (.bool true) := (World.putObj_heap_other (o := .deferred none) (show w.heap.size ≠ D2 by omega)).trans hbx
            refine ⟨by simp, .inl ⟨_, _, rfl, run_takeDeferred e1', ?_⟩⟩
            have e0'' := (World.putObj_heap_other (o := .deferred none) (show D0 ≠ D1 by omega)).trans e0'
            have hbx2 : Boxed _ w.heap.size 4 (.bool true) := (World.putObj_heap_other (o := .deferred none) (show w.heap.size ≠ D1 by omega)).trans hbx1
            refine ⟨by simp, .inl ⟨_, _, rfl, run_takeDeferred e0'', ?_⟩⟩
            have hbx3 : Boxed _ w.heap.size 4 (.bool true) := (World.putObj_heap_other (o := .deferred none) (show w.heap.size ≠ D0 by omega)).trans hbx2
            exact ⟨_, results_box4L rfl _ _ w.heap.size _ rfl hbx3, rfl, ((hE.keep.step (grownBy_putObj' _ D2 _) (by rintro k hk'; cases hk'; right; omega)).step (grownBy_putObj' _ D1 _) (by rintro k hk'; cases hk'; right; omega)).step (grownBy_putObj' _ D0 _) (by rintro k hk'; cases hk'; right; omega)⟩
    · have hnq : (nm.toList == [109]) = false := by
        have h1 : (nm.toList == mB.toList) = false := by rw [beq_toList]; exact decide_eq_false hnm
        have h2 : mB.toList = [109] := by kernel_rfl
        rw [h2] at h1
        exact h1
      have hmo := late_more HLP.out.2.1 hdb htb hv (HLP.out.2.2 hnm)
      obtain ⟨S3, hS3⟩ : ∃ S3, putS S2 d nm t = S3 := ⟨_, rfl⟩
      rw [hS3] at hmo
      have HLT : Hid (LT S3 d (S.length + 2)) := Hid.mk' hmo.2
      have hfew3 : S3.length < 4000000000000 := by have := hmo.2.few; omega
      have h18 : ∀ nn, Calls Try.prog 18 #[.pointer (some ⟨w.heap.size + 1 + 1, 0, none⟩), .int .i64 d, .string nm, .int .i64 t] (w10.drewN nn) fun e w' => e = .returned (.int .i64 0) ∧ Hid (ST w w' (w.heap.size + 1 + 1) (w.heap.size + 1) S3 (lbs (w.heap.size + 1 + 1) w.heap.size b7 b8 bX d) [] 0 (.slice none 0 0) []) ∧ w'.cell? ⟨b7, 0, none⟩ = some (.pointer (some ⟨w.heap.size + 1 + 1, 0, none⟩)) ∧ w'.cell? ⟨b8, 0, none⟩ = some (.int .i64 d) := by
        intro nn
        refine (st_put (Hid.mk' (H10.out.drewN nn)) d nm t 0 S3 hmo.1 hS3 hfew3).mono ?_
        rintro e w' ⟨rfl, H⟩
        exact ⟨rfl, H.out.1, HCL.out _ _ _ _ _ w' H.out.1⟩
      have H18 := Hid.mk' h18
      clear h18 hmo hS3 hv hnm
      go_wp2
      go_region_held3 (fun wx => wx.cell? ⟨b7, 0, none⟩ = some (.pointer (some ⟨w.heap.size + 1 + 1, 0, none⟩)) ∧ wx.cell? ⟨b8, 0, none⟩ = some (.int .i64 d))
        (first | go_keep)
        (first
          | (go_at_call 18; refine (H18.out _).mono ?_; rintro e WZ ⟨rfl, HZ, y1, y2⟩)
          | (go_at_call 15; refine (h15 _).mono ?_; rintro e w0 ⟨rfl, hw0⟩; subst w0)
          | (go_at_call 16; refine (h16b _).mono ?_; rintro e w0 ⟨rfl, hw0⟩; subst w0))
      clear H18 H10 x1 x2 h15 y1 y2
      go_wp2
      refine wp_loop_rounds 4 ?_
      rw [rounds_succ]
      have HB0 := Hid.mk' (HZ.out.newb 3 (.int .i64 0))
      obtain ⟨br0, hbr0⟩ : ∃ b, WZ.heap.size = b := ⟨_, rfl⟩
      have hbx0 : bX + 1 < br0 := by have := (HZ.out.bx (b := bX + 1) (t := 3) (v := .int .i64 d) (by simp [lbs])).lt; omega
      rw [hbr0] at HB0
      obtain ⟨WW0, hWW0⟩ : ∃ W, WZ.alloc (.cells #[.int .i64 0] 3) = W := ⟨_, rfl⟩
      rw [hWW0] at HB0
      simp only [hbr0, hWW0]
      clear hWW0 hbr0 HZ
      obtain ⟨L0, hL0⟩ : ∃ L, lstS S3 d = L := ⟨_, rfl⟩
      have HL0 := Hid.mk' hL0
      have hLl0 : L0.length < 3500000000000 := by rw [← hL0, lst_len]; have := filt_le S3 (inDir d); have := HLT.out.few; omega
      clear hL0
      have cr0 := (HB0.out.bx (b := br0) (t := 3) (v := .int .i64 0) (by simp)).cell
      have cx0 := (HB0.out.bx (b := b7) (t := 24) (v := .pointer (some ⟨w.heap.size + 1 + 1, 0, none⟩)) (by simp [lbs])).cell
      have cd0 := (HB0.out.bx (b := b8) (t := 3) (v := .int .i64 d) (by simp [lbs])).cell
      go_wp2_with (first
        | (go_at_call 20; refine (st_copy HC0 DC0 (by omega)).mono ?_; rintro e wc0 ⟨pk0, ck0, rfl, HD0⟩; clear HC0 DC0)
        | (go_at_call 11; refine (st_list HB0 d L0 HL0.out).mono ?_; rintro e wl0 ⟨pl0, cl0, rfl, HC0, DC0⟩; clear HB0 cr0 cx0 cd0))
      obtain ⟨bl0, hbl0⟩ : ∃ b, wc0.heap.size = b := ⟨_, rfl⟩
      have hlt0 : br0 < bl0 ∧ w.heap.size + 1 < bl0 := by
        have h1 := (HD0.out.bx (b := br0) (t := 3) (v := .int .i64 0) (by simp)).lt
        have h2 := HD0.out.ix.lt
        omega
      have hdd0 : ∀ k ∈ ([] : List Nat), k < bl0 := fun k hk => by have := heap_lt (HD0.out.nc k hk); omega
      have HDD0 := Hid.mk' hdd0
      obtain ⟨WL0, hWL0⟩ : ∃ W, ((wc0.alloc (.cells #[.slice pk0 L0.length ck0] 26)).alloc (.cells #[.int .i64 0] 3)).alloc (.cells #[.int .i64 0] 3) = W := ⟨_, rfl⟩
      have HE0 : Hid (ST w WL0 (w.heap.size + 1 + 1) (w.heap.size + 1) S3 (rbs (w.heap.size + 1 + 1) w.heap.size b7 b8 bX br0 bl0 d (.slice pk0 L0.length ck0) 0 0 0) [] wl0.heap.size (.slice pk0 L0.length ck0) L0) := Hid.mk' (by
        have h := ((HD0.out.newb 26 (.slice pk0 L0.length ck0)).newb 3 (.int .i64 0)).newb 3 (.int .i64 0)
        rw [hWL0] at h
        simp only [World.size_alloc, hbl0] at h
        exact h)
      have hszL0 : WL0.heap.size = bl0 + 3 := by rw [← hWL0]; simp only [World.size_alloc, hbl0]
      simp only [hbl0, hWL0]
      clear hWL0 hbl0 HD0
      have cX0 := (HE0.out.bx (b := bX) (t := 24) (v := .pointer (some ⟨w.heap.size + 1 + 1, 0, none⟩)) (by simp [rbs, lbs])).cell
      have cD0 := (HE0.out.bx (b := bX + 1) (t := 3) (v := .int .i64 d) (by simp [rbs, lbs])).cell
      have hseq0 := all_stopsR 8 bX (bX + 1) (w.heap.size + 1 + 1) (w.heap.size + 1) d S3 HE0.out.few WL0 cX0 cD0 HE0.out.ix
      rw [HL0.out] at hseq0
      have HO0 : Hid (w.heap.size < bl0 ∧ b7 < bl0 ∧ b8 < bl0 ∧ bX + 1 < bl0 ∧ br0 < bl0) := Hid.mk' (by omega)
      refine wpIn_wide.1 (rangeFunc_m (n := 9) rfl (by decide) (gf := 31) (lb := #[.pointer (some ⟨bX, 0, none⟩), .pointer (some ⟨bX + 1, 0, none⟩)]) rfl trivial (enters_of Try.func31 (by kernel_rfl) rfl)
        hseq0 (fun h k => h.trans k) (kpR_b WL0) (Below.refl _ _) (fun _ => rfl)
        (IL w (w.heap.size + 1 + 1) (w.heap.size + 1) w.heap.size b7 b8 bX br0 bl0 d (.slice pk0 L0.length ck0) wl0.heap.size L0 [] 0 (lateR S3 d)) (XL w (w.heap.size + 1 + 1) (w.heap.size + 1) w.heap.size b7 b8 bX br0 bl0 d (.slice pk0 L0.length ck0) wl0.heap.size L0 [] 0 (lateR S3 d)) (IL.own (by omega) (by omega) (fun k hk => by have := hdd0 k hk; omega)) (XL.own (by omega) (by omega) (fun k hk => by have := hdd0 k hk; omega)) ⟨HE0.out, List.nil_prefix, fun _ => rfl⟩
        (fun x' t => (((t.setIfInBounds 72 (.string x'.1)).setIfInBounds 73 (.int .i64 x'.2)).setIfInBounds 16 (.string x'.1)).setIfInBounds 17 (.int .i64 x'.2))
        (ML w (w.heap.size + 1 + 1) (w.heap.size + 1) w.heap.size b7 b8 bX br0 bl0 d (.slice pk0 L0.length ck0) wl0.heap.size L0 [] 0 (lateR S3 d)) 2
        (fun xs W hS hi => by subst hS; exact ml_done hi) (fun c pre W hS hx => ml_stop hS hx) ?hQ0 ?assign0 ?body0 ?rest0)
      case hQ0 => intro a W h; simpa only [Exit.inBlock, if_true] using h
      case assign0 =>
        intro r x' W K hK
        simp only [encs]
        gi_wp2
        simpa using hK
      case body0 =>
        rintro rr pre x' W ⟨hS, hpre, hr1⟩ hl
        simp only [List.setIfInBounds_toArray, List.set_cons_zero, List.set_cons_succ]
        have cs := (hS.bx (b := bl0 + 1) (t := 3) (v := .int .i64 pre.length) (by simp [rbs])).cell
        have fs := (hS.bx (b := bl0 + 1) (t := 3) (v := .int .i64 pre.length) (by simp [rbs])).frozen
        have cm := (hS.bx (b := bl0 + 2) (t := 3) (v := .int .i64 (cntM pre)) (by simp [rbs])).cell
        have fm := (hS.bx (b := bl0 + 2) (t := 3) (v := .int .i64 (cntM pre)) (by simp [rbs])).frozen
        have cl := (hS.bx (b := bl0) (t := 26) (v := .slice pk0 L0.length ck0) (by simp [rbs])).cell
        have cr := (hS.bx (b := br0) (t := 3) (v := .int .i64 0) (by simp [rbs])).cell
        have c6 := (hS.bx (b := w.heap.size) (t := 4) (v := .bool false) (by simp [rbs, lbs])).cell
        have f6 := (hS.bx (b := w.heap.size) (t := 4) (v := .bool false) (by simp [rbs, lbs])).frozen
        obtain ⟨g, o, cap', e, _, hcell⟩ := hS.row.dsl.pos (by omega)
        cases e
        obtain ⟨q0, q1⟩ := hcell pre.length hl
        have hget : L0[pre.length]? = some (L0.getD pre.length dz) := by rw [getD_lt hl, List.getElem?_eq_getElem hl]
        have hlt : (pre.length : Int) < (L0.length : Int) := by omega
        have hlt2 : ¬ (L0.length : Int) ≤ (pre.length : Int) := by omega
        have hp0 : (0 : Int) ≤ (pre.length : Int) := by omega
        have hcn : (cntM pre : Int) < 3500000000000 := by have := cnt_le pre; omega
        have hcn0 : (0 : Int) ≤ (cntM pre : Int) := by omega
        generalize L0.getD pre.length dz = y at *
        have HMIS : Hid (y ≠ x' → ¬ pre ++ [x'] <+: L0) := Hid.mk' (fun hne hp => by
          have := prefix_snoc_get hp
          rw [hget] at this
          exact hne (Option.some.inj this))
        have HS := Hid.mk' hS
        have HPR := Hid.mk' hpre
        have HR1 := Hid.mk' hr1
        have HGET := Hid.mk' hget
        clear hcell hget hS hpre hr1
        by_cases hxy : y.1 = x'.1
        · have hb1 : (y.1.toList == x'.1.toList) = true := by rw [beq_toList]; exact decide_eq_true hxy
          by_cases hvv : y.2 = x'.2
          · have hb2 : (y.2 == x'.2) = true := by simpa using hvv
            have hb3 : (y.2 != x'.2) = false := by simpa using hvv
            obtain rfl : y = x' := Prod.ext hxy hvv
            have HPX : Hid (pre ++ [y] <+: L0) := Hid.mk' (prefix_get_snoc HPR.out HGET.out)
            have hm109 : mB.toList = [109] := by kernel_rfl
            by_cases hm : y.1 = mB
            · have hq1 : (y.1.toList == [109]) = true := by rw [← hm109, beq_toList]; exact decide_eq_true hm
              have hSa := HS.out.metL HO0.out ((cntM pre : Int) + 1)
              have hka : Kr (bl0 + 3) W (W.setCell ⟨bl0 + 2, 0, none⟩ (.int .i64 ((cntM pre : Int) + 1))) := kr_box (HS.out.bx (b := bl0 + 2) (t := 3) (v := .int .i64 (cntM pre)) (by simp [rbs]))
              generalize hWa : W.setCell ⟨bl0 + 2, 0, none⟩ (.int .i64 ((cntM pre : Int) + 1)) = Wa at *
              have HMN := Hid.mk' hm
              have hSb := hSa.seenL HO0.out ((pre.length : Int) + 1)
              have hkb : Kr (bl0 + 3) W (Wa.setCell ⟨bl0 + 1, 0, none⟩ (.int .i64 ((pre.length : Int) + 1))) := hka.trans (kr_box (hSa.bx (b := bl0 + 1) (t := 3) (v := .int .i64 pre.length) (by simp [rbs])))
              have a1 := (hSa.bx (b := bl0 + 1) (t := 3) (v := .int .i64 pre.length) (by simp [rbs])).cell
              have a2 := (hSa.bx (b := bl0 + 1) (t := 3) (v := .int .i64 pre.length) (by simp [rbs])).frozen
              generalize hWb : Wa.setCell ⟨bl0 + 1, 0, none⟩ (.int .i64 ((pre.length : Int) + 1)) = Wb at *
              have n0 := (hSb.bx (b := br0) (t := 3) (v := .int .i64 0) (by simp [rbs])).cell
              have n7 := (hSb.bx (b := b7) (t := 24) (v := .pointer (some ⟨w.heap.size + 1 + 1, 0, none⟩)) (by simp [rbs, lbs])).cell
              have n8 := (hSb.bx (b := b8) (t := 3) (v := .int .i64 d) (by simp [rbs, lbs])).cell
              have h21 : ∀ m, CallsIn (Fence.wide.inRound rr) m Try.prog 21 #[.pointer (some ⟨w.heap.size + 1 + 1, 0, none⟩), .int .i64 d, .string y.1] Wb fun e w' => ∃ a E : Int, e = .returned (.tuple #[.int .i64 a, .int .i64 E]) ∧ Hid (ST w w' (w.heap.size + 1 + 1) (w.heap.size + 1) ((lateR S3 d) (pre ++ [y])) (rbs (w.heap.size + 1 + 1) w.heap.size b7 b8 bX br0 bl0 d (.slice (some ⟨g, o, none⟩) L0.length ck0) 0 ((pre.length : Int) + 1) ((cntM pre : Int) + 1)) [] wl0.heap.size (.slice (some ⟨g, o, none⟩) L0.length ck0) L0 ∧ Kr (bl0 + 3) W w') ∧ w'.cell? ⟨br0, 0, none⟩ = some (.int .i64 0) := fun m => CallsIn.inRound rr (callsIn_wide.2 ((st_drop (Hid.mk' hSb) d hwf y.1 _ _ ((lateR S3 d) (pre ++ [y])) rfl rfl (by rw [hm]; exact lateR_snoc_m hm)).mono (by
                rintro e w' ⟨rfl, H⟩
                exact ⟨_, _, rfl, ⟨H.out.1, hkb.trans (kr_map hSb.ix (by omega) H.out.2)⟩, (H.out.1.bx (b := br0) (t := 3) (v := .int .i64 0) (by simp [rbs])).cell⟩)))
              have H21 := Hid.mk' h21
              clear h21 hSb hkb hSa hka hm hxy hvv
              gi_wp2_with (first
                | (refine ⟨trivial, ?_⟩; (try refine ⟨fun h => (by cases h), ?_⟩); gi_at_call 21; refine (H21.out _).mono ?_; clear H21; rintro e w5 ⟨a5, E5, rfl, H5, z0⟩))
              refine ⟨by first | exact H5.out.2.1 | (rw [hszL0]; exact H5.out.2.1), H5.out.2.2, ?_, HPX.out, fun h => by cases h⟩
              rw [List.length_append, cnt_snoc_m HMN.out]
              exact H5.out.1
            · have hq1 : (y.1.toList == [109]) = false := by rw [← hm109, beq_toList]; exact decide_eq_false hm
              have hSa := HS.out
              have hka : Kr (bl0 + 3) W W := Kr.refl _ _
              obtain ⟨Wa, hWa⟩ : ∃ Wa, W = Wa := ⟨_, rfl⟩
              have HMN : Hid (y.1 ≠ mB) := Hid.mk' hm
              have hSb := hSa.seenL HO0.out ((pre.length : Int) + 1)
              have hkb : Kr (bl0 + 3) W (W.setCell ⟨bl0 + 1, 0, none⟩ (.int .i64 ((pre.length : Int) + 1))) := hka.trans (kr_box (hSa.bx (b := bl0 + 1) (t := 3) (v := .int .i64 pre.length) (by simp [rbs])))
              have a1 := (hSa.bx (b := bl0 + 1) (t := 3) (v := .int .i64 pre.length) (by simp [rbs])).cell
              have a2 := (hSa.bx (b := bl0 + 1) (t := 3) (v := .int .i64 pre.length) (by simp [rbs])).frozen
              generalize hWb : W.setCell ⟨bl0 + 1, 0, none⟩ (.int .i64 ((pre.length : Int) + 1)) = Wb at *
              have n0 := (hSb.bx (b := br0) (t := 3) (v := .int .i64 0) (by simp [rbs])).cell
              have HSB := Hid.mk' hSb
              have HKB := Hid.mk' hkb
              clear hSb hkb hSa hka hm hxy hvv hWa
              gi_wp2
              refine ⟨by first | exact HKB.out.1 | (rw [hszL0]; exact HKB.out.1), HKB.out.2, ?_, HPX.out, fun h => by cases h⟩
              rw [List.length_append, cnt_snoc HMN.out, lateR_snoc HMN.out]
              exact HSB.out
          · have hb2 : (y.2 == x'.2) = false := by simpa using hvv
            have hb3 : (y.2 != x'.2) = true := by simpa using hvv
            have HNE : Hid (¬ pre ++ [x'] <+: L0) := Hid.mk' (HMIS.out (fun e => hvv (by rw [e])))
            clear hxy hvv
            gi_wp2
            exact ⟨keepsFrom_of (one_keeps _ _ _ _) (by rintro i rfl; exact .inr ⟨_, _, _, HS.out.bx (b := w.heap.size) (t := 4) (v := .bool false) (by simp [rbs, lbs])⟩), .inl ⟨rfl, HNE.out⟩⟩
        · have hb1 : (y.1.toList == x'.1.toList) = false := by rw [beq_toList]; exact decide_eq_false hxy
          have HNE : Hid (¬ pre ++ [x'] <+: L0) := Hid.mk' (HMIS.out (fun e => hxy (by rw [e])))
          clear hxy
          gi_wp2
          exact ⟨keepsFrom_of (one_keeps _ _ _ _) (by rintro i rfl; exact .inr ⟨_, _, _, HS.out.bx (b := w.heap.size) (t := 4) (v := .bool false) (by simp [rbs, lbs])⟩), .inl ⟨rfl, HNE.out⟩⟩
      case rest0 =>
        rintro D0 WR0 hDD0 hK0 ⟨pre0, hS0, hp10, hp20⟩
        obtain ⟨S4, hS4⟩ : ∃ S4, delS S3 d mB = S4 := ⟨_, rfl⟩
        have HG4 : Hid (cntM (lstS S4 d) = 0 ∧ getS S4 d mB = 0) := Hid.mk' (by rw [← hS4]; exact ⟨lt_gone.1, lt_gone.2.1⟩)
        have hl4 : S4.length ≤ (S3).length := by rw [← hS4]; exact List.length_filter_le ..
        have HF4 : Hid (S4.length < 3500000000000) := Hid.mk' (by have h1 := HLT.out.few; omega)
        clear hl4
        have hpL := hp10 (by decide)
        rw [hpL] at hS0
        have hc1 : cntM L0 = 1 := by rw [← HL0.out]; exact (lt_one HLT.out).1
        have hRe : lateR S3 d L0 = S4 := by rw [← HL0.out, lateR_end HLT.out]; exact hS4
        rw [hc1, hRe] at hS0
        clear hpL hc1 hRe hS4 hp10 hp20 pre0
        have HF0 := Hid.mk' (hS0.addD hK0)
        have hDlt0 : w.heap.size < D0 ∧ bl0 + 3 ≤ D0 := by omega
        have cr := (HF0.out.bx (b := br0) (t := 3) (v := .int .i64 0) (by simp [rbs])).cell
        have cs := (HF0.out.bx (b := bl0 + 1) (t := 3) (v := .int .i64 (L0.length : Int)) (by simp [rbs])).cell
        have cm := (HF0.out.bx (b := bl0 + 2) (t := 3) (v := .int .i64 ((1 : Nat) : Int)) (by simp [rbs])).cell
        have cl := (HF0.out.bx (b := bl0) (t := 26) (v := .slice pk0 L0.length ck0) (by simp [rbs])).cell
        clear hS0 hK0 hDD0 HE0 cX0 cD0 hseq0 hszL0 hdd0
        simp only [Exit.inBlock, Exit.then]
        go_wp2
        rw [rounds_succ]
        have HB1 : Hid (ST w (WR0.alloc (.cells #[.int .i64 1] 3)) (w.heap.size + 1 + 1) (w.heap.size + 1) S4 ((WR0.heap.size, 3, .int .i64 1) :: (lbs (w.heap.size + 1 + 1) w.heap.size b7 b8 bX d)) [D0] wl0.heap.size (.slice pk0 L0.length ck0) L0) := Hid.mk' (by
          have h := (HF0.out.sub (bs' := (lbs (w.heap.size + 1 + 1) w.heap.size b7 b8 bX d)) (by intro q hq; simp only [rbs, List.mem_cons]; right; right; right; right; exact hq)).newb 3 (.int .i64 1)
          exact h)
        obtain ⟨br1, hbr1⟩ : ∃ b, WR0.heap.size = b := ⟨_, rfl⟩
        have hbx1 : bX + 1 < br1 := by have := (HF0.out.bx (b := bX + 1) (t := 3) (v := .int .i64 d) (by simp [rbs, lbs])).lt; omega
        rw [hbr1] at HB1
        obtain ⟨WW1, hWW1⟩ : ∃ W, WR0.alloc (.cells #[.int .i64 1] 3) = W := ⟨_, rfl⟩
        rw [hWW1] at HB1
        simp only [hbr1, hWW1]
        clear hWW1 hbr1 HF0 cr cs cm cl
        obtain ⟨L1, hL1⟩ : ∃ L, lstS S4 d = L := ⟨_, rfl⟩
        have HL1 := Hid.mk' hL1
        have hLl1 : L1.length < 3500000000000 := by rw [← hL1, lst_len]; have := filt_le S4 (inDir d); have := HF4.out; omega
        clear hL1
        have cr1 := (HB1.out.bx (b := br1) (t := 3) (v := .int .i64 1) (by simp)).cell
        have cx1 := (HB1.out.bx (b := b7) (t := 24) (v := .pointer (some ⟨w.heap.size + 1 + 1, 0, none⟩)) (by simp [lbs])).cell
        have cd1 := (HB1.out.bx (b := b8) (t := 3) (v := .int .i64 d) (by simp [lbs])).cell
        go_wp2_with (first
          | (go_at_call 20; refine (st_copy HC1 DC1 (by omega)).mono ?_; rintro e wc1 ⟨pk1, ck1, rfl, HD1⟩; clear HC1 DC1)
          | (go_at_call 11; refine (st_list HB1 d L1 HL1.out).mono ?_; rintro e wl1 ⟨pl1, cl1, rfl, HC1, DC1⟩; clear HB1 cr1 cx1 cd1))
        obtain ⟨bl1, hbl1⟩ : ∃ b, wc1.heap.size = b := ⟨_, rfl⟩
        have hlt1 : br1 < bl1 ∧ w.heap.size + 1 < bl1 := by
          have h1 := (HD1.out.bx (b := br1) (t := 3) (v := .int .i64 1) (by simp)).lt
          have h2 := HD1.out.ix.lt
          omega
        have hdd1 : ∀ k ∈ ([D0] : List Nat), k < bl1 := fun k hk => by have := heap_lt (HD1.out.nc k hk); omega
        have HDD1 := Hid.mk' hdd1
        obtain ⟨WL1, hWL1⟩ : ∃ W, ((wc1.alloc (.cells #[.slice pk1 L1.length ck1] 26)).alloc (.cells #[.int .i64 0] 3)).alloc (.cells #[.int .i64 0] 3) = W := ⟨_, rfl⟩
        have HE1 : Hid (ST w WL1 (w.heap.size + 1 + 1) (w.heap.size + 1) S4 (rbs (w.heap.size + 1 + 1) w.heap.size b7 b8 bX br1 bl1 d (.slice pk1 L1.length ck1) 1 0 0) [D0] wl1.heap.size (.slice pk1 L1.length ck1) L1) := Hid.mk' (by
          have h := ((HD1.out.newb 26 (.slice pk1 L1.length ck1)).newb 3 (.int .i64 0)).newb 3 (.int .i64 0)
          rw [hWL1] at h
          simp only [World.size_alloc, hbl1] at h
          exact h)
        have hszL1 : WL1.heap.size = bl1 + 3 := by rw [← hWL1]; simp only [World.size_alloc, hbl1]
        simp only [hbl1, hWL1]
        clear hWL1 hbl1 HD1
        have cX1 := (HE1.out.bx (b := bX) (t := 24) (v := .pointer (some ⟨w.heap.size + 1 + 1, 0, none⟩)) (by simp [rbs, lbs])).cell
        have cD1 := (HE1.out.bx (b := bX + 1) (t := 3) (v := .int .i64 d) (by simp [rbs, lbs])).cell
        have hseq1 := all_stopsR 8 bX (bX + 1) (w.heap.size + 1 + 1) (w.heap.size + 1) d S4 HE1.out.few WL1 cX1 cD1 HE1.out.ix
        rw [HL1.out] at hseq1
        have HO1 : Hid (w.heap.size < bl1 ∧ b7 < bl1 ∧ b8 < bl1 ∧ bX + 1 < bl1 ∧ br1 < bl1) := Hid.mk' (by omega)
        refine wpIn_wide.1 (rangeFunc_m (n := 9) rfl (by decide) (gf := 31) (lb := #[.pointer (some ⟨bX, 0, none⟩), .pointer (some ⟨bX + 1, 0, none⟩)]) rfl trivial (enters_of Try.func31 (by kernel_rfl) rfl)
          hseq1 (fun h k => h.trans k) (kpR_b WL1) (Below.refl _ _) (fun _ => rfl)
          (IL w (w.heap.size + 1 + 1) (w.heap.size + 1) w.heap.size b7 b8 bX br1 bl1 d (.slice pk1 L1.length ck1) wl1.heap.size L1 [D0] 1 (fun _ => S4)) (XL w (w.heap.size + 1 + 1) (w.heap.size + 1) w.heap.size b7 b8 bX br1 bl1 d (.slice pk1 L1.length ck1) wl1.heap.size L1 [D0] 1 (fun _ => S4)) (IL.own (by omega) (by omega) (fun k hk => by have := hdd1 k hk; omega)) (XL.own (by omega) (by omega) (fun k hk => by have := hdd1 k hk; omega)) ⟨HE1.out, List.nil_prefix, fun _ => rfl⟩
          (fun x' t => (((t.setIfInBounds 72 (.string x'.1)).setIfInBounds 73 (.int .i64 x'.2)).setIfInBounds 16 (.string x'.1)).setIfInBounds 17 (.int .i64 x'.2))
          (ML w (w.heap.size + 1 + 1) (w.heap.size + 1) w.heap.size b7 b8 bX br1 bl1 d (.slice pk1 L1.length ck1) wl1.heap.size L1 [D0] 1 (fun _ => S4)) 2
          (fun xs W hS hi => by subst hS; exact ml_done hi) (fun c pre W hS hx => ml_stop hS hx) ?hQ1 ?assign1 ?body1 ?rest1)
        case hQ1 => intro a W h; simpa only [Exit.inBlock, if_true] using h
        case assign1 =>
          intro r x' W K hK
          simp only [encs]
          gi_wp2
          simpa using hK
        case body1 =>
          rintro rr pre x' W ⟨hS, hpre, hr1⟩ hl
          simp only [List.setIfInBounds_toArray, List.set_cons_zero, List.set_cons_succ]
          have cs := (hS.bx (b := bl1 + 1) (t := 3) (v := .int .i64 pre.length) (by simp [rbs])).cell
          have fs := (hS.bx (b := bl1 + 1) (t := 3) (v := .int .i64 pre.length) (by simp [rbs])).frozen
          have cm := (hS.bx (b := bl1 + 2) (t := 3) (v := .int .i64 (cntM pre)) (by simp [rbs])).cell
          have fm := (hS.bx (b := bl1 + 2) (t := 3) (v := .int .i64 (cntM pre)) (by simp [rbs])).frozen
          have cl := (hS.bx (b := bl1) (t := 26) (v := .slice pk1 L1.length ck1) (by simp [rbs])).cell
          have cr := (hS.bx (b := br1) (t := 3) (v := .int .i64 1) (by simp [rbs])).cell
          have c6 := (hS.bx (b := w.heap.size) (t := 4) (v := .bool false) (by simp [rbs, lbs])).cell
          have f6 := (hS.bx (b := w.heap.size) (t := 4) (v := .bool false) (by simp [rbs, lbs])).frozen
          obtain ⟨g, o, cap', e, _, hcell⟩ := hS.row.dsl.pos (by omega)
          cases e
          obtain ⟨q0, q1⟩ := hcell pre.length hl
          have hget : L1[pre.length]? = some (L1.getD pre.length dz) := by rw [getD_lt hl, List.getElem?_eq_getElem hl]
          have hlt : (pre.length : Int) < (L1.length : Int) := by omega
          have hlt2 : ¬ (L1.length : Int) ≤ (pre.length : Int) := by omega
          have hp0 : (0 : Int) ≤ (pre.length : Int) := by omega
          have hcn : (cntM pre : Int) < 3500000000000 := by have := cnt_le pre; omega
          have hcn0 : (0 : Int) ≤ (cntM pre : Int) := by omega
          generalize L1.getD pre.length dz = y at *
          have HMIS : Hid (y ≠ x' → ¬ pre ++ [x'] <+: L1) := Hid.mk' (fun hne hp => by
            have := prefix_snoc_get hp
            rw [hget] at this
            exact hne (Option.some.inj this))
          have HS := Hid.mk' hS
          have HPR := Hid.mk' hpre
          have HR1 := Hid.mk' hr1
          have HGET := Hid.mk' hget
          clear hcell hget hS hpre hr1
          by_cases hxy : y.1 = x'.1
          · have hb1 : (y.1.toList == x'.1.toList) = true := by rw [beq_toList]; exact decide_eq_true hxy
            by_cases hvv : y.2 = x'.2
            · have hb2 : (y.2 == x'.2) = true := by simpa using hvv
              have hb3 : (y.2 != x'.2) = false := by simpa using hvv
              obtain rfl : y = x' := Prod.ext hxy hvv
              have HPX : Hid (pre ++ [y] <+: L1) := Hid.mk' (prefix_get_snoc HPR.out HGET.out)
              have hm109 : mB.toList = [109] := by kernel_rfl
              by_cases hm : y.1 = mB
              · have hq1 : (y.1.toList == [109]) = true := by rw [← hm109, beq_toList]; exact decide_eq_true hm
                have hSa := HS.out.metL HO1.out ((cntM pre : Int) + 1)
                have hka : Kr (bl1 + 3) W (W.setCell ⟨bl1 + 2, 0, none⟩ (.int .i64 ((cntM pre : Int) + 1))) := kr_box (HS.out.bx (b := bl1 + 2) (t := 3) (v := .int .i64 (cntM pre)) (by simp [rbs]))
                generalize hWa : W.setCell ⟨bl1 + 2, 0, none⟩ (.int .i64 ((cntM pre : Int) + 1)) = Wa at *
                have HMN := Hid.mk' hm
                have hSb := hSa.seenL HO1.out ((pre.length : Int) + 1)
                have hkb : Kr (bl1 + 3) W (Wa.setCell ⟨bl1 + 1, 0, none⟩ (.int .i64 ((pre.length : Int) + 1))) := hka.trans (kr_box (hSa.bx (b := bl1 + 1) (t := 3) (v := .int .i64 pre.length) (by simp [rbs])))
                have a1 := (hSa.bx (b := bl1 + 1) (t := 3) (v := .int .i64 pre.length) (by simp [rbs])).cell
                have a2 := (hSa.bx (b := bl1 + 1) (t := 3) (v := .int .i64 pre.length) (by simp [rbs])).frozen
                generalize hWb : Wa.setCell ⟨bl1 + 1, 0, none⟩ (.int .i64 ((pre.length : Int) + 1)) = Wb at *
                have n0 := (hSb.bx (b := br1) (t := 3) (v := .int .i64 1) (by simp [rbs])).cell
                have HSB := Hid.mk' hSb
                have HKB := Hid.mk' hkb
                clear hSb hkb hSa hka hm hxy hvv
                gi_wp2
                refine ⟨by first | exact HKB.out.1 | (rw [hszL1]; exact HKB.out.1), .inr ⟨rfl, rfl, ?_, HPX.out, by rw [List.length_append, HR1.out (by decide)]; rfl⟩⟩
                rw [List.length_append, cnt_snoc_m HMN.out]
                exact HSB.out
              · have hq1 : (y.1.toList == [109]) = false := by rw [← hm109, beq_toList]; exact decide_eq_false hm
                have hSa := HS.out
                have hka : Kr (bl1 + 3) W W := Kr.refl _ _
                obtain ⟨Wa, hWa⟩ : ∃ Wa, W = Wa := ⟨_, rfl⟩
                have HMN : Hid (y.1 ≠ mB) := Hid.mk' hm
                have hSb := hSa.seenL HO1.out ((pre.length : Int) + 1)
                have hkb : Kr (bl1 + 3) W (W.setCell ⟨bl1 + 1, 0, none⟩ (.int .i64 ((pre.length : Int) + 1))) := hka.trans (kr_box (hSa.bx (b := bl1 + 1) (t := 3) (v := .int .i64 pre.length) (by simp [rbs])))
                have a1 := (hSa.bx (b := bl1 + 1) (t := 3) (v := .int .i64 pre.length) (by simp [rbs])).cell
                have a2 := (hSa.bx (b := bl1 + 1) (t := 3) (v := .int .i64 pre.length) (by simp [rbs])).frozen
                generalize hWb : W.setCell ⟨bl1 + 1, 0, none⟩ (.int .i64 ((pre.length : Int) + 1)) = Wb at *
                have n0 := (hSb.bx (b := br1) (t := 3) (v := .int .i64 1) (by simp [rbs])).cell
                have HSB := Hid.mk' hSb
                have HKB := Hid.mk' hkb
                clear hSb hkb hSa hka hm hxy hvv hWa
                gi_wp2
                refine ⟨by first | exact HKB.out.1 | (rw [hszL1]; exact HKB.out.1), .inr ⟨rfl, rfl, ?_, HPX.out, by rw [List.length_append, HR1.out (by decide)]; rfl⟩⟩
                rw [List.length_append, cnt_snoc HMN.out]
                exact HSB.out
            · have hb2 : (y.2 == x'.2) = false := by simpa using hvv
              have hb3 : (y.2 != x'.2) = true := by simpa using hvv
              have HNE : Hid (¬ pre ++ [x'] <+: L1) := Hid.mk' (HMIS.out (fun e => hvv (by rw [e])))
              clear hxy hvv
              gi_wp2
              exact ⟨keepsFrom_of (one_keeps _ _ _ _) (by rintro i rfl; exact .inr ⟨_, _, _, HS.out.bx (b := w.heap.size) (t := 4) (v := .bool false) (by simp [rbs, lbs])⟩), .inl ⟨rfl, HNE.out⟩⟩
          · have hb1 : (y.1.toList == x'.1.toList) = false := by rw [beq_toList]; exact decide_eq_false hxy
            have HNE : Hid (¬ pre ++ [x'] <+: L1) := Hid.mk' (HMIS.out (fun e => hxy (by rw [e])))
            clear hxy
            gi_wp2
            exact ⟨keepsFrom_of (one_keeps _ _ _ _) (by rintro i rfl; exact .inr ⟨_, _, _, HS.out.bx (b := w.heap.size) (t := 4) (v := .bool false) (by simp [rbs, lbs])⟩), .inl ⟨rfl, HNE.out⟩⟩
        case rest1 =>
          rintro D1 WR1 hDD1 hK1 ⟨pre1, hS1, hp11, hp21⟩
          obtain ⟨sn, hsn⟩ : ∃ n, pre1.length = n := ⟨_, rfl⟩
          obtain ⟨mt, hmt⟩ : ∃ n, cntM pre1 = n := ⟨_, rfl⟩
          have hmin := hp21 rfl
          rw [hsn] at hmin
          rw [hsn, hmt] at hS1
          dsimp only at hS1
          have hsl : (sn : Int) < 3500000000000 := by omega
          have hmi : min 1 (L1.length : Int) = (sn : Int) := by omega
          clear hsn hmt hmin hp11 hp21 pre1
          have HF1 := Hid.mk' (hS1.addD hK1)
          have hDlt1 : w.heap.size < D1 ∧ bl1 + 3 ≤ D1 := by omega
          have cr := (HF1.out.bx (b := br1) (t := 3) (v := .int .i64 1) (by simp [rbs])).cell
          have cs := (HF1.out.bx (b := bl1 + 1) (t := 3) (v := .int .i64 (sn : Int)) (by simp [rbs])).cell
          have cm := (HF1.out.bx (b := bl1 + 2) (t := 3) (v := .int .i64 (mt : Int)) (by simp [rbs])).cell
          have cl := (HF1.out.bx (b := bl1) (t := 26) (v := .slice pk1 L1.length ck1) (by simp [rbs])).cell
          clear hS1 hK1 hDD1 HE1 cX1 cD1 hseq1 hszL1 hdd1
          simp only [Exit.inBlock, Exit.then]
          go_wp2
          rw [rounds_succ]
          have HB2 : Hid (ST w (WR1.alloc (.cells #[.int .i64 2] 3)) (w.heap.size + 1 + 1) (w.heap.size + 1) S4 ((WR1.heap.size, 3, .int .i64 2) :: (lbs (w.heap.size + 1 + 1) w.heap.size b7 b8 bX d)) [D1, D0] wl1.heap.size (.slice pk1 L1.length ck1) L1) := Hid.mk' (by
            have h := (HF1.out.sub (bs' := (lbs (w.heap.size + 1 + 1) w.heap.size b7 b8 bX d)) (by intro q hq; simp only [rbs, List.mem_cons]; right; right; right; right; exact hq)).newb 3 (.int .i64 2)
            exact h)
          obtain ⟨br2, hbr2⟩ : ∃ b, WR1.heap.size = b := ⟨_, rfl⟩
          have hbx2 : bX + 1 < br2 := by have := (HF1.out.bx (b := bX + 1) (t := 3) (v := .int .i64 d) (by simp [rbs, lbs])).lt; omega
          rw [hbr2] at HB2
          obtain ⟨WW2, hWW2⟩ : ∃ W, WR1.alloc (.cells #[.int .i64 2] 3) = W := ⟨_, rfl⟩
          rw [hWW2] at HB2
          simp only [hbr2, hWW2]
          clear hWW2 hbr2 HF1 cr cs cm cl
          obtain ⟨L2, hL2⟩ : ∃ L, lstS S4 d = L := ⟨_, rfl⟩
          have HL2 := Hid.mk' hL2
          have hLl2 : L2.length < 3500000000000 := by rw [← hL2, lst_len]; have := filt_le S4 (inDir d); have := HF4.out; omega
          clear hL2
          have cr2 := (HB2.out.bx (b := br2) (t := 3) (v := .int .i64 2) (by simp)).cell
          have cx2 := (HB2.out.bx (b := b7) (t := 24) (v := .pointer (some ⟨w.heap.size + 1 + 1, 0, none⟩)) (by simp [lbs])).cell
          have cd2 := (HB2.out.bx (b := b8) (t := 3) (v := .int .i64 d) (by simp [lbs])).cell
          go_wp2_with (first
            | (go_at_call 20; refine (st_copy HC2 DC2 (by omega)).mono ?_; rintro e wc2 ⟨pk2, ck2, rfl, HD2⟩; clear HC2 DC2)
            | (go_at_call 11; refine (st_list HB2 d L2 HL2.out).mono ?_; rintro e wl2 ⟨pl2, cl2, rfl, HC2, DC2⟩; clear HB2 cr2 cx2 cd2))
          obtain ⟨bl2, hbl2⟩ : ∃ b, wc2.heap.size = b := ⟨_, rfl⟩
          have hlt2 : br2 < bl2 ∧ w.heap.size + 1 < bl2 := by
            have h1 := (HD2.out.bx (b := br2) (t := 3) (v := .int .i64 2) (by simp)).lt
            have h2 := HD2.out.ix.lt
            omega
          have hdd2 : ∀ k ∈ ([D1, D0] : List Nat), k < bl2 := fun k hk => by have := heap_lt (HD2.out.nc k hk); omega
          have HDD2 := Hid.mk' hdd2
          obtain ⟨WL2, hWL2⟩ : ∃ W, ((wc2.alloc (.cells #[.slice pk2 L2.length ck2] 26)).alloc (.cells #[.int .i64 0] 3)).alloc (.cells #[.int .i64 0] 3) = W := ⟨_, rfl⟩
          have HE2 : Hid (ST w WL2 (w.heap.size + 1 + 1) (w.heap.size + 1) S4 (rbs (w.heap.size + 1 + 1) w.heap.size b7 b8 bX br2 bl2 d (.slice pk2 L2.length ck2) 2 0 0) [D1, D0] wl2.heap.size (.slice pk2 L2.length ck2) L2) := Hid.mk' (by
            have h := ((HD2.out.newb 26 (.slice pk2 L2.length ck2)).newb 3 (.int .i64 0)).newb 3 (.int .i64 0)
            rw [hWL2] at h
            simp only [World.size_alloc, hbl2] at h
            exact h)
          have hszL2 : WL2.heap.size = bl2 + 3 := by rw [← hWL2]; simp only [World.size_alloc, hbl2]
          simp only [hbl2, hWL2]
          clear hWL2 hbl2 HD2
          have cX2 := (HE2.out.bx (b := bX) (t := 24) (v := .pointer (some ⟨w.heap.size + 1 + 1, 0, none⟩)) (by simp [rbs, lbs])).cell
          have cD2 := (HE2.out.bx (b := bX + 1) (t := 3) (v := .int .i64 d) (by simp [rbs, lbs])).cell
          have hseq2 := all_stopsR 8 bX (bX + 1) (w.heap.size + 1 + 1) (w.heap.size + 1) d S4 HE2.out.few WL2 cX2 cD2 HE2.out.ix
          rw [HL2.out] at hseq2
          have HO2 : Hid (w.heap.size < bl2 ∧ b7 < bl2 ∧ b8 < bl2 ∧ bX + 1 < bl2 ∧ br2 < bl2) := Hid.mk' (by omega)
          refine wpIn_wide.1 (rangeFunc_m (n := 9) rfl (by decide) (gf := 31) (lb := #[.pointer (some ⟨bX, 0, none⟩), .pointer (some ⟨bX + 1, 0, none⟩)]) rfl trivial (enters_of Try.func31 (by kernel_rfl) rfl)
            hseq2 (fun h k => h.trans k) (kpR_b WL2) (Below.refl _ _) (fun _ => rfl)
            (IL w (w.heap.size + 1 + 1) (w.heap.size + 1) w.heap.size b7 b8 bX br2 bl2 d (.slice pk2 L2.length ck2) wl2.heap.size L2 [D1, D0] 2 (fun _ => S4)) (XL w (w.heap.size + 1 + 1) (w.heap.size + 1) w.heap.size b7 b8 bX br2 bl2 d (.slice pk2 L2.length ck2) wl2.heap.size L2 [D1, D0] 2 (fun _ => S4)) (IL.own (by omega) (by omega) (fun k hk => by have := hdd2 k hk; omega)) (XL.own (by omega) (by omega) (fun k hk => by have := hdd2 k hk; omega)) ⟨HE2.out, List.nil_prefix, fun _ => rfl⟩
            (fun x' t => (((t.setIfInBounds 72 (.string x'.1)).setIfInBounds 73 (.int .i64 x'.2)).setIfInBounds 16 (.string x'.1)).setIfInBounds 17 (.int .i64 x'.2))
            (ML w (w.heap.size + 1 + 1) (w.heap.size + 1) w.heap.size b7 b8 bX br2 bl2 d (.slice pk2 L2.length ck2) wl2.heap.size L2 [D1, D0] 2 (fun _ => S4)) 2
            (fun xs W hS hi => by subst hS; exact ml_done hi) (fun c pre W hS hx => ml_stop hS hx) ?hQ2 ?assign2 ?body2 ?rest2)
          case hQ2 => intro a W h; simpa only [Exit.inBlock, if_true] using h
          case assign2 =>
            intro r x' W K hK
            simp only [encs]
            gi_wp2
            simpa using hK
          case body2 =>
            rintro rr pre x' W ⟨hS, hpre, hr1⟩ hl
            simp only [List.setIfInBounds_toArray, List.set_cons_zero, List.set_cons_succ]
            have cs := (hS.bx (b := bl2 + 1) (t := 3) (v := .int .i64 pre.length) (by simp [rbs])).cell
            have fs := (hS.bx (b := bl2 + 1) (t := 3) (v := .int .i64 pre.length) (by simp [rbs])).frozen
            have cm := (hS.bx (b := bl2 + 2) (t := 3) (v := .int .i64 (cntM pre)) (by simp [rbs])).cell
            have fm := (hS.bx (b := bl2 + 2) (t := 3) (v := .int .i64 (cntM pre)) (by simp [rbs])).frozen
            have cl := (hS.bx (b := bl2) (t := 26) (v := .slice pk2 L2.length ck2) (by simp [rbs])).cell
            have cr := (hS.bx (b := br2) (t := 3) (v := .int .i64 2) (by simp [rbs])).cell
            have c6 := (hS.bx (b := w.heap.size) (t := 4) (v := .bool false) (by simp [rbs, lbs])).cell
            have f6 := (hS.bx (b := w.heap.size) (t := 4) (v := .bool false) (by simp [rbs, lbs])).frozen
            obtain ⟨g, o, cap', e, _, hcell⟩ := hS.row.dsl.pos (by omega)
            cases e
            obtain ⟨q0, q1⟩ := hcell pre.length hl
            have hget : L2[pre.length]? = some (L2.getD pre.length dz) := by rw [getD_lt hl, List.getElem?_eq_getElem hl]
            have hlt : (pre.length : Int) < (L2.length : Int) := by omega
            have hlt2 : ¬ (L2.length : Int) ≤ (pre.length : Int) := by omega
            have hp0 : (0 : Int) ≤ (pre.length : Int) := by omega
            have hcn : (cntM pre : Int) < 3500000000000 := by have := cnt_le pre; omega
            have hcn0 : (0 : Int) ≤ (cntM pre : Int) := by omega
            generalize L2.getD pre.length dz = y at *
            have HMIS : Hid (y ≠ x' → ¬ pre ++ [x'] <+: L2) := Hid.mk' (fun hne hp => by
              have := prefix_snoc_get hp
              rw [hget] at this
              exact hne (Option.some.inj this))
            have HS := Hid.mk' hS
            have HPR := Hid.mk' hpre
            have HR1 := Hid.mk' hr1
            have HGET := Hid.mk' hget
            clear hcell hget hS hpre hr1
            by_cases hxy : y.1 = x'.1
            · have hb1 : (y.1.toList == x'.1.toList) = true := by rw [beq_toList]; exact decide_eq_true hxy
              by_cases hvv : y.2 = x'.2
              · have hb2 : (y.2 == x'.2) = true := by simpa using hvv
                have hb3 : (y.2 != x'.2) = false := by simpa using hvv
                obtain rfl : y = x' := Prod.ext hxy hvv
                have HPX : Hid (pre ++ [y] <+: L2) := Hid.mk' (prefix_get_snoc HPR.out HGET.out)
                have hm109 : mB.toList = [109] := by kernel_rfl
                by_cases hm : y.1 = mB
                · have hq1 : (y.1.toList == [109]) = true := by rw [← hm109, beq_toList]; exact decide_eq_true hm
                  have hSa := HS.out.metL HO2.out ((cntM pre : Int) + 1)
                  have hka : Kr (bl2 + 3) W (W.setCell ⟨bl2 + 2, 0, none⟩ (.int .i64 ((cntM pre : Int) + 1))) := kr_box (HS.out.bx (b := bl2 + 2) (t := 3) (v := .int .i64 (cntM pre)) (by simp [rbs]))
                  generalize hWa : W.setCell ⟨bl2 + 2, 0, none⟩ (.int .i64 ((cntM pre : Int) + 1)) = Wa at *
                  have HMN := Hid.mk' hm
                  have hSb := hSa.seenL HO2.out ((pre.length : Int) + 1)
                  have hkb : Kr (bl2 + 3) W (Wa.setCell ⟨bl2 + 1, 0, none⟩ (.int .i64 ((pre.length : Int) + 1))) := hka.trans (kr_box (hSa.bx (b := bl2 + 1) (t := 3) (v := .int .i64 pre.length) (by simp [rbs])))
                  have a1 := (hSa.bx (b := bl2 + 1) (t := 3) (v := .int .i64 pre.length) (by simp [rbs])).cell
                  have a2 := (hSa.bx (b := bl2 + 1) (t := 3) (v := .int .i64 pre.length) (by simp [rbs])).frozen
                  generalize hWb : Wa.setCell ⟨bl2 + 1, 0, none⟩ (.int .i64 ((pre.length : Int) + 1)) = Wb at *
                  have n0 := (hSb.bx (b := br2) (t := 3) (v := .int .i64 2) (by simp [rbs])).cell
                  have HSB := Hid.mk' hSb
                  have HKB := Hid.mk' hkb
                  clear hSb hkb hSa hka hm hxy hvv
                  gi_wp2
                  refine ⟨by first | exact HKB.out.1 | (rw [hszL2]; exact HKB.out.1), HKB.out.2, ?_, HPX.out, fun h => by cases h⟩
                  rw [List.length_append, cnt_snoc_m HMN.out]
                  exact HSB.out
                · have hq1 : (y.1.toList == [109]) = false := by rw [← hm109, beq_toList]; exact decide_eq_false hm
                  have hSa := HS.out
                  have hka : Kr (bl2 + 3) W W := Kr.refl _ _
                  obtain ⟨Wa, hWa⟩ : ∃ Wa, W = Wa := ⟨_, rfl⟩
                  have HMN : Hid (y.1 ≠ mB) := Hid.mk' hm
                  have hSb := hSa.seenL HO2.out ((pre.length : Int) + 1)
                  have hkb : Kr (bl2 + 3) W (W.setCell ⟨bl2 + 1, 0, none⟩ (.int .i64 ((pre.length : Int) + 1))) := hka.trans (kr_box (hSa.bx (b := bl2 + 1) (t := 3) (v := .int .i64 pre.length) (by simp [rbs])))
                  have a1 := (hSa.bx (b := bl2 + 1) (t := 3) (v := .int .i64 pre.length) (by simp [rbs])).cell
                  have a2 := (hSa.bx (b := bl2 + 1) (t := 3) (v := .int .i64 pre.length) (by simp [rbs])).frozen
                  generalize hWb : W.setCell ⟨bl2 + 1, 0, none⟩ (.int .i64 ((pre.length : Int) + 1)) = Wb at *
                  have n0 := (hSb.bx (b := br2) (t := 3) (v := .int .i64 2) (by simp [rbs])).cell
                  have HSB := Hid.mk' hSb
                  have HKB := Hid.mk' hkb
                  clear hSb hkb hSa hka hm hxy hvv hWa
                  gi_wp2
                  refine ⟨by first | exact HKB.out.1 | (rw [hszL2]; exact HKB.out.1), HKB.out.2, ?_, HPX.out, fun h => by cases h⟩
                  rw [List.length_append, cnt_snoc HMN.out]
                  exact HSB.out
              · have hb2 : (y.2 == x'.2) = false := by simpa using hvv
                have hb3 : (y.2 != x'.2) = true := by simpa using hvv
                have HNE : Hid (¬ pre ++ [x'] <+: L2) := Hid.mk' (HMIS.out (fun e => hvv (by rw [e])))
                clear hxy hvv
                gi_wp2
                exact ⟨keepsFrom_of (one_keeps _ _ _ _) (by rintro i rfl; exact .inr ⟨_, _, _, HS.out.bx (b := w.heap.size) (t := 4) (v := .bool false) (by simp [rbs, lbs])⟩), .inl ⟨rfl, HNE.out⟩⟩
            · have hb1 : (y.1.toList == x'.1.toList) = false := by rw [beq_toList]; exact decide_eq_false hxy
              have HNE : Hid (¬ pre ++ [x'] <+: L2) := Hid.mk' (HMIS.out (fun e => hxy (by rw [e])))
              clear hxy
              gi_wp2
              exact ⟨keepsFrom_of (one_keeps _ _ _ _) (by rintro i rfl; exact .inr ⟨_, _, _, HS.out.bx (b := w.heap.size) (t := 4) (v := .bool false) (by simp [rbs, lbs])⟩), .inl ⟨rfl, HNE.out⟩⟩
          case rest2 =>
            rintro D2 WR2 hDD2 hK2 ⟨pre2, hS2, hp12, hp22⟩
            have hpL := hp12 (by decide)
            rw [hpL] at hS2
            have hc0 : cntM L2 = 0 := by rw [← HL2.out]; exact HG4.out.1
            rw [hc0] at hS2
            dsimp only at hS2
            clear hpL hc0 hp12 hp22 pre2
            have HF2 := Hid.mk' (hS2.addD hK2)
            have hDlt2 : w.heap.size < D2 ∧ bl2 + 3 ≤ D2 := by omega
            have cr := (HF2.out.bx (b := br2) (t := 3) (v := .int .i64 2) (by simp [rbs])).cell
            have cs := (HF2.out.bx (b := bl2 + 1) (t := 3) (v := .int .i64 (L2.length : Int)) (by simp [rbs])).cell
            have cm := (HF2.out.bx (b := bl2 + 2) (t := 3) (v := .int .i64 ((0 : Nat) : Int)) (by simp [rbs])).cell
            have cl := (HF2.out.bx (b := bl2) (t := 26) (v := .slice pk2 L2.length ck2) (by simp [rbs])).cell
            clear hS2 hK2 hDD2 HE2 cX2 cD2 hseq2 hszL2 hdd2
            simp only [Exit.inBlock, Exit.then]
            go_wp2
            rw [rounds_succ]
            have HB3 : Hid (ST w (WR2.alloc (.cells #[.int .i64 3] 3)) (w.heap.size + 1 + 1) (w.heap.size + 1) S4 ((WR2.heap.size, 3, .int .i64 3) :: (lbs (w.heap.size + 1 + 1) w.heap.size b7 b8 bX d)) [D2, D1, D0] wl2.heap.size (.slice pk2 L2.length ck2) L2) := Hid.mk' (by
              have h := (HF2.out.sub (bs' := (lbs (w.heap.size + 1 + 1) w.heap.size b7 b8 bX d)) (by intro q hq; simp only [rbs, List.mem_cons]; right; right; right; right; exact hq)).newb 3 (.int .i64 3)
              exact h)
            obtain ⟨br3, hbr3⟩ : ∃ b, WR2.heap.size = b := ⟨_, rfl⟩
            have hbx3 : bX + 1 < br3 := by have := (HF2.out.bx (b := bX + 1) (t := 3) (v := .int .i64 d) (by simp [rbs, lbs])).lt; omega
            rw [hbr3] at HB3
            obtain ⟨WW3, hWW3⟩ : ∃ W, WR2.alloc (.cells #[.int .i64 3] 3) = W := ⟨_, rfl⟩
            rw [hWW3] at HB3
            simp only [hbr3, hWW3]
            clear hWW3 hbr3 HF2 cr cs cm cl
            have cr := (HB3.out.bx (b := br3) (t := 3) (v := .int .i64 3) (by simp)).cell
            have cx := (HB3.out.bx (b := b7) (t := 24) (v := .pointer (some ⟨w.heap.size + 1 + 1, 0, none⟩)) (by simp [lbs])).cell
            have cd := (HB3.out.bx (b := b8) (t := 3) (v := .int .i64 d) (by simp [lbs])).cell
            go_wp2_with (first
              | (go_at_call 13; refine (st_get HB3 d hwf mB 0 HG4.out.2).mono ?_; rintro e w30 ⟨rfl, H30'⟩; have H30 := Hid.mk' H30'.out.1; clear HB3 H30' cr cx cd; have c6 := (H30.out.bx (b := w.heap.size) (t := 4) (v := .bool false) (by simp [lbs])).cell; have f6 := (H30.out.bx (b := w.heap.size) (t := 4) (v := .bool false) (by simp [lbs])).frozen))
            have hE := H30.out.set (b := w.heap.size) (t := 4) (v := .bool false) (.bool true) (by simp [lbs]) (by decide) (by decide) (bs' := [(w.heap.size, 4, .bool true)]) (by intro q hq; left; simpa using hq)
            have e0 := hE.nc D0 (by simp)
            have e1 := hE.nc D1 (by simp)
            have e2 := hE.nc D2 (by simp)
            have hbx := hE.bx (b := w.heap.size) (t := 4) (v := .bool true) (by simp)
            have g1 := HDD1.out D0 (by simp)
            have g2 := HDD2.out D0 (by simp)
            have g3 := HDD2.out D1 (by simp)
            refine ⟨by simp, .inl ⟨_, _, rfl, run_takeDeferred e2, ?_⟩⟩
            have e1' := (World.putObj_heap_other (o := .deferred none) (show D1 ≠ D2 by omega)).trans e1
            have e0' := (World.putObj_heap_other (o := .deferred none) (show D0 ≠ D2 by omega)).trans e0
            have hbx1 : Boxed _ w.heap.size 4 (.bool true) := (World.putObj_heap_other (o := .deferred none) (show w.heap.size ≠ D2 by omega)).trans hbx
            refine ⟨by simp, .inl ⟨_, _, rfl, run_takeDeferred e1', ?_⟩⟩
            have e0'' := (World.putObj_heap_other (o := .deferred none) (show D0 ≠ D1 by omega)).trans e0'
            have hbx2 : Boxed _ w.heap.size 4 (.bool true) := (World.putObj_heap_other (o := .deferred none) (show w.heap.size ≠ D1 by omega)).trans hbx1
            refine ⟨by simp, .inl ⟨_, _, rfl, run_takeDeferred e0'', ?_⟩⟩
            have hbx3 : Boxed _ w.heap.size 4 (.bool true) := (World.putObj_heap_other (o := .deferred none) (show w.heap.size ≠ D0 by omega)).trans hbx2
            exact ⟨_, results_box4L rfl _ _ w.heap.size _ rfl hbx3, rfl, ((hE.keep.step (grownBy_putObj' _ D2 _) (by rintro k hk'; cases hk'; right; omega)).step (grownBy_putObj' _ D1 _) (by rintro k hk'; cases hk'; right; omega)).step (grownBy_putObj' _ D0 _) (by rintro k hk'; cases hk'; right; omega)⟩
  · have hvf : valid nm = false := by simpa using hv
    rw [hvf] at h15
    have HLT : Hid (LT S2 d (S.length + 2)) := Hid.mk' ⟨HLP.out.2.1.rise, HLP.out.2.1.ok, by have := HLP.out.2.1.few; omega, HLP.out.2.1.has⟩
    clear hv hvf
    go_wp2
    go_quiet (first | (go_at_call 15; exact Calls.quiet_of_same (h15 _)))
    have HZ := Hid.mk' (H10.out.drewN nq)
    obtain ⟨WZ, hWZ⟩ : ∃ W, w10.drewN nq = W := ⟨_, rfl⟩
    rw [hWZ] at HZ ⊢
    clear hWZ H10 x1 x2 h15
    go_wp2
    refine wp_loop_rounds 4 ?_
    rw [rounds_succ]
    have HB0 := Hid.mk' (HZ.out.newb 3 (.int .i64 0))
    obtain ⟨br0, hbr0⟩ : ∃ b, WZ.heap.size = b := ⟨_, rfl⟩
    have hbx0 : bX + 1 < br0 := by have := (HZ.out.bx (b := bX + 1) (t := 3) (v := .int .i64 d) (by simp [lbs])).lt; omega
    rw [hbr0] at HB0
    obtain ⟨WW0, hWW0⟩ : ∃ W, WZ.alloc (.cells #[.int .i64 0] 3) = W := ⟨_, rfl⟩
    rw [hWW0] at HB0
    simp only [hbr0, hWW0]
    clear hWW0 hbr0 HZ
    obtain ⟨L0, hL0⟩ : ∃ L, lstS S2 d = L := ⟨_, rfl⟩
    have HL0 := Hid.mk' hL0
    have hLl0 : L0.length < 3500000000000 := by rw [← hL0, lst_len]; have := filt_le S2 (inDir d); have := HLT.out.few; omega
    clear hL0
    have cr0 := (HB0.out.bx (b := br0) (t := 3) (v := .int .i64 0) (by simp)).cell
    have cx0 := (HB0.out.bx (b := b7) (t := 24) (v := .pointer (some ⟨w.heap.size + 1 + 1, 0, none⟩)) (by simp [lbs])).cell
    have cd0 := (HB0.out.bx (b := b8) (t := 3) (v := .int .i64 d) (by simp [lbs])).cell
    go_wp2_with (first
      | (go_at_call 20; refine (st_copy HC0 DC0 (by omega)).mono ?_; rintro e wc0 ⟨pk0, ck0, rfl, HD0⟩; clear HC0 DC0)
      | (go_at_call 11; refine (st_list HB0 d L0 HL0.out).mono ?_; rintro e wl0 ⟨pl0, cl0, rfl, HC0, DC0⟩; clear HB0 cr0 cx0 cd0))
    obtain ⟨bl0, hbl0⟩ : ∃ b, wc0.heap.size = b := ⟨_, rfl⟩
    have hlt0 : br0 < bl0 ∧ w.heap.size + 1 < bl0 := by
      have h1 := (HD0.out.bx (b := br0) (t := 3) (v := .int .i64 0) (by simp)).lt
      have h2 := HD0.out.ix.lt
      omega
    have hdd0 : ∀ k ∈ ([] : List Nat), k < bl0 := fun k hk => by have := heap_lt (HD0.out.nc k hk); omega
    have HDD0 := Hid.mk' hdd0
    obtain ⟨WL0, hWL0⟩ : ∃ W, ((wc0.alloc (.cells #[.slice pk0 L0.length ck0] 26)).alloc (.cells #[.int .i64 0] 3)).alloc (.cells #[.int .i64 0] 3) = W := ⟨_, rfl⟩
    have HE0 : Hid (ST w WL0 (w.heap.size + 1 + 1) (w.heap.size + 1) S2 (rbs (w.heap.size + 1 + 1) w.heap.size b7 b8 bX br0 bl0 d (.slice pk0 L0.length ck0) 0 0 0) [] wl0.heap.size (.slice pk0 L0.length ck0) L0) := Hid.mk' (by
      have h := ((HD0.out.newb 26 (.slice pk0 L0.length ck0)).newb 3 (.int .i64 0)).newb 3 (.int .i64 0)
      rw [hWL0] at h
      simp only [World.size_alloc, hbl0] at h
      exact h)
    have hszL0 : WL0.heap.size = bl0 + 3 := by rw [← hWL0]; simp only [World.size_alloc, hbl0]
    simp only [hbl0, hWL0]
    clear hWL0 hbl0 HD0
    have cX0 := (HE0.out.bx (b := bX) (t := 24) (v := .pointer (some ⟨w.heap.size + 1 + 1, 0, none⟩)) (by simp [rbs, lbs])).cell
    have cD0 := (HE0.out.bx (b := bX + 1) (t := 3) (v := .int .i64 d) (by simp [rbs, lbs])).cell
    have hseq0 := all_stopsR 8 bX (bX + 1) (w.heap.size + 1 + 1) (w.heap.size + 1) d S2 HE0.out.few WL0 cX0 cD0 HE0.out.ix
    rw [HL0.out] at hseq0
    have HO0 : Hid (w.heap.size < bl0 ∧ b7 < bl0 ∧ b8 < bl0 ∧ bX + 1 < bl0 ∧ br0 < bl0) := Hid.mk' (by omega)
    refine wpIn_wide.1 (rangeFunc_m (n := 9) rfl (by decide) (gf := 31) (lb := #[.pointer (some ⟨bX, 0, none⟩), .pointer (some ⟨bX + 1, 0, none⟩)]) rfl trivial (enters_of Try.func31 (by kernel_rfl) rfl)
      hseq0 (fun h k => h.trans k) (kpR_b WL0) (Below.refl _ _) (fun _ => rfl)
      (IL w (w.heap.size + 1 + 1) (w.heap.size + 1) w.heap.size b7 b8 bX br0 bl0 d (.slice pk0 L0.length ck0) wl0.heap.size L0 [] 0 (lateR S2 d)) (XL w (w.heap.size + 1 + 1) (w.heap.size + 1) w.heap.size b7 b8 bX br0 bl0 d (.slice pk0 L0.length ck0) wl0.heap.size L0 [] 0 (lateR S2 d)) (IL.own (by omega) (by omega) (fun k hk => by have := hdd0 k hk; omega)) (XL.own (by omega) (by omega) (fun k hk => by have := hdd0 k hk; omega)) ⟨HE0.out, List.nil_prefix, fun _ => rfl⟩
      (fun x' t => (((t.setIfInBounds 72 (.string x'.1)).setIfInBounds 73 (.int .i64 x'.2)).setIfInBounds 16 (.string x'.1)).setIfInBounds 17 (.int .i64 x'.2))
      (ML w (w.heap.size + 1 + 1) (w.heap.size + 1) w.heap.size b7 b8 bX br0 bl0 d (.slice pk0 L0.length ck0) wl0.heap.size L0 [] 0 (lateR S2 d)) 2
      (fun xs W hS hi => by subst hS; exact ml_done hi) (fun c pre W hS hx => ml_stop hS hx) ?hQ0 ?assign0 ?body0 ?rest0)
    case hQ0 => intro a W h; simpa only [Exit.inBlock, if_true] using h
    case assign0 =>
      intro r x' W K hK
      simp only [encs]
      gi_wp2
      simpa using hK
    case body0 =>
      rintro rr pre x' W ⟨hS, hpre, hr1⟩ hl
      simp only [List.setIfInBounds_toArray, List.set_cons_zero, List.set_cons_succ]
      have cs := (hS.bx (b := bl0 + 1) (t := 3) (v := .int .i64 pre.length) (by simp [rbs])).cell
      have fs := (hS.bx (b := bl0 + 1) (t := 3) (v := .int .i64 pre.length) (by simp [rbs])).frozen
      have cm := (hS.bx (b := bl0 + 2) (t := 3) (v := .int .i64 (cntM pre)) (by simp [rbs])).cell
      have fm := (hS.bx (b := bl0 + 2) (t := 3) (v := .int .i64 (cntM pre)) (by simp [rbs])).frozen
      have cl := (hS.bx (b := bl0) (t := 26) (v := .slice pk0 L0.length ck0) (by simp [rbs])).cell
      have cr := (hS.bx (b := br0) (t := 3) (v := .int .i64 0) (by simp [rbs])).cell
      have c6 := (hS.bx (b := w.heap.size) (t := 4) (v := .bool false) (by simp [rbs, lbs])).cell
      have f6 := (hS.bx (b := w.heap.size) (t := 4) (v := .bool false) (by simp [rbs, lbs])).frozen
      obtain ⟨g, o, cap', e, _, hcell⟩ := hS.row.dsl.pos (by omega)
      cases e
      obtain ⟨q0, q1⟩ := hcell pre.length hl
      have hget : L0[pre.length]? = some (L0.getD pre.length dz) := by rw [getD_lt hl, List.getElem?_eq_getElem hl]
      have hlt : (pre.length : Int) < (L0.length : Int) := by omega
      have hlt2 : ¬ (L0.length : Int) ≤ (pre.length : Int) := by omega
      have hp0 : (0 : Int) ≤ (pre.length : Int) := by omega
      have hcn : (cntM pre : Int) < 3500000000000 := by have := cnt_le pre; omega
      have hcn0 : (0 : Int) ≤ (cntM pre : Int) := by omega
      generalize L0.getD pre.length dz = y at *
      have HMIS : Hid (y ≠ x' → ¬ pre ++ [x'] <+: L0) := Hid.mk' (fun hne hp => by
        have := prefix_snoc_get hp
        rw [hget] at this
        exact hne (Option.some.inj this))
      have HS := Hid.mk' hS
      have HPR := Hid.mk' hpre
      have HR1 := Hid.mk' hr1
      have HGET := Hid.mk' hget
      clear hcell hget hS hpre hr1
      by_cases hxy : y.1 = x'.1
      · have hb1 : (y.1.toList == x'.1.toList) = true := by rw [beq_toList]; exact decide_eq_true hxy
        by_cases hvv : y.2 = x'.2
        · have hb2 : (y.2 == x'.2) = true := by simpa using hvv
          have hb3 : (y.2 != x'.2) = false := by simpa using hvv
          obtain rfl : y = x' := Prod.ext hxy hvv
          have HPX : Hid (pre ++ [y] <+: L0) := Hid.mk' (prefix_get_snoc HPR.out HGET.out)
          have hm109 : mB.toList = [109] := by kernel_rfl
          by_cases hm : y.1 = mB
          · have hq1 : (y.1.toList == [109]) = true := by rw [← hm109, beq_toList]; exact decide_eq_true hm
            have hSa := HS.out.metL HO0.out ((cntM pre : Int) + 1)
            have hka : Kr (bl0 + 3) W (W.setCell ⟨bl0 + 2, 0, none⟩ (.int .i64 ((cntM pre : Int) + 1))) := kr_box (HS.out.bx (b := bl0 + 2) (t := 3) (v := .int .i64 (cntM pre)) (by simp [rbs]))
            generalize hWa : W.setCell ⟨bl0 + 2, 0, none⟩ (.int .i64 ((cntM pre : Int) + 1)) = Wa at *
            have HMN := Hid.mk' hm
            have hSb := hSa.seenL HO0.out ((pre.length : Int) + 1)
            have hkb : Kr (bl0 + 3) W (Wa.setCell ⟨bl0 + 1, 0, none⟩ (.int .i64 ((pre.length : Int) + 1))) := hka.trans (kr_box (hSa.bx (b := bl0 + 1) (t := 3) (v := .int .i64 pre.length) (by simp [rbs])))
            have a1 := (hSa.bx (b := bl0 + 1) (t := 3) (v := .int .i64 pre.length) (by simp [rbs])).cell
            have a2 := (hSa.bx (b := bl0 + 1) (t := 3) (v := .int .i64 pre.length) (by simp [rbs])).frozen
            generalize hWb : Wa.setCell ⟨bl0 + 1, 0, none⟩ (.int .i64 ((pre.length : Int) + 1)) = Wb at *
            have n0 := (hSb.bx (b := br0) (t := 3) (v := .int .i64 0) (by simp [rbs])).cell
            have n7 := (hSb.bx (b := b7) (t := 24) (v := .pointer (some ⟨w.heap.size + 1 + 1, 0, none⟩)) (by simp [rbs, lbs])).cell
            have n8 := (hSb.bx (b := b8) (t := 3) (v := .int .i64 d) (by simp [rbs, lbs])).cell
            have h21 : ∀ m, CallsIn (Fence.wide.inRound rr) m Try.prog 21 #[.pointer (some ⟨w.heap.size + 1 + 1, 0, none⟩), .int .i64 d, .string y.1] Wb fun e w' => ∃ a E : Int, e = .returned (.tuple #[.int .i64 a, .int .i64 E]) ∧ Hid (ST w w' (w.heap.size + 1 + 1) (w.heap.size + 1) ((lateR S2 d) (pre ++ [y])) (rbs (w.heap.size + 1 + 1) w.heap.size b7 b8 bX br0 bl0 d (.slice (some ⟨g, o, none⟩) L0.length ck0) 0 ((pre.length : Int) + 1) ((cntM pre : Int) + 1)) [] wl0.heap.size (.slice (some ⟨g, o, none⟩) L0.length ck0) L0 ∧ Kr (bl0 + 3) W w') ∧ w'.cell? ⟨br0, 0, none⟩ = some (.int .i64 0) := fun m => CallsIn.inRound rr (callsIn_wide.2 ((st_drop (Hid.mk' hSb) d hwf y.1 _ _ ((lateR S2 d) (pre ++ [y])) rfl rfl (by rw [hm]; exact lateR_snoc_m hm)).mono (by
              rintro e w' ⟨rfl, H⟩
              exact ⟨_, _, rfl, ⟨H.out.1, hkb.trans (kr_map hSb.ix (by omega) H.out.2)⟩, (H.out.1.bx (b := br0) (t := 3) (v := .int .i64 0) (by simp [rbs])).cell⟩)))
            have H21 := Hid.mk' h21
            clear h21 hSb hkb hSa hka hm hxy hvv
            gi_wp2_with (first
              | (refine ⟨trivial, ?_⟩; (try refine ⟨fun h => (by cases h), ?_⟩); gi_at_call 21; refine (H21.out _).mono ?_; clear H21; rintro e w5 ⟨a5, E5, rfl, H5, z0⟩))
            refine ⟨by first | exact H5.out.2.1 | (rw [hszL0]; exact H5.out.2.1), H5.out.2.2, ?_, HPX.out, fun h => by cases h⟩
            rw [List.length_append, cnt_snoc_m HMN.out]
            exact H5.out.1
          · have hq1 : (y.1.toList == [109]) = false := by rw [← hm109, beq_toList]; exact decide_eq_false hm
            have hSa := HS.out
            have hka : Kr (bl0 + 3) W W := Kr.refl _ _
            obtain ⟨Wa, hWa⟩ : ∃ Wa, W = Wa := ⟨_, rfl⟩
            have HMN : Hid (y.1 ≠ mB) := Hid.mk' hm
            have hSb := hSa.seenL HO0.out ((pre.length : Int) + 1)
            have hkb : Kr (bl0 + 3) W (W.setCell ⟨bl0 + 1, 0, none⟩ (.int .i64 ((pre.length : Int) + 1))) := hka.trans (kr_box (hSa.bx (b := bl0 + 1) (t := 3) (v := .int .i64 pre.length) (by simp [rbs])))
            have a1 := (hSa.bx (b := bl0 + 1) (t := 3) (v := .int .i64 pre.length) (by simp [rbs])).cell
            have a2 := (hSa.bx (b := bl0 + 1) (t := 3) (v := .int .i64 pre.length) (by simp [rbs])).frozen
            generalize hWb : W.setCell ⟨bl0 + 1, 0, none⟩ (.int .i64 ((pre.length : Int) + 1)) = Wb at *
            have n0 := (hSb.bx (b := br0) (t := 3) (v := .int .i64 0) (by simp [rbs])).cell
            have HSB := Hid.mk' hSb
            have HKB := Hid.mk' hkb
            clear hSb hkb hSa hka hm hxy hvv hWa
            gi_wp2
            refine ⟨by first | exact HKB.out.1 | (rw [hszL0]; exact HKB.out.1), HKB.out.2, ?_, HPX.out, fun h => by cases h⟩
            rw [List.length_append, cnt_snoc HMN.out, lateR_snoc HMN.out]
            exact HSB.out
        · have hb2 : (y.2 == x'.2) = false := by simpa using hvv
          have hb3 : (y.2 != x'.2) = true := by simpa using hvv
          have HNE : Hid (¬ pre ++ [x'] <+: L0) := Hid.mk' (HMIS.out (fun e => hvv (by rw [e])))
          clear hxy hvv
          gi_wp2
          exact ⟨keepsFrom_of (one_keeps _ _ _ _) (by rintro i rfl; exact .inr ⟨_, _, _, HS.out.bx (b := w.heap.size) (t := 4) (v := .bool false) (by simp [rbs, lbs])⟩), .inl ⟨rfl, HNE.out⟩⟩
      · have hb1 : (y.1.toList == x'.1.toList) = false := by rw [beq_toList]; exact decide_eq_false hxy
        have HNE : Hid (¬ pre ++ [x'] <+: L0) := Hid.mk' (HMIS.out (fun e => hxy (by rw [e])))
        clear hxy
        gi_wp2
        exact ⟨keepsFrom_of (one_keeps _ _ _ _) (by rintro i rfl; exact .inr ⟨_, _, _, HS.out.bx (b := w.heap.size) (t := 4) (v := .bool false) (by simp [rbs, lbs])⟩), .inl ⟨rfl, HNE.out⟩⟩
    case rest0 =>
      rintro D0 WR0 hDD0 hK0 ⟨pre0, hS0, hp10, hp20⟩
      obtain ⟨S4, hS4⟩ : ∃ S4, delS S2 d mB = S4 := ⟨_, rfl⟩
      have HG4 : Hid (cntM (lstS S4 d) = 0 ∧ getS S4 d mB = 0) := Hid.mk' (by rw [← hS4]; exact ⟨lt_gone.1, lt_gone.2.1⟩)
      have hl4 : S4.length ≤ (S2).length := by rw [← hS4]; exact List.length_filter_le ..
      have HF4 : Hid (S4.length < 3500000000000) := Hid.mk' (by have h1 := HLT.out.few; omega)
      clear hl4
      have hpL := hp10 (by decide)
      rw [hpL] at hS0
      have hc1 : cntM L0 = 1 := by rw [← HL0.out]; exact (lt_one HLT.out).1
      have hRe : lateR S2 d L0 = S4 := by rw [← HL0.out, lateR_end HLT.out]; exact hS4
      rw [hc1, hRe] at hS0
      clear hpL hc1 hRe hS4 hp10 hp20 pre0
      have HF0 := Hid.mk' (hS0.addD hK0)
      have hDlt0 : w.heap.size < D0 ∧ bl0 + 3 ≤ D0 := by omega
      have cr := (HF0.out.bx (b := br0) (t := 3) (v := .int .i64 0) (by simp [rbs])).cell
      have cs := (HF0.out.bx (b := bl0 + 1) (t := 3) (v := .int .i64 (L0.length : Int)) (by simp [rbs])).cell
      have cm := (HF0.out.bx (b := bl0 + 2) (t := 3) (v := .int .i64 ((1 : Nat) : Int)) (by simp [rbs])).cell
      have cl := (HF0.out.bx (b := bl0) (t := 26) (v := .slice pk0 L0.length ck0) (by simp [rbs])).cell
      clear hS0 hK0 hDD0 HE0 cX0 cD0 hseq0 hszL0 hdd0
      simp only [Exit.inBlock, Exit.then]
      go_wp2
      rw [rounds_succ]
      have HB1 : Hid (ST w (WR0.alloc (.cells #[.int .i64 1] 3)) (w.heap.size + 1 + 1) (w.heap.size + 1) S4 ((WR0.heap.size, 3, .int .i64 1) :: (lbs (w.heap.size + 1 + 1) w.heap.size b7 b8 bX d)) [D0] wl0.heap.size (.slice pk0 L0.length ck0) L0) := Hid.mk' (by
        have h := (HF0.out.sub (bs' := (lbs (w.heap.size + 1 + 1) w.heap.size b7 b8 bX d)) (by intro q hq; simp only [rbs, List.mem_cons]; right; right; right; right; exact hq)).newb 3 (.int .i64 1)
        exact h)
      obtain ⟨br1, hbr1⟩ : ∃ b, WR0.heap.size = b := ⟨_, rfl⟩
      have hbx1 : bX + 1 < br1 := by have := (HF0.out.bx (b := bX + 1) (t := 3) (v := .int .i64 d) (by simp [rbs, lbs])).lt; omega
      rw [hbr1] at HB1
      obtain ⟨WW1, hWW1⟩ : ∃ W, WR0.alloc (.cells #[.int .i64 1] 3) = W := ⟨_, rfl⟩
      rw [hWW1] at HB1
      simp only [hbr1, hWW1]
      clear hWW1 hbr1 HF0 cr cs cm cl
      obtain ⟨L1, hL1⟩ : ∃ L, lstS S4 d = L := ⟨_, rfl⟩
      have HL1 := Hid.mk' hL1
      have hLl1 : L1.length < 3500000000000 := by rw [← hL1, lst_len]; have := filt_le S4 (inDir d); have := HF4.out; omega
      clear hL1
      have cr1 := (HB1.out.bx (b := br1) (t := 3) (v := .int .i64 1) (by simp)).cell
      have cx1 := (HB1.out.bx (b := b7) (t := 24) (v := .pointer (some ⟨w.heap.size + 1 + 1, 0, none⟩)) (by simp [lbs])).cell
      have cd1 := (HB1.out.bx (b := b8) (t := 3) (v := .int .i64 d) (by simp [lbs])).cell
      go_wp2_with (first
        | (go_at_call 20; refine (st_copy HC1 DC1 (by omega)).mono ?_; rintro e wc1 ⟨pk1, ck1, rfl, HD1⟩; clear HC1 DC1)
        | (go_at_call 11; refine (st_list HB1 d L1 HL1.out).mono ?_; rintro e wl1 ⟨pl1, cl1, rfl, HC1, DC1⟩; clear HB1 cr1 cx1 cd1))
      obtain ⟨bl1, hbl1⟩ : ∃ b, wc1.heap.size = b := ⟨_, rfl⟩
      have hlt1 : br1 < bl1 ∧ w.heap.size + 1 < bl1 := by
        have h1 := (HD1.out.bx (b := br1) (t := 3) (v := .int .i64 1) (by simp)).lt
        have h2 := HD1.out.ix.lt
        omega
      have hdd1 : ∀ k ∈ ([D0] : List Nat), k < bl1 := fun k hk => by have := heap_lt (HD1.out.nc k hk); omega
      have HDD1 := Hid.mk' hdd1
      obtain ⟨WL1, hWL1⟩ : ∃ W, ((wc1.alloc (.cells #[.slice pk1 L1.length ck1] 26)).alloc (.cells #[.int .i64 0] 3)).alloc (.cells #[.int .i64 0] 3) = W := ⟨_, rfl⟩
      have HE1 : Hid (ST w WL1 (w.heap.size + 1 + 1) (w.heap.size + 1) S4 (rbs (w.heap.size + 1 + 1) w.heap.size b7 b8 bX br1 bl1 d (.slice pk1 L1.length ck1) 1 0 0) [D0] wl1.heap.size (.slice pk1 L1.length ck1) L1) := Hid.mk' (by
        have h := ((HD1.out.newb 26 (.slice pk1 L1.length ck1)).newb 3 (.int .i64 0)).newb 3 (.int .i64 0)
        rw [hWL1] at h
        simp only [World.size_alloc, hbl1] at h
        exact h)
      have hszL1 : WL1.heap.size = bl1 + 3 := by rw [← hWL1]; simp only [World.size_alloc, hbl1]
      simp only [hbl1, hWL1]
      clear hWL1 hbl1 HD1
      have cX1 := (HE1.out.bx (b := bX) (t := 24) (v := .pointer (some ⟨w.heap.size + 1 + 1, 0, none⟩)) (by simp [rbs, lbs])).cell
      have cD1 := (HE1.out.bx (b := bX + 1) (t := 3) (v := .int .i64 d) (by simp [rbs, lbs])).cell
      have hseq1 := all_stopsR 8 bX (bX + 1) (w.heap.size + 1 + 1) (w.heap.size + 1) d S4 HE1.out.few WL1 cX1 cD1 HE1.out.ix
      rw [HL1.out] at hseq1
      have HO1 : Hid (w.heap.size < bl1 ∧ b7 < bl1 ∧ b8 < bl1 ∧ bX + 1 < bl1 ∧ br1 < bl1) := Hid.mk' (by omega)
      refine wpIn_wide.1 (rangeFunc_m (n := 9) rfl (by decide) (gf := 31) (lb := #[.pointer (some ⟨bX, 0, none⟩), .pointer (some ⟨bX + 1, 0, none⟩)]) rfl trivial (enters_of Try.func31 (by kernel_rfl) rfl)
        hseq1 (fun h k => h.trans k) (kpR_b WL1) (Below.refl _ _) (fun _ => rfl)
        (IL w (w.heap.size + 1 + 1) (w.heap.size + 1) w.heap.size b7 b8 bX br1 bl1 d (.slice pk1 L1.length ck1) wl1.heap.size L1 [D0] 1 (fun _ => S4)) (XL w (w.heap.size + 1 + 1) (w.heap.size + 1) w.heap.size b7 b8 bX br1 bl1 d (.slice pk1 L1.length ck1) wl1.heap.size L1 [D0] 1 (fun _ => S4)) (IL.own (by omega) (by omega) (fun k hk => by have := hdd1 k hk; omega)) (XL.own (by omega) (by omega) (fun k hk => by have := hdd1 k hk; omega)) ⟨HE1.out, List.nil_prefix, fun _ => rfl⟩
        (fun x' t => (((t.setIfInBounds 72 (.string x'.1)).setIfInBounds 73 (.int .i64 x'.2)).setIfInBounds 16 (.string x'.1)).setIfInBounds 17 (.int .i64 x'.2))
        (ML w (w.heap.size + 1 + 1) (w.heap.size + 1) w.heap.size b7 b8 bX br1 bl1 d (.slice pk1 L1.length ck1) wl1.heap.size L1 [D0] 1 (fun _ => S4)) 2
        (fun xs W hS hi => by subst hS; exact ml_done hi) (fun c pre W hS hx => ml_stop hS hx) ?hQ1 ?assign1 ?body1 ?rest1)
      case hQ1 => intro a W h; simpa only [Exit.inBlock, if_true] using h
      case assign1 =>
        intro r x' W K hK
        simp only [encs]
        gi_wp2
        simpa using hK
      case body1 =>
        rintro rr pre x' W ⟨hS, hpre, hr1⟩ hl
        simp only [List.setIfInBounds_toArray, List.set_cons_zero, List.set_cons_succ]
        have cs := (hS.bx (b := bl1 + 1) (t := 3) (v := .int .i64 pre.length) (by simp [rbs])).cell
        have fs := (hS.bx (b := bl1 + 1) (t := 3) (v := .int .i64 pre.length) (by simp [rbs])).frozen
        have cm := (hS.bx (b := bl1 + 2) (t := 3) (v := .int .i64 (cntM pre)) (by simp [rbs])).cell
        have fm := (hS.bx (b := bl1 + 2) (t := 3) (v := .int .i64 (cntM pre)) (by simp [rbs])).frozen
        have cl := (hS.bx (b := bl1) (t := 26) (v := .slice pk1 L1.length ck1) (by simp [rbs])).cell
        have cr := (hS.bx (b := br1) (t := 3) (v := .int .i64 1) (by simp [rbs])).cell
        have c6 := (hS.bx (b := w.heap.size) (t := 4) (v := .bool false) (by simp [rbs, lbs])).cell
        have f6 := (hS.bx (b := w.heap.size) (t := 4) (v := .bool false) (by simp [rbs, lbs])).frozen
        obtain ⟨g, o, cap', e, _, hcell⟩ := hS.row.dsl.pos (by omega)
        cases e
        obtain ⟨q0, q1⟩ := hcell pre.length hl
        have hget : L1[pre.length]? = some (L1.getD pre.length dz) := by rw [getD_lt hl, List.getElem?_eq_getElem hl]
        have hlt : (pre.length : Int) < (L1.length : Int) := by omega
        have hlt2 : ¬ (L1.length : Int) ≤ (pre.length : Int) := by omega
        have hp0 : (0 : Int) ≤ (pre.length : Int) := by omega
        have hcn : (cntM pre : Int) < 3500000000000 := by have := cnt_le pre; omega
        have hcn0 : (0 : Int) ≤ (cntM pre : Int) := by omega
        generalize L1.getD pre.length dz = y at *
        have HMIS : Hid (y ≠ x' → ¬ pre ++ [x'] <+: L1) := Hid.mk' (fun hne hp => by
          have := prefix_snoc_get hp
          rw [hget] at this
          exact hne (Option.some.inj this))
        have HS := Hid.mk' hS
        have HPR := Hid.mk' hpre
        have HR1 := Hid.mk' hr1
        have HGET := Hid.mk' hget
        clear hcell hget hS hpre hr1
        by_cases hxy : y.1 = x'.1
        · have hb1 : (y.1.toList == x'.1.toList) = true := by rw [beq_toList]; exact decide_eq_true hxy
          by_cases hvv : y.2 = x'.2
          · have hb2 : (y.2 == x'.2) = true := by simpa using hvv
            have hb3 : (y.2 != x'.2) = false := by simpa using hvv
            obtain rfl : y = x' := Prod.ext hxy hvv
            have HPX : Hid (pre ++ [y] <+: L1) := Hid.mk' (prefix_get_snoc HPR.out HGET.out)
            have hm109 : mB.toList = [109] := by kernel_rfl
            by_cases hm : y.1 = mB
            · have hq1 : (y.1.toList == [109]) = true := by rw [← hm109, beq_toList]; exact decide_eq_true hm
              have hSa := HS.out.metL HO1.out ((cntM pre : Int) + 1)
              have hka : Kr (bl1 + 3) W (W.setCell ⟨bl1 + 2, 0, none⟩ (.int .i64 ((cntM pre : Int) + 1))) := kr_box (HS.out.bx (b := bl1 + 2) (t := 3) (v := .int .i64 (cntM pre)) (by simp [rbs]))
              generalize hWa : W.setCell ⟨bl1 + 2, 0, none⟩ (.int .i64 ((cntM pre : Int) + 1)) = Wa at *
              have HMN := Hid.mk' hm
              have hSb := hSa.seenL HO1.out ((pre.length : Int) + 1)
              have hkb : Kr (bl1 + 3) W (Wa.setCell ⟨bl1 + 1, 0, none⟩ (.int .i64 ((pre.length : Int) + 1))) := hka.trans (kr_box (hSa.bx (b := bl1 + 1) (t := 3) (v := .int .i64 pre.length) (by simp [rbs])))
              have a1 := (hSa.bx (b := bl1 + 1) (t := 3) (v := .int .i64 pre.length) (by simp [rbs])).cell
              have a2 := (hSa.bx (b := bl1 + 1) (t := 3) (v := .int .i64 pre.length) (by simp [rbs])).frozen
              generalize hWb : Wa.setCell ⟨bl1 + 1, 0, none⟩ (.int .i64 ((pre.length : Int) + 1)) = Wb at *
              have n0 := (hSb.bx (b := br1) (t := 3) (v := .int .i64 1) (by simp [rbs])).cell
              have HSB := Hid.mk' hSb
              have HKB := Hid.mk' hkb
              clear hSb hkb hSa hka hm hxy hvv
              gi_wp2
              refine ⟨by first | exact HKB.out.1 | (rw [hszL1]; exact HKB.out.1), .inr ⟨rfl, rfl, ?_, HPX.out, by rw [List.length_append, HR1.out (by decide)]; rfl⟩⟩
              rw [List.length_append, cnt_snoc_m HMN.out]
              exact HSB.out
            · have hq1 : (y.1.toList == [109]) = false := by rw [← hm109, beq_toList]; exact decide_eq_false hm
              have hSa := HS.out
              have hka : Kr (bl1 + 3) W W := Kr.refl _ _
              obtain ⟨Wa, hWa⟩ : ∃ Wa, W = Wa := ⟨_, rfl⟩
              have HMN : Hid (y.1 ≠ mB) := Hid.mk' hm
              have hSb := hSa.seenL HO1.out ((pre.length : Int) + 1)
              have hkb : Kr (bl1 + 3) W (W.setCell ⟨bl1 + 1, 0, none⟩ (.int .i64 ((pre.length : Int) + 1))) := hka.trans (kr_box (hSa.bx (b := bl1 + 1) (t := 3) (v := .int .i64 pre.length) (by simp [rbs])))
              have a1 := (hSa.bx (b := bl1 + 1) (t := 3) (v := .int .i64 pre.length) (by simp [rbs])).cell
              have a2 := (hSa.bx (b := bl1 + 1) (t := 3) (v := .int .i64 pre.length) (by simp [rbs])).frozen
              generalize hWb : W.setCell ⟨bl1 + 1, 0, none⟩ (.int .i64 ((pre.length : Int) + 1)) = Wb at *
              have n0 := (hSb.bx (b := br1) (t := 3) (v := .int .i64 1) (by simp [rbs])).cell
              have HSB := Hid.mk' hSb
              have HKB := Hid.mk' hkb
              clear hSb hkb hSa hka hm hxy hvv hWa
              gi_wp2
              refine ⟨by first | exact HKB.out.1 | (rw [hszL1]; exact HKB.out.1), .inr ⟨rfl, rfl, ?_, HPX.out, by rw [List.length_append, HR1.out (by decide)]; rfl⟩⟩
              rw [List.length_append, cnt_snoc HMN.out]
              exact HSB.out
          · have hb2 : (y.2 == x'.2) = false := by simpa using hvv
            have hb3 : (y.2 != x'.2) = true := by simpa using hvv
            have HNE : Hid (¬ pre ++ [x'] <+: L1) := Hid.mk' (HMIS.out (fun e => hvv (by rw [e])))
            clear hxy hvv
            gi_wp2
            exact ⟨keepsFrom_of (one_keeps _ _ _ _) (by rintro i rfl; exact .inr ⟨_, _, _, HS.out.bx (b := w.heap.size) (t := 4) (v := .bool false) (by simp [rbs, lbs])⟩), .inl ⟨rfl, HNE.out⟩⟩
        · have hb1 : (y.1.toList == x'.1.toList) = false := by rw [beq_toList]; exact decide_eq_false hxy
          have HNE : Hid (¬ pre ++ [x'] <+: L1) := Hid.mk' (HMIS.out (fun e => hxy (by rw [e])))
          clear hxy
          gi_wp2
          exact ⟨keepsFrom_of (one_keeps _ _ _ _) (by rintro i rfl; exact .inr ⟨_, _, _, HS.out.bx (b := w.heap.size) (t := 4) (v := .bool false) (by simp [rbs, lbs])⟩), .inl ⟨rfl, HNE.out⟩⟩
      case rest1 =>
        rintro D1 WR1 hDD1 hK1 ⟨pre1, hS1, hp11, hp21⟩
        obtain ⟨sn, hsn⟩ : ∃ n, pre1.length = n := ⟨_, rfl⟩
        obtain ⟨mt, hmt⟩ : ∃ n, cntM pre1 = n := ⟨_, rfl⟩
        have hmin := hp21 rfl
        rw [hsn] at hmin
        rw [hsn, hmt] at hS1
        dsimp only at hS1
        have hsl : (sn : Int) < 3500000000000 := by omega
        have hmi : min 1 (L1.length : Int) = (sn : Int) := by omega
        clear hsn hmt hmin hp11 hp21 pre1
        have HF1 := Hid.mk' (hS1.addD hK1)
        have hDlt1 : w.heap.size < D1 ∧ bl1 + 3 ≤ D1 := by omega
        have cr := (HF1.out.bx (b := br1) (t := 3) (v := .int .i64 1) (by simp [rbs])).cell
        have cs := (HF1.out.bx (b := bl1 + 1) (t := 3) (v := .int .i64 (sn : Int)) (by simp [rbs])).cell
        have cm := (HF1.out.bx (b := bl1 + 2) (t := 3) (v := .int .i64 (mt : Int)) (by simp [rbs])).cell
        have cl := (HF1.out.bx (b := bl1) (t := 26) (v := .slice pk1 L1.length ck1) (by simp [rbs])).cell
        clear hS1 hK1 hDD1 HE1 cX1 cD1 hseq1 hszL1 hdd1
        simp only [Exit.inBlock, Exit.then]
        go_wp2
        rw [rounds_succ]
        have HB2 : Hid (ST w (WR1.alloc (.cells #[.int .i64 2] 3)) (w.heap.size + 1 + 1) (w.heap.size + 1) S4 ((WR1.heap.size, 3, .int .i64 2) :: (lbs (w.heap.size + 1 + 1) w.heap.size b7 b8 bX d)) [D1, D0] wl1.heap.size (.slice pk1 L1.length ck1) L1) := Hid.mk' (by
          have h := (HF1.out.sub (bs' := (lbs (w.heap.size + 1 + 1) w.heap.size b7 b8 bX d)) (by intro q hq; simp only [rbs, List.mem_cons]; right; right; right; right; exact hq)).newb 3 (.int .i64 2)
          exact h)
        obtain ⟨br2, hbr2⟩ : ∃ b, WR1.heap.size = b := ⟨_, rfl⟩
        have hbx2 : bX + 1 < br2 := by have := (HF1.out.bx (b := bX + 1) (t := 3) (v := .int .i64 d) (by simp [rbs, lbs])).lt; omega
        rw [hbr2] at HB2
        obtain ⟨WW2, hWW2⟩ : ∃ W, WR1.alloc (.cells #[.int .i64 2] 3) = W := ⟨_, rfl⟩
        rw [hWW2] at HB2
        simp only [hbr2, hWW2]
        clear hWW2 hbr2 HF1 cr cs cm cl
        obtain ⟨L2, hL2⟩ : ∃ L, lstS S4 d = L := ⟨_, rfl⟩
        have HL2 := Hid.mk' hL2
        have hLl2 : L2.length < 3500000000000 := by rw [← hL2, lst_len]; have := filt_le S4 (inDir d); have := HF4.out; omega
        clear hL2
        have cr2 := (HB2.out.bx (b := br2) (t := 3) (v := .int .i64 2) (by simp)).cell
        have cx2 := (HB2.out.bx (b := b7) (t := 24) (v := .pointer (some ⟨w.heap.size + 1 + 1, 0, none⟩)) (by simp [lbs])).cell
        have cd2 := (HB2.out.bx (b := b8) (t := 3) (v := .int .i64 d) (by simp [lbs])).cell
        go_wp2_with (first
          | (go_at_call 20; refine (st_copy HC2 DC2 (by omega)).mono ?_; rintro e wc2 ⟨pk2, ck2, rfl, HD2⟩; clear HC2 DC2)
          | (go_at_call 11; refine (st_list HB2 d L2 HL2.out).mono ?_; rintro e wl2 ⟨pl2, cl2, rfl, HC2, DC2⟩; clear HB2 cr2 cx2 cd2))
        obtain ⟨bl2, hbl2⟩ : ∃ b, wc2.heap.size = b := ⟨_, rfl⟩
        have hlt2 : br2 < bl2 ∧ w.heap.size + 1 < bl2 := by
          have h1 := (HD2.out.bx (b := br2) (t := 3) (v := .int .i64 2) (by simp)).lt
          have h2 := HD2.out.ix.lt
          omega
        have hdd2 : ∀ k ∈ ([D1, D0] : List Nat), k < bl2 := fun k hk => by have := heap_lt (HD2.out.nc k hk); omega
        have HDD2 := Hid.mk' hdd2
        obtain ⟨WL2, hWL2⟩ : ∃ W, ((wc2.alloc (.cells #[.slice pk2 L2.length ck2] 26)).alloc (.cells #[.int .i64 0] 3)).alloc (.cells #[.int .i64 0] 3) = W := ⟨_, rfl⟩
        have HE2 : Hid (ST w WL2 (w.heap.size + 1 + 1) (w.heap.size + 1) S4 (rbs (w.heap.size + 1 + 1) w.heap.size b7 b8 bX br2 bl2 d (.slice pk2 L2.length ck2) 2 0 0) [D1, D0] wl2.heap.size (.slice pk2 L2.length ck2) L2) := Hid.mk' (by
          have h := ((HD2.out.newb 26 (.slice pk2 L2.length ck2)).newb 3 (.int .i64 0)).newb 3 (.int .i64 0)
          rw [hWL2] at h
          simp only [World.size_alloc, hbl2] at h
          exact h)
        have hszL2 : WL2.heap.size = bl2 + 3 := by rw [← hWL2]; simp only [World.size_alloc, hbl2]
        simp only [hbl2, hWL2]
        clear hWL2 hbl2 HD2
        have cX2 := (HE2.out.bx (b := bX) (t := 24) (v := .pointer (some ⟨w.heap.size + 1 + 1, 0, none⟩)) (by simp [rbs, lbs])).cell
        have cD2 := (HE2.out.bx (b := bX + 1) (t := 3) (v := .int .i64 d) (by simp [rbs, lbs])).cell
        have hseq2 := all_stopsR 8 bX (bX + 1) (w.heap.size + 1 + 1) (w.heap.size + 1) d S4 HE2.out.few WL2 cX2 cD2 HE2.out.ix
        rw [HL2.out] at hseq2
        have HO2 : Hid (w.heap.size < bl2 ∧ b7 < bl2 ∧ b8 < bl2 ∧ bX + 1 < bl2 ∧ br2 < bl2) := Hid.mk' (by omega)
        refine wpIn_wide.1 (rangeFunc_m (n := 9) rfl (by decide) (gf := 31) (lb := #[.pointer (some ⟨bX, 0, none⟩), .pointer (some ⟨bX + 1, 0, none⟩)]) rfl trivial (enters_of Try.func31 (by kernel_rfl) rfl)
          hseq2 (fun h k => h.trans k) (kpR_b WL2) (Below.refl _ _) (fun _ => rfl)
          (IL w (w.heap.size + 1 + 1) (w.heap.size + 1) w.heap.size b7 b8 bX br2 bl2 d (.slice pk2 L2.length ck2) wl2.heap.size L2 [D1, D0] 2 (fun _ => S4)) (XL w (w.heap.size + 1 + 1) (w.heap.size + 1) w.heap.size b7 b8 bX br2 bl2 d (.slice pk2 L2.length ck2) wl2.heap.size L2 [D1, D0] 2 (fun _ => S4)) (IL.own (by omega) (by omega) (fun k hk => by have := hdd2 k hk; omega)) (XL.own (by omega) (by omega) (fun k hk => by have := hdd2 k hk; omega)) ⟨HE2.out, List.nil_prefix, fun _ => rfl⟩
          (fun x' t => (((t.setIfInBounds 72 (.string x'.1)).setIfInBounds 73 (.int .i64 x'.2)).setIfInBounds 16 (.string x'.1)).setIfInBounds 17 (.int .i64 x'.2))
          (ML w (w.heap.size + 1 + 1) (w.heap.size + 1) w.heap.size b7 b8 bX br2 bl2 d (.slice pk2 L2.length ck2) wl2.heap.size L2 [D1, D0] 2 (fun _ => S4)) 2
          (fun xs W hS hi => by subst hS; exact ml_done hi) (fun c pre W hS hx => ml_stop hS hx) ?hQ2 ?assign2 ?body2 ?rest2)
        case hQ2 => intro a W h; simpa only [Exit.inBlock, if_true] using h
        case assign2 =>
          intro r x' W K hK
          simp only [encs]
          gi_wp2
          simpa using hK
        case body2 =>
          rintro rr pre x' W ⟨hS, hpre, hr1⟩ hl
          simp only [List.setIfInBounds_toArray, List.set_cons_zero, List.set_cons_succ]
          have cs := (hS.bx (b := bl2 + 1) (t := 3) (v := .int .i64 pre.length) (by simp [rbs])).cell
          have fs := (hS.bx (b := bl2 + 1) (t := 3) (v := .int .i64 pre.length) (by simp [rbs])).frozen
          have cm := (hS.bx (b := bl2 + 2) (t := 3) (v := .int .i64 (cntM pre)) (by simp [rbs])).cell
          have fm := (hS.bx (b := bl2 + 2) (t := 3) (v := .int .i64 (cntM pre)) (by simp [rbs])).frozen
          have cl := (hS.bx (b := bl2) (t := 26) (v := .slice pk2 L2.length ck2) (by simp [rbs])).cell
          have cr := (hS.bx (b := br2) (t := 3) (v := .int .i64 2) (by simp [rbs])).cell
          have c6 := (hS.bx (b := w.heap.size) (t := 4) (v := .bool false) (by simp [rbs, lbs])).cell
          have f6 := (hS.bx (b := w.heap.size) (t := 4) (v := .bool false) (by simp [rbs, lbs])).frozen
          obtain ⟨g, o, cap', e, _, hcell⟩ := hS.row.dsl.pos (by omega)
          cases e
          obtain ⟨q0, q1⟩ := hcell pre.length hl
          have hget : L2[pre.length]? = some (L2.getD pre.length dz) := by rw [getD_lt hl, List.getElem?_eq_getElem hl]
          have hlt : (pre.length : Int) < (L2.length : Int) := by omega
          have hlt2 : ¬ (L2.length : Int) ≤ (pre.length : Int) := by omega
          have hp0 : (0 : Int) ≤ (pre.length : Int) := by omega
          have hcn : (cntM pre : Int) < 3500000000000 := by have := cnt_le pre; omega
          have hcn0 : (0 : Int) ≤ (cntM pre : Int) := by omega
          generalize L2.getD pre.length dz = y at *
          have HMIS : Hid (y ≠ x' → ¬ pre ++ [x'] <+: L2) := Hid.mk' (fun hne hp => by
            have := prefix_snoc_get hp
            rw [hget] at this
            exact hne (Option.some.inj this))
          have HS := Hid.mk' hS
          have HPR := Hid.mk' hpre
          have HR1 := Hid.mk' hr1
          have HGET := Hid.mk' hget
          clear hcell hget hS hpre hr1
          by_cases hxy : y.1 = x'.1
          · have hb1 : (y.1.toList == x'.1.toList) = true := by rw [beq_toList]; exact decide_eq_true hxy
            by_cases hvv : y.2 = x'.2
            · have hb2 : (y.2 == x'.2) = true := by simpa using hvv
              have hb3 : (y.2 != x'.2) = false := by simpa using hvv
              obtain rfl : y = x' := Prod.ext hxy hvv
              have HPX : Hid (pre ++ [y] <+: L2) := Hid.mk' (prefix_get_snoc HPR.out HGET.out)
              have hm109 : mB.toList = [109] := by kernel_rfl
              by_cases hm : y.1 = mB
              · have hq1 : (y.1.toList == [109]) = true := by rw [← hm109, beq_toList]; exact decide_eq_true hm
                have hSa := HS.out.metL HO2.out ((cntM pre : Int) + 1)
                have hka : Kr (bl2 + 3) W (W.setCell ⟨bl2 + 2, 0, none⟩ (.int .i64 ((cntM pre : Int) + 1))) := kr_box (HS.out.bx (b := bl2 + 2) (t := 3) (v := .int .i64 (cntM pre)) (by simp [rbs]))
                generalize hWa : W.setCell ⟨bl2 + 2, 0, none⟩ (.int .i64 ((cntM pre : Int) + 1)) = Wa at *
                have HMN := Hid.mk' hm
                have hSb := hSa.seenL HO2.out ((pre.length : Int) + 1)
                have hkb : Kr (bl2 + 3) W (Wa.setCell ⟨bl2 + 1, 0, none⟩ (.int .i64 ((pre.length : Int) + 1))) := hka.trans (kr_box (hSa.bx (b := bl2 + 1) (t := 3) (v := .int .i64 pre.length) (by simp [rbs])))
                have a1 := (hSa.bx (b := bl2 + 1) (t := 3) (v := .int .i64 pre.length) (by simp [rbs])).cell
                have a2 := (hSa.bx (b := bl2 + 1) (t := 3) (v := .int .i64 pre.length) (by simp [rbs])).frozen
                generalize hWb : Wa.setCell ⟨bl2 + 1, 0, none⟩ (.int .i64 ((pre.length : Int) + 1)) = Wb at *
                have n0 := (hSb.bx (b := br2) (t := 3) (v := .int .i64 2) (by simp [rbs])).cell
                have HSB := Hid.mk' hSb
                have HKB := Hid.mk' hkb
                clear hSb hkb hSa hka hm hxy hvv
                gi_wp2
                refine ⟨by first | exact HKB.out.1 | (rw [hszL2]; exact HKB.out.1), HKB.out.2, ?_, HPX.out, fun h => by cases h⟩
                rw [List.length_append, cnt_snoc_m HMN.out]
                exact HSB.out
              · have hq1 : (y.1.toList == [109]) = false := by rw [← hm109, beq_toList]; exact decide_eq_false hm
                have hSa := HS.out
                have hka : Kr (bl2 + 3) W W := Kr.refl _ _
                obtain ⟨Wa, hWa⟩ : ∃ Wa, W = Wa := ⟨_, rfl⟩
                have HMN : Hid (y.1 ≠ mB) := Hid.mk' hm
                have hSb := hSa.seenL HO2.out ((pre.length : Int) + 1)
                have hkb : Kr (bl2 + 3) W (W.setCell ⟨bl2 + 1, 0, none⟩ (.int .i64 ((pre.length : Int) + 1))) := hka.trans (kr_box (hSa.bx (b := bl2 + 1) (t := 3) (v := .int .i64 pre.length) (by simp [rbs])))
                have a1 := (hSa.bx (b := bl2 + 1) (t := 3) (v := .int .i64 pre.length) (by simp [rbs])).cell
                have a2 := (hSa.bx (b := bl2 + 1) (t := 3) (v := .int .i64 pre.length) (by simp [rbs])).frozen
                generalize hWb : W.setCell ⟨bl2 + 1, 0, none⟩ (.int .i64 ((pre.length : Int) + 1)) = Wb at *
                have n0 := (hSb.bx (b := br2) (t := 3) (v := .int .i64 2) (by simp [rbs])).cell
                have HSB := Hid.mk' hSb
                have HKB := Hid.mk' hkb
                clear hSb hkb hSa hka hm hxy hvv hWa
                gi_wp2
                refine ⟨by first | exact HKB.out.1 | (rw [hszL2]; exact HKB.out.1), HKB.out.2, ?_, HPX.out, fun h => by cases h⟩
                rw [List.length_append, cnt_snoc HMN.out]
                exact HSB.out
            · have hb2 : (y.2 == x'.2) = false := by simpa using hvv
              have hb3 : (y.2 != x'.2) = true := by simpa using hvv
              have HNE : Hid (¬ pre ++ [x'] <+: L2) := Hid.mk' (HMIS.out (fun e => hvv (by rw [e])))
              clear hxy hvv
              gi_wp2
              exact ⟨keepsFrom_of (one_keeps _ _ _ _) (by rintro i rfl; exact .inr ⟨_, _, _, HS.out.bx (b := w.heap.size) (t := 4) (v := .bool false) (by simp [rbs, lbs])⟩), .inl ⟨rfl, HNE.out⟩⟩
          · have hb1 : (y.1.toList == x'.1.toList) = false := by rw [beq_toList]; exact decide_eq_false hxy
            have HNE : Hid (¬ pre ++ [x'] <+: L2) := Hid.mk' (HMIS.out (fun e => hxy (by rw [e])))
            clear hxy
            gi_wp2
            exact ⟨keepsFrom_of (one_keeps _ _ _ _) (by rintro i rfl; exact .inr ⟨_, _, _, HS.out.bx (b := w.heap.size) (t := 4) (v := .bool false) (by simp [rbs, lbs])⟩), .inl ⟨rfl, HNE.out⟩⟩
        case rest2 =>
          rintro D2 WR2 hDD2 hK2 ⟨pre2, hS2, hp12, hp22⟩
          have hpL := hp12 (by decide)
          rw [hpL] at hS2
          have hc0 : cntM L2 = 0 := by rw [← HL2.out]; exact HG4.out.1
          rw [hc0] at hS2
          dsimp only at hS2
          clear hpL hc0 hp12 hp22 pre2
          have HF2 := Hid.mk' (hS2.addD hK2)
          have hDlt2 : w.heap.size < D2 ∧ bl2 + 3 ≤ D2 := by omega
          have cr := (HF2.out.bx (b := br2) (t := 3) (v := .int .i64 2) (by simp [rbs])).cell
          have cs := (HF2.out.bx (b := bl2 + 1) (t := 3) (v := .int .i64 (L2.length : Int)) (by simp [rbs])).cell
          have cm := (HF2.out.bx (b := bl2 + 2) (t := 3) (v := .int .i64 ((0 : Nat) : Int)) (by simp [rbs])).cell
          have cl := (HF2.out.bx (b := bl2) (t := 26) (v := .slice pk2 L2.length ck2) (by simp [rbs])).cell
          clear hS2 hK2 hDD2 HE2 cX2 cD2 hseq2 hszL2 hdd2
          simp only [Exit.inBlock, Exit.then]
          go_wp2
          rw [rounds_succ]
          have HB3 : Hid (ST w (WR2.alloc (.cells #[.int .i64 3] 3)) (w.heap.size + 1 + 1) (w.heap.size + 1) S4 ((WR2.heap.size, 3, .int .i64 3) :: (lbs (w.heap.size + 1 + 1) w.heap.size b7 b8 bX d)) [D2, D1, D0] wl2.heap.size (.slice pk2 L2.length ck2) L2) := Hid.mk' (by
            have h := (HF2.out.sub (bs' := (lbs (w.heap.size + 1 + 1) w.heap.size b7 b8 bX d)) (by intro q hq; simp only [rbs, List.mem_cons]; right; right; right; right; exact hq)).newb 3 (.int .i64 3)
            exact h)
          obtain ⟨br3, hbr3⟩ : ∃ b, WR2.heap.size = b := ⟨_, rfl⟩
          have hbx3 : bX + 1 < br3 := by have := (HF2.out.bx (b := bX + 1) (t := 3) (v := .int .i64 d) (by simp [rbs, lbs])).lt; omega
          rw [hbr3] at HB3
          obtain ⟨WW3, hWW3⟩ : ∃ W, WR2.alloc (.cells #[.int .i64 3] 3) = W := ⟨_, rfl⟩
          rw [hWW3] at HB3
          simp only [hbr3, hWW3]
          clear hWW3 hbr3 HF2 cr cs cm cl
          have cr := (HB3.out.bx (b := br3) (t := 3) (v := .int .i64 3) (by simp)).cell
          have cx := (HB3.out.bx (b := b7) (t := 24) (v := .pointer (some ⟨w.heap.size + 1 + 1, 0, none⟩)) (by simp [lbs])).cell
          have cd := (HB3.out.bx (b := b8) (t := 3) (v := .int .i64 d) (by simp [lbs])).cell
          go_wp2_with (first
            | (go_at_call 13; refine (st_get HB3 d hwf mB 0 HG4.out.2).mono ?_; rintro e w30 ⟨rfl, H30'⟩; have H30 := Hid.mk' H30'.out.1; clear HB3 H30' cr cx cd; have c6 := (H30.out.bx (b := w.heap.size) (t := 4) (v := .bool false) (by simp [lbs])).cell; have f6 := (H30.out.bx (b := w.heap.size) (t := 4) (v := .bool false) (by simp [lbs])).frozen))
          have hE := H30.out.set (b := w.heap.size) (t := 4) (v := .bool false) (.bool true) (by simp [lbs]) (by decide) (by decide) (bs' := [(w.heap.size, 4, .bool true)]) (by intro q hq; left; simpa using hq)
          have e0 := hE.nc D0 (by simp)
          have e1 := hE.nc D1 (by simp)
          have e2 := hE.nc D2 (by simp)
          have hbx := hE.bx (b := w.heap.size) (t := 4) (v := .bool true) (by simp)
          have g1 := HDD1.out D0 (by simp)
          have g2 := HDD2.out D0 (by simp)
          have g3 := HDD2.out D1 (by simp)
          refine ⟨by simp, .inl ⟨_, _, rfl, run_takeDeferred e2, ?_⟩⟩
          have e1' := (World.putObj_heap_other (o := .deferred none) (show D1 ≠ D2 by omega)).trans e1
          have e0' := (World.putObj_heap_other (o := .deferred none) (show D0 ≠ D2 by omega)).trans e0
          have hbx1 : Boxed _ w.heap.size 4 (.bool true) := (World.putObj_heap_other (o := .deferred none) (show w.heap.size ≠ D2 by omega)).trans hbx
          refine ⟨by simp, .inl ⟨_, _, rfl, run_takeDeferred e1', ?_⟩⟩
          have e0'' := (World.putObj_heap_other (o := .deferred none) (show D0 ≠ D1 by omega)).trans e0'
          have hbx2 : Boxed _ w.heap.size 4 (.bool true) := (World.putObj_heap_other (o := .deferred none) (show w.heap.size ≠ D1 by omega)).trans hbx1
          refine ⟨by simp, .inl ⟨_, _, rfl, run_takeDeferred e0'', ?_⟩⟩
          have hbx3 : Boxed _ w.heap.size 4 (.bool true) := (World.putObj_heap_other (o := .deferred none) (show w.heap.size ≠ D0 by omega)).trans hbx2
          exact ⟨_, results_box4L rfl _ _ w.heap.size _ rfl hbx3, rfl, ((hE.keep.step (grownBy_putObj' _ D2 _) (by rintro k hk'; cases hk'; right; omega)).step (grownBy_putObj' _ D1 _) (by rintro k hk'; cases hk'; right; omega)).step (grownBy_putObj' _ D0 _) (by rintro k hk'; cases hk'; right; omega)⟩

end Go.Proofs.Ytendmohjodeelaa
