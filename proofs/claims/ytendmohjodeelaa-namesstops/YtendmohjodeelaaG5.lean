import Derived.Test.YtendmohjodeelaaG4
namespace Go.Proofs.Ytendmohjodeelaa
open Go.RowKit Go.Maps Go.Great Go.Shelf
attribute [local go_sem] Oper.semAt_some

def sbs (x b6 b7 b8 b9 : Nat) (d stop : Int) (vl : Value) (n : Int) : Bxs :=
  [(b9 + 4, 3, .int .i64 d), (b9 + 3, 24, .pointer (some ⟨x, 0, none⟩)), (b9 + 2, 3, .int .i64 n), (b9 + 1, 3, .int .i64 stop), (b9, 26, vl), (b8, 3, .int .i64 d), (b7, 24, .pointer (some ⟨x, 0, none⟩)), (b6, 4, .bool false)]
section
variable (w : World) (x bm : Nat) (S : List Rw) (b6 b7 b8 b9 : Nat) (d stop : Int) (vl : Value) (base : Nat) (L : List De)
def I1 (pre : List De) (W : World) : Prop := ST w W x bm S (sbs x b6 b7 b8 b9 d stop vl pre.length) [] base vl L ∧ pre <+: L ∧ (stop ≠ 0 → (pre.length : Int) < stop)
def X1 (c : Code) (pre : List De) (W : World) : Prop := (c = .ret ∧ ¬ pre <+: L) ∨ (c = .exit 0 ∧ ST w W x bm S (sbs x b6 b7 b8 b9 d stop vl pre.length) [] base vl L ∧ pre <+: L ∧ (pre.length : Int) = stop)
def M1 (W : World) : Prop := ∃ sn : Nat, ST w W x bm S (sbs x b6 b7 b8 b9 d stop vl sn) [] base vl L ∧ sn ≤ L.length ∧ (stop ≠ 0 → (sn : Int) = min stop L.length) ∧ (stop = 0 → sn = L.length)
variable {w x bm S b6 b7 b8 b9 d stop vl base L}
theorem I1.own {B : Nat} (hB : w.heap.size ≤ B) (hbm : bm < B) : OwnFrom B (I1 w x bm S b6 b7 b8 b9 d stop vl base L) := fun _ _ _ _ hs hg hr => ⟨hs.1.own hB hbm (by simp) hg hr, hs.2⟩
theorem X1.own {B : Nat} (hB : w.heap.size ≤ B) (hbm : bm < B) (c : Code) : OwnFrom B (X1 w x bm S b6 b7 b8 b9 d stop vl base L c) := fun _ _ _ _ hs hg hr => by
  rcases hs with h | ⟨h1, h2, h3⟩
  · exact .inl h
  · exact .inr ⟨h1, h2.own hB hbm (by simp) hg hr, h3⟩
theorem m1_done {W : World} (h : I1 w x bm S b6 b7 b8 b9 d stop vl base L L W) : M1 w x bm S b6 b7 b8 b9 d stop vl base L W :=
  ⟨_, h.1, Nat.le_refl _, fun hs => by have := h.2.2 hs; omega, fun _ => rfl⟩
theorem m1_stop {W : World} {c : Code} {pre : List De} (hp : pre <+: L) (h0 : stop = 0 → pre = []) (h : X1 w x bm S b6 b7 b8 b9 d stop vl base L c pre W) (hne : pre ≠ []) : c = .exit 0 ∧ M1 w x bm S b6 b7 b8 b9 d stop vl base L W := by
  rcases h with ⟨_, h⟩ | ⟨h1, h2, h3, h4⟩
  · exact absurd hp h
  · have hl := h3.length_le
    refine ⟨h1, _, h2, hl, fun _ => by omega, fun hs => absurd (h0 hs) hne⟩
theorem ST.seen {W : World} {n : Int} {ds : List Nat} (h : ST w W x bm S (sbs x b6 b7 b8 b9 d stop vl n) ds base vl L) (hb : b6 < b9 ∧ b7 < b9 ∧ b8 < b9) (m : Int) : ST w (W.setCell ⟨b9 + 2, 0, none⟩ (.int .i64 m)) x bm S (sbs x b6 b7 b8 b9 d stop vl m) ds base vl L :=
  h.set (b := b9 + 2) (t := 3) (v := .int .i64 n) (.int .i64 m) (by simp [sbs]) (by decide) (by decide) (by
    intro q hq
    simp only [sbs, List.mem_cons, List.mem_nil_iff, or_false] at hq ⊢
    rcases hq with rfl | rfl | rfl | rfl | rfl | rfl | rfl | rfl <;> simp <;> omega)
end

def sbs2 (x b6 b7 b8 b9 b14 : Nat) (d stop : Int) (vl : Value) (sn : Int) (n : Int) (vm : Value) : Bxs :=
  (b14 + 3, 3, .int .i64 d) :: (b14 + 2, 24, .pointer (some ⟨x, 0, none⟩)) :: (b14 + 1, 26, vm) :: (b14, 3, .int .i64 n) :: sbs x b6 b7 b8 b9 d stop vl sn
section
variable (w : World) (x bm : Nat) (S : List Rw) (b6 b7 b8 b9 b14 : Nat) (d stop : Int) (vl : Value) (base : Nat) (L : List De) (sn : Int) (D1 : Nat)
/-- The second loop, n names of it, R in the index, md made. -/
def G2 (n : Nat) (R : List Rw) (md : List De) (vm : Value) (m : Int) (W : World) : Prop :=
  ST w W x bm R (sbs2 x b6 b7 b8 b9 b14 d stop vl sn m vm) [D1] base vl L ∧ W.ownsRow (b14 + 1) 30 2 vm md.length (dcells md) ∧ SI S.length L d n R md
def I2 (pre : List De) (W : World) : Prop := (∃ R md vm, G2 w x bm S b6 b7 b8 b9 b14 d stop vl base L sn D1 pre.length R md vm pre.length W) ∧ pre <+: L
def M2 (W : World) : Prop := ∃ R md vm, G2 w x bm S b6 b7 b8 b9 b14 d stop vl base L sn D1 L.length R md vm L.length W
variable {w x bm S b6 b7 b8 b9 b14 d stop vl base L sn D1}
theorem G2.own {B n : Nat} {R : List Rw} {md : List De} {vm : Value} {m : Int} {X Y : World} {row : Option Nat} (hB : w.heap.size ≤ B) (hbm : bm < B) (hD : D1 < B) (h : G2 w x bm S b6 b7 b8 b9 b14 d stop vl base L sn D1 n R md vm m X) (hg : X.grownBy Y row) (hr : ∀ r, row = some r → B ≤ r ∧ ∃ o : Obj, X.heap[r]? = some o ∧ o.isCells = false) : G2 w x bm S b6 b7 b8 b9 b14 d stop vl base L sn D1 n R md vm m Y := by
  refine ⟨h.1.own hB hbm (by simpa using hD) hg hr, ownsRow_keep h.2.1 (X := fun c => row = some c) (Keeps.of hg (fun k hk => Or.inl hk)) (fun g hg' e => ?_), h.2.2⟩
  obtain ⟨cur, ho⟩ := row_obj h.2.1 hg'
  obtain ⟨_, o, ho', hc⟩ := hr g e
  rw [ho] at ho'; cases ho'; cases hc
theorem I2.own {B : Nat} (hB : w.heap.size ≤ B) (hbm : bm < B) (hD : D1 < B) : OwnFrom B (I2 w x bm S b6 b7 b8 b9 b14 d stop vl base L sn D1) := fun _ _ _ _ ⟨⟨R, md, vm, h⟩, hp⟩ hg hr => ⟨⟨R, md, vm, h.own hB hbm hD hg hr⟩, hp⟩
theorem G2.grown {n : Nat} {R : List Rw} {md : List De} {vm : Value} {m : Int} {X Y : World} (h : G2 w x bm S b6 b7 b8 b9 b14 d stop vl base L sn D1 n R md vm m X) (k : Keeps (fun _ => False) X Y) : G2 w x bm S b6 b7 b8 b9 b14 d stop vl base L sn D1 n R md vm m Y :=
  ⟨h.1.grown k, ownsRow_keep h.2.1 k (fun _ _ h => h), h.2.2⟩
/-- What a step of the body keeps beside: what lies behind B, and the rows. -/
def Kb (B b15 : Nat) (W W' : World) : Prop := KeepsFrom B W W' ∧ KpA b15 W W'
theorem Kb.trans {B b15 : Nat} {X Y Z : World} (h : Kb B b15 X Y) (k : Kb B b15 Y Z) : Kb B b15 X Z := ⟨h.1.trans k.1, h.2.trans k.2⟩
theorem kpA_of {X : Nat → Prop} {b15 : Nat} {W W' : World} (k : Keeps X W W') (h1 : ∀ v, Boxed W b15 26 v → ¬ X b15) (h2 : ∀ (b : Nat) (c : Array Value), W.heap[b]? = some (Obj.cells c 30 (0, 0)) → ¬ X b) : KpA b15 W W' :=
  fun v hv => ⟨k.size, ⟨v, k.at hv (h1 v hv), .inl rfl⟩, fun b c _ hc => k.at hc (h2 b c hc)⟩
theorem kb_false {B b15 : Nat} {W W' : World} (k : Keeps (fun _ => False) W W') : Kb B b15 W W' := ⟨keepsFrom_of k (fun _ h => h.elim), kpA_of k (fun _ _ h => h) (fun _ _ _ h => h)⟩
theorem kb_map {B b15 : Nat} {W W' : World} {R : List Rw} (hi : IxAt W x bm R) (hb : bm < B) (k : Keeps (fun c => c = bm) W W') : Kb B b15 W W' :=
  ⟨keepsFrom_of k (by rintro i rfl; exact .inl hb), kpA_of k (fun v hv e => hi.no_cells (e ▸ hv)) (fun b c hc e => hi.no_cells (e ▸ hc))⟩
theorem kb_box {B b15 b : Nat} {W : World} {v v' : Value} (hb : Boxed W b 3 v) (hne : b15 ≠ b) : Kb B b15 W (W.setCell ⟨b, 0, none⟩ v') :=
  ⟨keepsFrom_of (one_keeps W b 0 v') (by rintro i rfl; exact .inr ⟨_, _, _, hb⟩), kpA_of (one_keeps W b 0 v') (fun _ _ e => hne e) (by rintro b' c hc rfl; have := (show W.heap[b']? = _ from hb).symm.trans hc; simp at this)⟩
theorem G2.gone {n : Nat} {R : List Rw} {md : List De} {vm : Value} {m : Int} {W : World} (h : G2 w x bm S b6 b7 b8 b9 b14 d stop vl base L sn D1 n R md vm m W) (hb : b6 < b9 ∧ b7 < b9 ∧ b8 < b9 ∧ b9 + 5 ≤ b14) (m' : Int) :
    G2 w x bm S b6 b7 b8 b9 b14 d stop vl base L sn D1 n R md vm m' (W.setCell ⟨b14, 0, none⟩ (.int .i64 m')) := by
  have hbx := h.1.bx (b := b14) (t := 3) (v := .int .i64 m) (by simp [sbs2])
  refine ⟨h.1.set (b := b14) (t := 3) (v := .int .i64 m) (.int .i64 m') (by simp [sbs2]) (by decide) (by decide) ?_, ownsRow_keep h.2.1 (one_keeps _ _ _ _) (fun g hg e => ?_), h.2.2⟩
  · intro q hq
    simp only [sbs2, sbs, List.mem_cons, List.mem_nil_iff, or_false] at hq ⊢
    rcases hq with rfl | rfl | rfl | rfl | rfl | rfl | rfl | rfl | rfl | rfl | rfl | rfl <;> simp <;> omega
  · exact (hbx.not_row (by decide) h.2.1) (by rw [hg, e])
/-- The name is taken out, nothing is put in. -/
theorem G2.drop {n : Nat} {R : List Rw} {md : List De} {vm : Value} {m : Int} {W W' : World} (h : G2 w x bm S b6 b7 b8 b9 b14 d stop vl base L sn D1 n R md vm m W) (k : Keeps (fun c => c = bm) W W') : W'.ownsRow (b14 + 1) 30 2 vm md.length (dcells md) :=
  ownsRow_keep h.2.1 k (fun g hg e => by obtain ⟨cur, ho⟩ := row_obj h.2.1 hg; exact h.1.ix.no_cells (e ▸ ho))
/-- A row of names grows, and no other block turns. -/
theorem ST.row30 {W W' : World} {R : List Rw} {bs : Bxs} {ds : List Nat} {v : Value} {k n : Nat} {xs : List Value} (h : ST w W x bm R bs ds base vl L) (hg : W.grownBy W' v.ownBlock) (hr : W.ownsRow k 30 2 v n xs) (hk : w.heap.size ≤ k) (hbs : ∀ q ∈ bs, q.2.1 ≠ 30) (hl : ∀ g, vl.ownBlock = some g → g < k) : ST w W' x bm R bs ds base vl L := by
  have kk : Keeps (fun c => v.ownBlock = some c) W W' := Keeps.of hg (fun k hk => Or.inl hk)
  refine ⟨h.ix.keep kk (fun e => ?_) (fun e => ?_), fun q hq => ⟨kk.at (h.box q hq).1 (fun e => ?_), (h.box q hq).2⟩, ownsRow_keep h.row kk (fun g hg' e => ?_), h.keep.then kk (fun i e => Or.inr (Nat.le_trans hk (World.ownsRow.lt hr i e).1)), h.few, h.new, fun j hj => kk.at (h.nc j hj) (fun e => ?_)⟩
  · obtain ⟨cur, ho⟩ := row_obj hr e
    have := ho.symm.trans h.ix.cell
    simp at this
  · obtain ⟨cur, ho⟩ := row_obj hr e
    exact h.ix.no_cells ho
  · obtain ⟨cur, ho⟩ := row_obj hr e
    have := ho.symm.trans (show W.heap[q.1]? = _ from (h.box q hq).1)
    simp at this
    exact hbs q hq this.2.symm
  · have h1 := hl g hg'
    have h2 := (World.ownsRow.lt hr g e).1
    omega
  · obtain ⟨cur, ho⟩ := row_obj hr e
    have := ho.symm.trans (h.nc j hj)
    cases this
theorem st_app {W4 w5 : World} {R : List Rw} {md : List De} {vm v' : Value} {m : Int} {tmp : Obj} (h : ST w W4 x bm R (sbs2 x b6 b7 b8 b9 b14 d stop vl sn m vm) [D1] base vl L) (hr : W4.ownsRow (b14 + 1) 30 2 vm md.length (dcells md)) (hlb : ∀ g, vl.ownBlock = some g → g < b9) (hb : b6 < b9 ∧ b7 < b9 ∧ b8 < b9 ∧ b9 + 5 ≤ b14) (hw : w.heap.size ≤ b14)
    (hgrow : (W4.alloc tmp).grownBy w5 vm.ownBlock) : ST w (w5.setCell ⟨b14 + 1, 0, none⟩ v') x bm R (sbs2 x b6 b7 b8 b9 b14 d stop vl sn m v') [D1] base vl L := by
  have h1 := (h.grown ((Keeps.refl _ W4).alloc tmp)).row30 hgrow (World.ownsRow.alloc hr tmp) (by omega) (by
    intro q hq
    simp only [sbs2, sbs, List.mem_cons, List.mem_nil_iff, or_false] at hq
    rcases hq with rfl | rfl | rfl | rfl | rfl | rfl | rfl | rfl | rfl | rfl | rfl | rfl <;> simp) (fun g hg => by have := hlb g hg; omega)
  refine h1.set (b := b14 + 1) (t := 26) (v := vm) v' (by simp [sbs2]) (by decide) (by decide) ?_
  intro q hq
  simp only [sbs2, sbs, List.mem_cons, List.mem_nil_iff, or_false] at hq ⊢
  rcases hq with rfl | rfl | rfl | rfl | rfl | rfl | rfl | rfl | rfl | rfl | rfl | rfl <;> simp <;> omega
end

theorem i2_mk {w : World} {x bm : Nat} {S : List Rw} {b6 b7 b8 b9 b14 : Nat} {d stop : Int} {vl : Value} {base : Nat} {L : List De} {sn : Int} {D1 : Nat} {pre md : List De} {y : De} {R : List Rw} {vm : Value} {s : ByteArray} {q : Int} {W : World} (h1 : ST w W x bm R (sbs2 x b6 b7 b8 b9 b14 d stop vl sn ((pre.length : Int) + 1) vm) [D1] base vl L)
    (h2 : W.ownsRow (b14 + 1) 30 2 vm (md.length + 1) (dcells md ++ [.string s, .int .i64 q])) (h3 : SI S.length L d (pre.length + 1) R (md ++ [(s, q)])) (hp : pre ++ [y] <+: L) : I2 w x bm S b6 b7 b8 b9 b14 d stop vl base L sn D1 (pre ++ [y]) W := by
  have e : (pre ++ [y]).length = pre.length + 1 := by simp
  refine ⟨⟨R, md ++ [(s, q)], vm, ?_, ?_, ?_⟩, hp⟩
  · rw [e]; exact h1
  · rw [dcells_snoc, List.length_append]; exact h2
  · rw [e]; exact h3
theorem results_box4 {fn : Func} {p : Tmp} (h : fn.results = #[.cell p 4]) (tmps : Array Value) (w : World) (g : Nat) (v : Value) (hp : tmps.getD p undef = .pointer (some ⟨g, 0, none⟩)) (hb : Boxed w g 4 v) : (results fn tmps).run Try.prog w = .ok v w := by
  have hp' : tmps[p]?.getD undef = .pointer (some ⟨g, 0, none⟩) := by simpa using hp
  have hc := hb.cell
  simp only [results, h]
  simp [hp', asAddr]
  go_simp

set_option maxHeartbeats 80000000 in
set_option maxRecDepth 100000 in
theorem stops_walk (w : World) (p : Option Addr) (cap : Nat) (l : List OpT) (hp : OpIn w p l) (hn : l.length < 3000000000000) (dir many : Int) :
    Calls Try.prog 8 #[.slice p l.length cap, .int .i64 dir, .int .i64 many] w fun e w' => e = .returned (.bool true) ∧ Keeps (fun _ => False) w w' := by
  have k0 : Keeps (fun _ => False) w (w.alloc (.cells #[.bool false] 4)) := (Keeps.refl _ w).alloc _
  have h10 := st_filled w (w.alloc (.cells #[.bool false] 4)) k0 p cap l (hp.keep k0 (fun _ h => h.elim)) hn [(w.heap.size, 4, .bool false)] (by
    intro q hq
    rw [List.mem_singleton.1 hq]
    exact ⟨Boxed.new w 4 (.bool false), Nat.le_refl _⟩)
  rw [World.size_alloc] at h10
  have ho := fillS_ok l
  have hlen := fillS_len l
  obtain ⟨d, hd⟩ : ∃ d, d = inoF dir := ⟨_, rfl⟩
  have h16 : ∀ W, Calls Try.prog 16 #[.int .i64 dir] W fun e w' => e = .returned (.int .i64 d) ∧ w' = W := fun W => by rw [hd]; exact ino_any dir W
  have hdb : 1 ≤ d ∧ d ≤ 256 := by rw [hd]; exact inoF_bd _
  have hwf : (Lit.int .i64 d).wf = true := wf64 (by omega) (by omega)
  clear hd
  generalize fillS l = S at *
  obtain ⟨L, hL⟩ : ∃ L, lstS S d = L := ⟨_, rfl⟩
  have HL : Hid (lstS S d = L) := hL
  have hLl : L.length < 3000000000000 := by rw [← hL, lst_len]; have := filt_le S (inDir d); omega
  have HO : Hid (Rise S ∧ (∀ r ∈ S, OkR r) ∧ S.length < 3000000000000) := ⟨ho.1, ho.2, by omega⟩
  obtain ⟨stop, hst⟩ : ∃ stop : Int, stop = many % ((L.length : Int) + 2) := ⟨_, rfl⟩
  have hs0 : 0 ≤ stop := by rw [hst]; exact Int.emod_nonneg _ (by omega)
  have hs1 : stop < (L.length : Int) + 2 := by rw [hst]; exact Int.emod_lt_of_pos _ (by omega)
  have h23 : ∀ W, Calls Try.prog 23 #[.int .i64 many, .int .i64 ((L.length : Int) + 2)] W fun e w' => e = .returned (.int .i64 stop) ∧ w' = W := fun W => by rw [hst]; exact place_int many _ W (by omega) (by omega)
  have hw2 : IntKind.i64.wrap ((L.length : Int) + 2) = (L.length : Int) + 2 := i64_id (by omega) (by omega)
  clear ho hlen hp hL hst hn k0
  refine (callsIn_wide (n := 9)).1 ?_
  refine callsIn_of_wp_marks Try.func8 rfl trivial ?_ rfl
  simp only [Try.ntmps8, List.size_toArray, List.length_cons, List.length_nil, Nat.reduceAdd, Nat.reduceSub, Array.replicate_succ, Array.replicate_zero, List.push_toArray, List.append_toArray, List.nil_append, List.cons_append]
  refine wpIn_wide.2 ?_
  go_wp2_with (first
    | (go_at_call 22; refine (all_any _ _ _).mono ?_; rintro e w9 ⟨rfl, hw9⟩)
    | (go_at_call 23; refine (h23 _).mono ?_; rintro e w0 ⟨rfl, hw0⟩; subst w0; clear h23)
    | (go_at_call 20; refine (st_copy H4 D4 (by omega)).mono ?_; rintro e w5 ⟨pk, ck, rfl, H5⟩; clear H4 D4 cx; have H6 := Hid.mk' (((H5.out.newb 26 (.slice pk L.length ck)).newb 3 (.int .i64 stop)).newb 3 (.int .i64 0)); have cx := (H6.out.bx (b := w1.heap.size) (t := 24) (v := .pointer (some ⟨w.heap.size + 1 + 1, 0, none⟩)) (by simp)).cell; have cd := (H6.out.bx (b := w2.heap.size) (t := 3) (v := .int .i64 d) (by simp)).cell; simp only [World.size_alloc] at H6; have hbs : w1.heap.size < w5.heap.size ∧ w2.heap.size < w5.heap.size ∧ w.heap.size + 1 < w5.heap.size := ⟨(H5.out.bx (b := w1.heap.size) (t := 24) (v := .pointer (some ⟨w.heap.size + 1 + 1, 0, none⟩)) (by simp)).lt, (H5.out.bx (b := w2.heap.size) (t := 3) (v := .int .i64 d) (by simp)).lt, H5.out.ix.lt⟩; have HLB : Hid (∀ g, (Value.slice pk L.length ck).ownBlock = some g → g < w5.heap.size) := Hid.mk' (fun g hg => (World.ownsRow.lt H5.out.row g hg).2); clear H5)
    | (go_at_call 11; refine (st_list (Hid.mk' (H2.out.newb 3 (.int .i64 d))) d L HL.out).mono ?_; rintro e w4 ⟨p4, c4, rfl, H4, D4⟩; clear H2)
    | (go_at_call 16; refine (h16 _).mono ?_; rintro e w0 ⟨rfl, hw0⟩; subst w0; clear h16)
    | (go_at_call 9; refine (st_first (Hid.mk' (H1.out.newb 24 (.pointer (some ⟨w.heap.size + 1 + 1, 0, none⟩))))).mono ?_; rintro e w2 ⟨rfl, H2⟩; clear H1; have cx := ((H2.out.newb 3 (.int .i64 d)).bx (b := w1.heap.size) (t := 24) (v := .pointer (some ⟨w.heap.size + 1 + 1, 0, none⟩)) (by simp)).cell)
    | (go_at_call 10; refine h10.mono ?_; rintro e w1 ⟨rfl, H1⟩; clear h10))
  obtain ⟨b7, hb7⟩ : ∃ b, w1.heap.size = b := ⟨_, rfl⟩
  obtain ⟨b8, hb8⟩ : ∃ b, w2.heap.size = b := ⟨_, rfl⟩
  obtain ⟨b9, hb9⟩ : ∃ b, w5.heap.size = b := ⟨_, rfl⟩
  have H9 : Hid (ST w w9 (w.heap.size + 1 + 1) (w.heap.size + 1) S (sbs (w.heap.size + 1 + 1) w.heap.size b7 b8 b9 d stop (.slice pk L.length ck) 0) [] w4.heap.size (.slice pk L.length ck) L) := Hid.mk' (by
    have h := (H6.out.newb 24 (.pointer (some ⟨w.heap.size + 1 + 1, 0, none⟩))).newb 3 (.int .i64 d)
    rw [← hw9] at h
    simp only [World.size_alloc, hb7, hb8, hb9] at h
    exact h)
  have hsz9 : w9.heap.size = b9 + 5 := by rw [hw9]; simp only [World.size_alloc, hb9]
  rw [hb7, hb8, hb9] at hbs
  rw [hb9] at HLB
  rw [← hw9]
  simp only [hb7, hb8, hb9]
  clear hw9 H6 cx cd hb7 hb8 hb9
  have cX := (H9.out.bx (b := b9 + 3) (t := 24) (v := .pointer (some ⟨w.heap.size + 1 + 1, 0, none⟩)) (by simp [sbs])).cell
  have cD := (H9.out.bx (b := b9 + 4) (t := 3) (v := .int .i64 d) (by simp [sbs])).cell
  have hseq := all_stopsR 8 (b9 + 3) (b9 + 4) (w.heap.size + 1 + 1) (w.heap.size + 1) d S (by have := HO.out.2.2; omega) w9 cX cD H9.out.ix
  rw [HL.out] at hseq
  have HB6 : Hid (w.heap.size < b9 ∧ b7 < b9 ∧ b8 < b9) := Hid.mk' (by omega)
  refine wpIn_wide.1 (rangeFunc_m (n := 9) rfl (by decide) (gf := 31) (lb := #[.pointer (some ⟨b9 + 3, 0, none⟩), .pointer (some ⟨b9 + 4, 0, none⟩)]) rfl trivial (enters_of Try.func31 (by kernel_rfl) rfl)
    hseq (fun h k => h.trans k) (kpR_b w9) (Below.refl _ _) (fun _ => rfl)
    (I1 w (w.heap.size + 1 + 1) (w.heap.size + 1) S w.heap.size b7 b8 b9 d stop (.slice pk L.length ck) w4.heap.size L) (fun c pre W => X1 w (w.heap.size + 1 + 1) (w.heap.size + 1) S w.heap.size b7 b8 b9 d stop (.slice pk L.length ck) w4.heap.size L c pre W ∧ pre ≠ [] ∧ (stop = 0 → pre = [] ∨ c = .ret))
    (I1.own (by omega) (by omega)) (fun c => OwnFrom.and (X1.own (by omega) (by omega) c) (fun _ _ _ _ h _ _ => h)) ⟨H9.out, List.nil_prefix, fun h => by simp; omega⟩
    (fun x' t => (((t.setIfInBounds 45 (.string x'.1)).setIfInBounds 46 (.int .i64 x'.2)).setIfInBounds 12 (.string x'.1)).setIfInBounds 13 (.int .i64 x'.2))
    (M1 w (w.heap.size + 1 + 1) (w.heap.size + 1) S w.heap.size b7 b8 b9 d stop (.slice pk L.length ck) w4.heap.size L) 0
    (fun xs W hS hi => by subst hS; exact m1_done hi) (fun c pre W hS ⟨hx, hne, h0⟩ => m1_stop hS (fun hs => (h0 hs).elim id (fun hc => by subst hc; rcases hx with ⟨_, h⟩ | ⟨h, _⟩; exact absurd hS h; cases h)) hx hne) ?hQ ?assign ?body ?rest)
  case hQ => intro a W h; simpa only [Exit.inBlock, if_true] using h
  case assign =>
    intro r x' W K hK
    simp only [encs]
    gi_wp2
    simpa using hK
  case body =>
    rintro r pre x' W ⟨hS, hpre, hgo⟩ hl
    simp only [List.setIfInBounds_toArray, List.set_cons_zero, List.set_cons_succ]
    have cn := (hS.bx (b := b9 + 2) (t := 3) (v := .int .i64 pre.length) (by simp [sbs])).cell
    have fn := (hS.bx (b := b9 + 2) (t := 3) (v := .int .i64 pre.length) (by simp [sbs])).frozen
    have cl := (hS.bx (b := b9) (t := 26) (v := .slice pk L.length ck) (by simp [sbs])).cell
    have c6 := (hS.bx (b := w.heap.size) (t := 4) (v := .bool false) (by simp [sbs])).cell
    have f6 := (hS.bx (b := w.heap.size) (t := 4) (v := .bool false) (by simp [sbs])).frozen
    obtain ⟨g, o, cap', e, _, hcell⟩ := hS.row.dsl.pos (by omega)
    cases e
    obtain ⟨q0, q1⟩ := hcell pre.length hl
    have hget : L[pre.length]? = some (L.getD pre.length dz) := by rw [getD_lt hl, List.getElem?_eq_getElem hl]
    have hlt : (pre.length : Int) < (L.length : Int) := by omega
    have hlt2 : ¬ (L.length : Int) ≤ (pre.length : Int) := by omega
    have hp0 : (0 : Int) ≤ (pre.length : Int) := by omega
    generalize L.getD pre.length dz = y at *
    have HMIS : Hid (y ≠ x' → ¬ pre ++ [x'] <+: L) := Hid.mk' (fun hne hp => by
      have := prefix_snoc_get hp
      rw [hget] at this
      exact hne (Option.some.inj this))
    have HS := Hid.mk' hS
    have HPR := Hid.mk' hpre
    have HGO := Hid.mk' hgo
    have HGET := Hid.mk' hget
    have h0m : stop = 0 → pre ++ [x'] = [] ∨ Code.ret = Code.ret := fun _ => .inr rfl
    clear hcell hget hS hpre hgo
    by_cases hxy : y.1 = x'.1
    · have hb1 : (y.1.toList == x'.1.toList) = true := by rw [beq_toList]; exact decide_eq_true hxy
      by_cases hvv : y.2 = x'.2
      · have hb2 : (y.2 == x'.2) = true := by simpa using hvv
        have hb3 : (y.2 != x'.2) = false := by simpa using hvv
        obtain rfl : y = x' := Prod.ext hxy hvv
        have hSn := HS.out.seen HB6.out ((pre.length : Int) + 1)
        have hkn := one_keeps W (b9 + 2) 0 (.int .i64 ((pre.length : Int) + 1))
        have hbx := HS.out.bx (b := b9 + 2) (t := 3) (v := .int .i64 pre.length) (by simp [sbs])
        have HKF : Hid (KeepsFrom (b9 + 5) W (W.setCell ⟨b9 + 2, 0, none⟩ (.int .i64 ((pre.length : Int) + 1)))) := Hid.mk' (keepsFrom_of hkn (by rintro i rfl; exact .inr ⟨_, _, _, hbx⟩))
        have HKR : Hid (KpR W (W.setCell ⟨b9 + 2, 0, none⟩ (.int .i64 ((pre.length : Int) + 1)))) := Hid.mk' (KpR.of hkn (by rintro b c hb rfl; have := (show W.heap[b9 + 2]? = _ from hbx).symm.trans hb; simp at this))
        generalize hWn : W.setCell ⟨b9 + 2, 0, none⟩ (.int .i64 ((pre.length : Int) + 1)) = Wn at *
        have n2 := (hSn.bx (b := b9 + 2) (t := 3) (v := .int .i64 ((pre.length : Int) + 1)) (by simp [sbs])).cell
        have n1 := (hSn.bx (b := b9 + 1) (t := 3) (v := .int .i64 stop) (by simp [sbs])).cell
        have HSN := Hid.mk' hSn
        clear hSn hkn hbx hxy hvv
        by_cases hend : (pre.length : Int) + 1 = stop
        · have hend' : ((pre.length : Int) + 1 == stop) = true := by simpa using hend
          have HEND := Hid.mk' hend
          clear hend h0m
          gi_wp2
          refine ⟨HKF.out, .inr ⟨rfl, ?_, prefix_get_snoc HPR.out HGET.out, ?_⟩, by simp, fun h => ?_⟩
          · rw [List.length_append]; simpa using HSN.out
          · rw [List.length_append]; have := HEND.out; simpa using this
          · have := HEND.out; omega
        · have hend' : ((pre.length : Int) + 1 == stop) = false := by simpa using hend
          have HEND := Hid.mk' hend
          clear hend h0m
          gi_wp2
          refine ⟨HKF.out, HKR.out, ?_, prefix_get_snoc HPR.out HGET.out, fun h => ?_⟩
          · rw [List.length_append]; simpa using HSN.out
          · rw [List.length_append]; have h1 := HEND.out; have h2 := HGO.out h; simp; omega
      · have hb2 : (y.2 == x'.2) = false := by simpa using hvv
        have hb3 : (y.2 != x'.2) = true := by simpa using hvv
        have HNE : Hid (¬ pre ++ [x'] <+: L) := Hid.mk' (HMIS.out (fun e => hvv (by rw [e])))
        clear hxy hvv h0m
        gi_wp2
        exact ⟨keepsFrom_of (one_keeps _ _ _ _) (by rintro i rfl; exact .inr ⟨_, _, _, HS.out.bx (b := w.heap.size) (t := 4) (v := .bool false) (by simp [sbs])⟩), .inl ⟨rfl, HNE.out⟩, by simp, fun _ => .inr rfl⟩
    · have hb1 : (y.1.toList == x'.1.toList) = false := by rw [beq_toList]; exact decide_eq_false hxy
      have HNE : Hid (¬ pre ++ [x'] <+: L) := Hid.mk' (HMIS.out (fun e => hxy (by rw [e])))
      clear hxy h0m
      gi_wp2
      exact ⟨keepsFrom_of (one_keeps _ _ _ _) (by rintro i rfl; exact .inr ⟨_, _, _, HS.out.bx (b := w.heap.size) (t := 4) (v := .bool false) (by simp [sbs])⟩), .inl ⟨rfl, HNE.out⟩, by simp, fun _ => .inr rfl⟩
  case rest =>
    rintro D1 W hD1 hK1 ⟨sn, hS1, hsn, hsa, hsb⟩
    have HD1 : Hid (b9 + 5 ≤ D1 ∧ D1 < W.heap.size) := Hid.mk' ⟨by omega, heap_lt hK1⟩
    have H1 := Hid.mk' (hS1.addD hK1)
    clear hD1 hK1 hS1 H9 cX cD hseq hsz9
    have cn := (H1.out.bx (b := b9 + 2) (t := 3) (v := .int .i64 sn) (by simp [sbs])).cell
    have cs := (H1.out.bx (b := b9 + 1) (t := 3) (v := .int .i64 stop) (by simp [sbs])).cell
    have cl := (H1.out.bx (b := b9) (t := 26) (v := .slice pk L.length ck) (by simp [sbs])).cell
    have cd := (H1.out.bx (b := b8) (t := 3) (v := .int .i64 d) (by simp [sbs])).cell
    have cx := (H1.out.bx (b := b7) (t := 24) (v := .pointer (some ⟨w.heap.size + 1 + 1, 0, none⟩)) (by simp [sbs])).cell
    have hL0 : (0 : Int) ≤ (L.length : Int) := by omega
    have hcl : ∀ ww : World, Hid (ST w ww (w.heap.size + 1 + 1) (w.heap.size + 1) S (sbs (w.heap.size + 1 + 1) w.heap.size b7 b8 b9 d stop (.slice pk L.length ck) sn) [D1] w4.heap.size (.slice pk L.length ck) L) →
        ww.cell? ⟨b7, 0, none⟩ = some (.pointer (some ⟨w.heap.size + 1 + 1, 0, none⟩)) ∧ ww.cell? ⟨b8, 0, none⟩ = some (.int .i64 d) ∧ ww.cell? ⟨b9, 0, none⟩ = some (.slice pk L.length ck) := fun ww h =>
      ⟨(h.out.bx (b := b7) (t := 24) (v := .pointer (some ⟨w.heap.size + 1 + 1, 0, none⟩)) (by simp [sbs])).cell, (h.out.bx (b := b8) (t := 3) (v := .int .i64 d) (by simp [sbs])).cell, (h.out.bx (b := b9) (t := 26) (v := .slice pk L.length ck) (by simp [sbs])).cell⟩
    have HCL := Hid.mk' hcl
    clear hcl
    have h11 : ∀ nn, Calls Try.prog 11 #[.pointer (some ⟨w.heap.size + 1 + 1, 0, none⟩), .int .i64 d] (W.drewN nn) fun e w' => ∃ p c, e = .returned (.slice p L.length c) ∧ Hid (ST w w' (w.heap.size + 1 + 1) (w.heap.size + 1) S (sbs (w.heap.size + 1 + 1) w.heap.size b7 b8 b9 d stop (.slice pk L.length ck) sn) [D1] w4.heap.size (.slice pk L.length ck) L) ∧ Hid (DSl w' (.slice p L.length c) L) ∧
        w'.cell? ⟨b7, 0, none⟩ = some (.pointer (some ⟨w.heap.size + 1 + 1, 0, none⟩)) ∧ w'.cell? ⟨b8, 0, none⟩ = some (.int .i64 d) ∧ w'.cell? ⟨b9, 0, none⟩ = some (.slice pk L.length ck) := by
      intro nn
      refine (st_list (Hid.mk' (H1.out.drewN nn)) d L HL.out).mono ?_
      rintro e w' ⟨p', c', rfl, h', d'⟩
      exact ⟨p', c', rfl, h', d', HCL.out w' h'⟩
    have H11 := Hid.mk' h11
    clear h11
    simp only [Exit.inBlock, Exit.then]
    by_cases hs : stop = 0
    · have hsn' := hsb hs
      by_cases hz : L.length = 0
      · have hc1 : ((sn : Int) != 0) = false := by simp; omega
        have hc2 : ((sn : Int) != (L.length : Int)) = false := by simp; omega
        have hst1 : (stop == 0) = true := by simpa using hs
        have hst2 : (stop != 0) = false := by simpa using hs
        have hmm1 : max stop 0 = 0 := by omega
        have hmm2 : min 0 (L.length : Int) = 0 := by omega
        clear hsa hsb hs hz hsn'
        go_wp2
        go_region_held3 (fun wx => wx.cell? ⟨b7, 0, none⟩ = some (.pointer (some ⟨w.heap.size + 1 + 1, 0, none⟩)) ∧ wx.cell? ⟨b8, 0, none⟩ = some (.int .i64 d) ∧ wx.cell? ⟨b9, 0, none⟩ = some (.slice pk L.length ck))
          (first | go_keep)
          (first
            | (go_at_call 19; refine (st_same H12 D12 (by omega) true (by simp)).mono ?_; clear H12 D12; rintro e w13 ⟨rfl, H13⟩; have x13 := HCL.out w13 H13; obtain ⟨y1, y2, y3⟩ := x13)
            | (go_at_call 11; refine (H11.out _).mono ?_; rintro e w12 ⟨p12, c12, rfl, H12, D12, x1, x2, x3⟩))
        all_goals
          have H14 := Hid.mk' ((H13.out.newb 3 (.int .i64 0)).newb 26 (.slice none 0 0))
          have y4 := (H14.out.bx (b := b7) (t := 24) (v := .pointer (some ⟨w.heap.size + 1 + 1, 0, none⟩)) (by simp [sbs])).cell
          have y5 := (H14.out.bx (b := b8) (t := 3) (v := .int .i64 d) (by simp [sbs])).cell
          have h14b : b9 + 5 ≤ w13.heap.size := by have := (H13.out.bx (b := b9 + 4) (t := 3) (v := .int .i64 d) (by simp [sbs])).lt; omega
          go_wp2_with (first
            | (go_at_call 22; refine (all_any _ _ _).mono ?_; rintro e w15 ⟨rfl, hw15⟩))
          obtain ⟨b14, hb14⟩ : ∃ b, w13.heap.size = b := ⟨_, rfl⟩
          have H15 : Hid (G2 w (w.heap.size + 1 + 1) (w.heap.size + 1) S w.heap.size b7 b8 b9 b14 d stop (.slice pk L.length ck) w4.heap.size L sn D1 0 S [] (.slice none 0 0) 0 w15) := Hid.mk' (by
            have h := (H14.out.newb 24 (.pointer (some ⟨w.heap.size + 1 + 1, 0, none⟩))).newb 3 (.int .i64 d)
            rw [← hw15] at h
            simp only [World.size_alloc, hb14] at h
            refine ⟨h, ⟨rfl, Or.inl ⟨rfl, rfl⟩⟩, ?_⟩
            have := si_start HO.out.1 HO.out.2.1 d
            rw [HL.out] at this
            exact this)
          have hsz15 : w15.heap.size = b14 + 4 := by rw [hw15]; simp only [World.size_alloc, hb14]
          have hD14 : D1 < b14 := by
            have := heap_lt (H13.out.nc D1 (by simp))
            omega
          rw [hb14] at h14b
          rw [← hw15]
          simp only [hb14]
          clear hw15 H14 H13 y1 y2 y3 y4 y5 hb14 H11 HCL
          try clear x1 x2 x3
          have cX := (H15.out.1.bx (b := b14 + 2) (t := 24) (v := .pointer (some ⟨w.heap.size + 1 + 1, 0, none⟩)) (by simp [sbs2])).cell
          have cD := (H15.out.1.bx (b := b14 + 3) (t := 3) (v := .int .i64 d) (by simp [sbs2])).cell
          have bM := H15.out.1.bx (b := b14 + 1) (t := 26) (v := .slice none 0 0) (by simp [sbs2])
          have hseq := all_stops 8 (b14 + 2) (b14 + 3) (b14 + 1) (w.heap.size + 1 + 1) (w.heap.size + 1) d S (by have := HO.out.2.2; omega) w15 cX cD H15.out.1.ix bM
          rw [HL.out] at hseq
          have HB14 : Hid (w.heap.size < b9 ∧ b7 < b9 ∧ b8 < b9 ∧ b9 + 5 ≤ b14) := Hid.mk' (by have := HB6.out; omega)
          have HLA : Hid (L.Pairwise (fun a b => a.1 ≠ b.1)) := Hid.mk' (by rw [← HL.out]; exact lst_apart HO.out.1 d)
          obtain ⟨i0, hi, hz0, hz1, hz2⟩ := info_parts info30
          refine wpIn_wide.1 (rangeFunc_m (n := 9) rfl (by decide) (gf := 31) (lb := #[.pointer (some ⟨b14 + 2, 0, none⟩), .pointer (some ⟨b14 + 3, 0, none⟩)]) rfl trivial (enters_of Try.func31 (by kernel_rfl) rfl)
            hseq (fun h k => h.trans k) (kpA_b _ w15) (Below.refl _ _) (fun _ => rfl)
            (I2 w (w.heap.size + 1 + 1) (w.heap.size + 1) S w.heap.size b7 b8 b9 b14 d stop (.slice pk L.length ck) w4.heap.size L sn D1) (fun c pre _ => c = .ret ∧ ¬ pre <+: L) (I2.own (by have := HB14.out; omega) (by have := HB14.out; omega) (by omega)) (fun _ _ _ _ _ h _ _ => h) ⟨⟨S, [], _, H15.out⟩, List.nil_prefix⟩
            (fun x' t => (((t.setIfInBounds 102 (.string x'.1)).setIfInBounds 103 (.int .i64 x'.2)).setIfInBounds 16 (.string x'.1)).setIfInBounds 17 (.int .i64 x'.2))
            (M2 w (w.heap.size + 1 + 1) (w.heap.size + 1) S w.heap.size b7 b8 b9 b14 d stop (.slice pk L.length ck) w4.heap.size L sn D1) 2
            (fun xs W hS hi => by subst hS; exact hi.1) (fun c pre W hS hx => absurd hS hx.2) ?hQ2 ?assign2 ?body2 ?rest2)
          case hQ2 => intro a W h; simpa only [Exit.inBlock, if_true] using h
          case assign2 =>
            intro r x' W K hK
            simp only [encs]
            gi_wp2
            simpa using hK
          case body2 =>
            rintro r pre x' W2 ⟨⟨R, md, vm, hG⟩, hpre⟩ hl
            simp only [List.setIfInBounds_toArray, List.set_cons_zero, List.set_cons_succ]
            have cn := (hG.1.bx (b := b14) (t := 3) (v := .int .i64 pre.length) (by simp [sbs2])).cell
            have fn := (hG.1.bx (b := b14) (t := 3) (v := .int .i64 pre.length) (by simp [sbs2])).frozen
            have cl := (hG.1.bx (b := b9) (t := 26) (v := .slice pk L.length ck) (by simp [sbs2, sbs])).cell
            have c6 := (hG.1.bx (b := w.heap.size) (t := 4) (v := .bool false) (by simp [sbs2, sbs])).cell
            have f6 := (hG.1.bx (b := w.heap.size) (t := 4) (v := .bool false) (by simp [sbs2, sbs])).frozen
            obtain ⟨g, o, cap', e, _, hcell⟩ := hG.1.row.dsl.pos (by omega)
            cases e
            obtain ⟨q0, q1⟩ := hcell pre.length hl
            have hget : L[pre.length]? = some (L.getD pre.length dz) := by rw [getD_lt hl, List.getElem?_eq_getElem hl]
            have hlt : (pre.length : Int) < (L.length : Int) := by omega
            have hlt2 : ¬ (L.length : Int) ≤ (pre.length : Int) := by omega
            have hp0 : (0 : Int) ≤ (pre.length : Int) := by omega
            obtain ⟨y, hy⟩ : ∃ y, L.getD pre.length dz = y := ⟨_, rfl⟩
            rw [hy] at q0 q1 hget
            have HY := Hid.mk' hy
            have HMIS : Hid (y ≠ x' → ¬ pre ++ [x'] <+: L) := Hid.mk' (fun hne hp => by
              have := prefix_snoc_get hp
              rw [hget] at this
              exact hne (Option.some.inj this))
            have HG := Hid.mk' hG
            have HPR := Hid.mk' hpre
            have HGET := Hid.mk' hget
            clear hcell hget hG hpre hy
            by_cases hxy : y.1 = x'.1
            · have hb1 : (y.1.toList == x'.1.toList) = true := by rw [beq_toList]; exact decide_eq_true hxy
              by_cases hvv : y.2 = x'.2
              · have hb2 : (y.2 == x'.2) = true := by simpa using hvv
                have hb3 : (y.2 != x'.2) = false := by simpa using hvv
                obtain rfl : y = x' := Prod.ext hxy hvv
                have hstp := si_step HG.out.2.2 hdb HLA.out hl HY.out
                have hG1 := HG.out.gone HB14.out ((pre.length : Int) + 1)
                have hkb1 : Kb (b14 + 4) (b14 + 1) W2 (W2.setCell ⟨b14, 0, none⟩ (.int .i64 ((pre.length : Int) + 1))) := kb_box (HG.out.1.bx (b := b14) (t := 3) (v := .int .i64 pre.length) (by simp [sbs2])) (by omega)
                generalize hWn : W2.setCell ⟨b14, 0, none⟩ (.int .i64 ((pre.length : Int) + 1)) = Wn at *
                have hcl : ∀ (R' : List Rw) (ww : World), (ST w ww (w.heap.size + 1 + 1) (w.heap.size + 1) R' (sbs2 (w.heap.size + 1 + 1) w.heap.size b7 b8 b9 b14 d stop (.slice (some ⟨g, o, none⟩) L.length ck) sn ((pre.length : Int) + 1) vm) [D1] w4.heap.size (.slice (some ⟨g, o, none⟩) L.length ck) L) → ww.cell? ⟨b7, 0, none⟩ = some (.pointer (some ⟨w.heap.size + 1 + 1, 0, none⟩)) ∧ ww.cell? ⟨b8, 0, none⟩ = some (.int .i64 d) ∧ ww.cell? ⟨b14 + 1, 0, none⟩ = some vm := fun R' ww h =>
                  ⟨(h.bx (b := b7) (t := 24) (v := .pointer (some ⟨w.heap.size + 1 + 1, 0, none⟩)) (by simp [sbs2, sbs])).cell, (h.bx (b := b8) (t := 3) (v := .int .i64 d) (by simp [sbs2, sbs])).cell, (h.bx (b := b14 + 1) (t := 26) (v := vm) (by simp [sbs2])).cell⟩
                obtain ⟨n7, n8, n15⟩ := hcl R Wn hG1.1
                obtain ⟨t1, t2, t3, t4⟩ := hstp
                obtain ⟨R1, hR1⟩ : ∃ R1, delS R d y.1 = R1 := ⟨_, rfl⟩
                rw [hR1] at t3 t4
                have hbm4 : w.heap.size + 1 < b14 + 4 := by have := HB14.out; omega
                have h21 : ∀ m, CallsIn (Fence.wide.inRound r) m Try.prog 21 #[.pointer (some ⟨w.heap.size + 1 + 1, 0, none⟩), .int .i64 d, .string y.1] Wn fun e w' => e = .returned (.tuple #[.int .i64 y.2, .int .i64 0]) ∧ Hid ((ST w w' (w.heap.size + 1 + 1) (w.heap.size + 1) R1 (sbs2 (w.heap.size + 1 + 1) w.heap.size b7 b8 b9 b14 d stop (.slice (some ⟨g, o, none⟩) L.length ck) sn ((pre.length : Int) + 1) vm) [D1] w4.heap.size (.slice (some ⟨g, o, none⟩) L.length ck) L) ∧ World.ownsRow w' (b14 + 1) 30 2 vm md.length (dcells md) ∧ Kb (b14 + 4) (b14 + 1) W2 w') ∧ w'.cell? ⟨b7, 0, none⟩ = some (.pointer (some ⟨w.heap.size + 1 + 1, 0, none⟩)) ∧ w'.cell? ⟨b8, 0, none⟩ = some (.int .i64 d) := fun m => CallsIn.inRound r (callsIn_wide.2 ((st_drop (Hid.mk' hG1.1) d hwf y.1 y.2 0 R1 t1 t2 hR1).mono (by
                  rintro e w' ⟨rfl, H⟩
                  have hc := hcl R1 w' H.out.1
                  exact ⟨rfl, ⟨H.out.1, hG1.drop H.out.2, hkb1.trans (kb_map hG1.1.ix hbm4 H.out.2)⟩, hc.1, hc.2.1⟩)))
                have h13 : ∀ w3, Hid ((ST w w3 (w.heap.size + 1 + 1) (w.heap.size + 1) R1 (sbs2 (w.heap.size + 1 + 1) w.heap.size b7 b8 b9 b14 d stop (.slice (some ⟨g, o, none⟩) L.length ck) sn ((pre.length : Int) + 1) vm) [D1] w4.heap.size (.slice (some ⟨g, o, none⟩) L.length ck) L) ∧ World.ownsRow w3 (b14 + 1) 30 2 vm md.length (dcells md) ∧ Kb (b14 + 4) (b14 + 1) W2 w3) → ∀ m, CallsIn (Fence.wide.inRound r) m Try.prog 13 #[.pointer (some ⟨w.heap.size + 1 + 1, 0, none⟩), .int .i64 d, .string y.1] w3 fun e w' => e = .returned (.int .i64 0) ∧ Hid ((ST w w' (w.heap.size + 1 + 1) (w.heap.size + 1) R1 (sbs2 (w.heap.size + 1 + 1) w.heap.size b7 b8 b9 b14 d stop (.slice (some ⟨g, o, none⟩) L.length ck) sn ((pre.length : Int) + 1) vm) [D1] w4.heap.size (.slice (some ⟨g, o, none⟩) L.length ck) L) ∧ World.ownsRow w' (b14 + 1) 30 2 vm md.length (dcells md) ∧ Kb (b14 + 4) (b14 + 1) W2 w') ∧ w'.cell? ⟨b7, 0, none⟩ = some (.pointer (some ⟨w.heap.size + 1 + 1, 0, none⟩)) ∧ w'.cell? ⟨b8, 0, none⟩ = some (.int .i64 d) := fun w3 h3 m => CallsIn.inRound r (callsIn_wide.2 ((st_get (Hid.mk' h3.out.1) d hwf y.1 0 t3).mono (by
                  rintro e w' ⟨rfl, H⟩
                  have hc := hcl R1 w' H.out.1
                  exact ⟨rfl, ⟨H.out.1, ownsRow_keep h3.out.2.1 H.out.2 (fun _ _ h => h), h3.out.2.2.trans (kb_false H.out.2)⟩, hc.1, hc.2.1⟩)))
                have h18 : ∀ w3, Hid ((ST w w3 (w.heap.size + 1 + 1) (w.heap.size + 1) R1 (sbs2 (w.heap.size + 1 + 1) w.heap.size b7 b8 b9 b14 d stop (.slice (some ⟨g, o, none⟩) L.length ck) sn ((pre.length : Int) + 1) vm) [D1] w4.heap.size (.slice (some ⟨g, o, none⟩) L.length ck) L) ∧ World.ownsRow w3 (b14 + 1) 30 2 vm md.length (dcells md) ∧ Kb (b14 + 4) (b14 + 1) W2 w3) → ∀ m s, CallsIn (Fence.wide.inRound r) m Try.prog 18 #[.pointer (some ⟨w.heap.size + 1 + 1, 0, none⟩), .int .i64 d, .string s, .int .i64 y.2] w3 fun e w' =>
                    (e = .returned (.int .i64 0) ∧ Hid (∃ R2, ((ST w w' (w.heap.size + 1 + 1) (w.heap.size + 1) R2 (sbs2 (w.heap.size + 1 + 1) w.heap.size b7 b8 b9 b14 d stop (.slice (some ⟨g, o, none⟩) L.length ck) sn ((pre.length : Int) + 1) vm) [D1] w4.heap.size (.slice (some ⟨g, o, none⟩) L.length ck) L) ∧ World.ownsRow w' (b14 + 1) 30 2 vm md.length (dcells md) ∧ Kb (b14 + 4) (b14 + 1) W2 w') ∧ SI S.length L d (pre.length + 1) R2 (md ++ [(s, y.2)])) ∧ w'.cell? ⟨b14 + 1, 0, none⟩ = some vm) ∨ (∃ E : Int, e = .returned (.int .i64 E) ∧ (E == 0) = false ∧ Hid (∃ R2, ((ST w w' (w.heap.size + 1 + 1) (w.heap.size + 1) R2 (sbs2 (w.heap.size + 1 + 1) w.heap.size b7 b8 b9 b14 d stop (.slice (some ⟨g, o, none⟩) L.length ck) sn ((pre.length : Int) + 1) vm) [D1] w4.heap.size (.slice (some ⟨g, o, none⟩) L.length ck) L) ∧ World.ownsRow w' (b14 + 1) 30 2 vm md.length (dcells md) ∧ Kb (b14 + 4) (b14 + 1) W2 w') ∧ SI S.length L d (pre.length + 1) R2 md)) := fun w3 h3 m s => CallsIn.inRound r (callsIn_wide.2 ((st_put (Hid.mk' h3.out.1) d s y.2 _ _ rfl rfl (by
                      rcases Classical.em (putE R1 d s y.2 = 0) with he | he
                      · have := ((t4 s).1 he).few; have := HO.out.2.2; omega
                      · have := ((t4 s).2 he).few; have := HO.out.2.2; omega)).mono (by
                  rintro e w' ⟨rfl, H⟩
                  have hrow : w'.ownsRow (b14 + 1) 30 2 vm md.length (dcells md) := ownsRow_keep h3.out.2.1 H.out.2 (fun g hg e => by obtain ⟨cur, ho⟩ := row_obj h3.out.2.1 hg; exact h3.out.1.ix.no_cells (e ▸ ho))
                  have hkb := h3.out.2.2.trans (kb_map h3.out.1.ix hbm4 H.out.2)
                  rcases Classical.em (putE R1 d s y.2 = 0) with he | he
                  · exact Or.inl ⟨by rw [he], ⟨_, ⟨H.out.1, hrow, hkb⟩, (t4 s).1 he⟩, (hcl _ w' H.out.1).2.2⟩
                  · exact Or.inr ⟨_, rfl, by simpa using he, ⟨_, ⟨H.out.1, hrow, hkb⟩, (t4 s).2 he⟩⟩)))
                have H21 := Hid.mk' h21
                have H13x := Hid.mk' h13
                have H18 := Hid.mk' h18
                have hmd : md.length < 3000000000000 := by have := HG.out.2.2.mlen; omega
                have HPX : Hid (pre ++ [y] <+: L) := Hid.mk' (prefix_get_snoc HPR.out HGET.out)
                clear h21 h13 h18 hG1 hkb1 hcl t1 t2 t3 t4 hxy hvv n15
                gi_wp2_with (first
                  | (gi_at_builtin; obtain ⟨R2, ⟨hS4, hr4, hk4⟩, hSI4⟩ := H4.out; have hv4 := hS4.bx (b := b14 + 1) (t := 26) (v := vm) (by simp [sbs2]); have hlt4 := hv4.lt; refine wpListIn_append_own_at _ rfl _ _ 26 rfl (b14 + 1) 30 i0 (.agg #[.string ⟨#[]⟩, .int .i64 0]) 2 24 Try.underlying26 hi hz0 hz1 hz2 rfl (by decide) _ md.length (dcells md) rfl (World.ownsRow.alloc hr4 _) ⟨w4x.heap.size, 0, none⟩ 1 1 [.string _, .int .i64 y.2] rfl rfl (World.news_of_block (heap_alloc_last w4x _)) (by simp [Value.oneCell']) (by unfold maxLen; omega) (by omega) (by rw [World.size_alloc]; omega) ?_; intro v' w5x hown' hgrow _ hloc; obtain ⟨g', cap', rfl⟩ := ownsRow_succ hown'; obtain ⟨hv1, hv2, hr2, hk2, _⟩ := hv4.appended (by decide) hr4 (by omega) (Nat.le_refl _) hown' hgrow; have HFIN := Hid.mk' (And.intro (And.intro (st_app (v' := .slice (some ⟨g', 0, none⟩) (md.length + 1) cap') hS4 hr4 HLB.out HB14.out (by have := HB14.out; omega) hgrow) (And.intro hr2 hSI4)) (hk4.trans (show Kb (b14 + 4) (b14 + 1) w4x _ from ⟨hk2.from _, kpA_append (v' := .slice (some ⟨g', 0, none⟩) (md.length + 1) cap') hv4 ((Keeps.refl _ w4x).alloc _) hgrow hv2 (hloc.imp id (fun e g hg => by rw [hg] at e; cases e; simp))⟩))); have hc1 := hv1.cell; have hf1 := hv1.frozen; clear hS4 hr4 hk4 hSI4 hv4 hlt4 hown' hgrow hloc hv1 hv2 hr2 hk2 H4)
                  | (refine ⟨trivial, ?_⟩; (try refine ⟨fun h => (by cases h), ?_⟩); gi_at_call 18; refine (H18.out _ H3 _ _).mono ?_; clear H18; rintro e w4x (⟨rfl, H4, z15⟩ | ⟨E, rfl, hE, H4⟩))
                  | (refine ⟨trivial, ?_⟩; (try refine ⟨fun h => (by cases h), ?_⟩); gi_at_call 13; refine (H13x.out _ H2 _).mono ?_; clear H13x; rintro e w3 ⟨rfl, H3, z7, z8⟩)
                  | (refine ⟨trivial, ?_⟩; (try refine ⟨fun h => (by cases h), ?_⟩); gi_at_call 21; refine (H21.out _).mono ?_; clear H21; rintro e w2x ⟨rfl, H2, z7, z8⟩))
                · exact ⟨by rw [hsz15]; exact HFIN.out.2.1, HFIN.out.2.2, i2_mk HFIN.out.1.1 HFIN.out.1.2.1 HFIN.out.1.2.2 HPX.out⟩
                · obtain ⟨R2, ⟨hS4, hr4, hk4⟩, hSI4⟩ := H4.out
                  refine ⟨by rw [hsz15]; exact hk4.1, hk4.2, ⟨R2, md, vm, ?_, hr4, ?_⟩, HPX.out⟩
                  · rw [List.length_append]; exact hS4
                  · rw [List.length_append]; exact hSI4
              · have hb2 : (y.2 == x'.2) = false := by simpa using hvv
                have hb3 : (y.2 != x'.2) = true := by simpa using hvv
                have HNE : Hid (¬ pre ++ [x'] <+: L) := Hid.mk' (HMIS.out (fun e => hvv (by rw [e])))
                clear hxy hvv
                gi_wp2
                exact ⟨keepsFrom_of (one_keeps _ _ _ _) (by rintro i rfl; exact .inr ⟨_, _, _, HG.out.1.bx (b := w.heap.size) (t := 4) (v := .bool false) (by simp [sbs2, sbs])⟩), rfl, HNE.out⟩
            · have hb1 : (y.1.toList == x'.1.toList) = false := by rw [beq_toList]; exact decide_eq_false hxy
              have HNE : Hid (¬ pre ++ [x'] <+: L) := Hid.mk' (HMIS.out (fun e => hxy (by rw [e])))
              clear hxy
              gi_wp2
              exact ⟨keepsFrom_of (one_keeps _ _ _ _) (by rintro i rfl; exact .inr ⟨_, _, _, HG.out.1.bx (b := w.heap.size) (t := 4) (v := .bool false) (by simp [sbs2, sbs])⟩), rfl, HNE.out⟩
          case rest2 =>
            rintro D2 W3 hD2 hK2 ⟨R, md, vm, hG⟩
            obtain ⟨pm, cm, e⟩ := (DSl.of_row hG.2.1 rfl).shape
            subst e
            have HE : Hid (ST w W3 (w.heap.size + 1 + 1) (w.heap.size + 1) R (sbs2 (w.heap.size + 1 + 1) w.heap.size b7 b8 b9 b14 d stop (.slice pk L.length ck) sn (L.length : Int) (.slice pm md.length cm)) [D2, D1] w4.heap.size (.slice pk L.length ck) L ∧ World.ownsRow W3 (b14 + 1) 30 2 (.slice pm md.length cm) md.length (dcells md)) := Hid.mk' ⟨hG.1.addD hK2, hG.2.1⟩
            have HD2 : Hid (w.heap.size < D2 ∧ w.heap.size < D1 ∧ D2 ≠ D1) := Hid.mk' (by have := HB14.out; have := HD1.out; omega)
            obtain ⟨M, hM⟩ : ∃ M, lstS R d = M := ⟨_, rfl⟩
            have HM : Hid (lstS R d = M) := hM
            have HSE := Hid.mk' (si_end hG.2.2)
            have HML : Hid (M.length = md.length) := Hid.mk' (by rw [← hM]; exact HSE.out.1)
            have hmd : md.length < 3000000000000 := by have := hG.2.2.mlen; omega
            clear hG hM hD2 hK2 H15 cX cD bM hseq hsz15
            have hcl : ∀ ww : World, (ST w ww (w.heap.size + 1 + 1) (w.heap.size + 1) R (sbs2 (w.heap.size + 1 + 1) w.heap.size b7 b8 b9 b14 d stop (.slice pk L.length ck) sn (L.length : Int) (.slice pm md.length cm)) [D2, D1] w4.heap.size (.slice pk L.length ck) L ∧ World.ownsRow ww (b14 + 1) 30 2 (.slice pm md.length cm) md.length (dcells md)) → ww.cell? ⟨b7, 0, none⟩ = some (.pointer (some ⟨w.heap.size + 1 + 1, 0, none⟩)) ∧ ww.cell? ⟨b8, 0, none⟩ = some (.int .i64 d) ∧ ww.cell? ⟨b14 + 1, 0, none⟩ = some (.slice pm md.length cm) ∧ ww.cell? ⟨b14, 0, none⟩ = some (.int .i64 (L.length : Int)) ∧ ww.cell? ⟨b9, 0, none⟩ = some (.slice pk L.length ck) := fun ww h =>
              ⟨(h.1.bx (b := b7) (t := 24) (v := .pointer (some ⟨w.heap.size + 1 + 1, 0, none⟩)) (by simp [sbs2, sbs])).cell, (h.1.bx (b := b8) (t := 3) (v := .int .i64 d) (by simp [sbs2, sbs])).cell, (h.1.bx (b := b14 + 1) (t := 26) (v := .slice pm md.length cm) (by simp [sbs2])).cell, (h.1.bx (b := b14) (t := 3) (v := .int .i64 (L.length : Int)) (by simp [sbs2])).cell, (h.1.bx (b := b9) (t := 26) (v := .slice pk L.length ck) (by simp [sbs2, sbs])).cell⟩
            have HCE := Hid.mk' hcl
            obtain ⟨e1, e2, e3, e4, e5⟩ := hcl W3 HE.out
            clear hcl
            simp only [Exit.inBlock, Exit.then]
            go_wp2
            go_loopw [21] (fun c wr => ∃ i : Nat, i ≤ md.length ∧ c = .int .i64 i ∧ Hid (ST w wr (w.heap.size + 1 + 1) (w.heap.size + 1) R (sbs2 (w.heap.size + 1 + 1) w.heap.size b7 b8 b9 b14 d stop (.slice pk L.length ck) sn (L.length : Int) (.slice pm md.length cm)) [D2, D1] w4.heap.size (.slice pk L.length ck) L ∧ World.ownsRow wr (b14 + 1) 30 2 (.slice pm md.length cm) md.length (dcells md))) (fun c _ => md.length - (intOf c).toNat)
            case atStart => exact ⟨0, by omega, rfl, HE⟩
            case round =>
              clear HE e1 e2 e3 e4 e5
              obtain ⟨i, hi', rfl, HR⟩ := hrel
              obtain ⟨e1, e2, e3, e4, e5⟩ := HCE.out wr HR.out
              by_cases hlt : i < md.length
              · have hlt' : (i : Int) < (md.length : Int) := by omega
                have hi0 : (0 : Int) ≤ (i : Int) := by omega
                obtain ⟨gm, om, capm, e, _, hcm⟩ := (DSl.of_row HR.out.2 rfl).pos (by omega)
                have hpm : pm = some ⟨gm, om, none⟩ := by cases e; rfl
                obtain ⟨m, hm⟩ : ∃ m, md.getD i dz = m := ⟨_, rfl⟩
                have hcr : ∀ ww : World, (ST w ww (w.heap.size + 1 + 1) (w.heap.size + 1) R (sbs2 (w.heap.size + 1 + 1) w.heap.size b7 b8 b9 b14 d stop (.slice pk L.length ck) sn (L.length : Int) (.slice pm md.length cm)) [D2, D1] w4.heap.size (.slice pk L.length ck) L ∧ World.ownsRow ww (b14 + 1) 30 2 (.slice pm md.length cm) md.length (dcells md)) → ww.cell? ⟨gm, om + i * 2, none⟩ = some (.string m.1) ∧ ww.cell? ⟨gm, om + i * 2 + 1, none⟩ = some (.int .i64 m.2) := fun ww h => by
                  obtain ⟨gm', om', capm', e', _, hcm'⟩ := (DSl.of_row h.2 rfl).pos (by omega)
                  rw [hpm] at e'
                  cases e'
                  rw [← hm]
                  exact hcm' i hlt
                have hgm : getS R d m.1 = m.2 := HSE.out.2 m (by rw [← hm, getD_lt hlt]; exact List.getElem_mem ..)
                obtain ⟨e6, e7⟩ := hcr wr HR.out
                have h13 : ∀ nn, Calls Try.prog 13 #[.pointer (some ⟨w.heap.size + 1 + 1, 0, none⟩), .int .i64 d, .string m.1] (wr.drewN nn) fun e w' => e = .returned (.int .i64 m.2) ∧ Hid (ST w w' (w.heap.size + 1 + 1) (w.heap.size + 1) R (sbs2 (w.heap.size + 1 + 1) w.heap.size b7 b8 b9 b14 d stop (.slice pk L.length ck) sn (L.length : Int) (.slice pm md.length cm)) [D2, D1] w4.heap.size (.slice pk L.length ck) L ∧ World.ownsRow w' (b14 + 1) 30 2 (.slice pm md.length cm) md.length (dcells md)) ∧ w'.cell? ⟨b7, 0, none⟩ = some (.pointer (some ⟨w.heap.size + 1 + 1, 0, none⟩)) ∧ w'.cell? ⟨b8, 0, none⟩ = some (.int .i64 d) ∧ w'.cell? ⟨b14 + 1, 0, none⟩ = some (.slice pm md.length cm) ∧ w'.cell? ⟨gm, om + i * 2, none⟩ = some (.string m.1) ∧ w'.cell? ⟨gm, om + i * 2 + 1, none⟩ = some (.int .i64 m.2) := by
                  intro nn
                  refine (st_get (Hid.mk' (HR.out.1.drewN nn)) d hwf m.1 m.2 hgm).mono ?_
                  rintro e w' ⟨rfl, H⟩
                  have h' : ST w w' (w.heap.size + 1 + 1) (w.heap.size + 1) R (sbs2 (w.heap.size + 1 + 1) w.heap.size b7 b8 b9 b14 d stop (.slice pk L.length ck) sn (L.length : Int) (.slice pm md.length cm)) [D2, D1] w4.heap.size (.slice pk L.length ck) L ∧ World.ownsRow w' (b14 + 1) 30 2 (.slice pm md.length cm) md.length (dcells md) := ⟨H.out.1, ownsRow_keep (ownsRow_keep HR.out.2 (Keeps.drewN (fun _ => False) wr nn) (fun _ _ h => h)) H.out.2 (fun _ _ h => h)⟩
                  obtain ⟨x1, x2, x3, _, _⟩ := HCE.out w' h'
                  exact ⟨rfl, h', x1, x2, x3, hcr w' h'⟩
                rw [hpm] at e3
                have H13 := Hid.mk' h13
                rw [hpm] at H13
                clear hcr hgm hcm e hm h13
                subst hpm
                go_wp2
                go_region_held3 (fun wx => wx.cell? ⟨b7, 0, none⟩ = some (.pointer (some ⟨w.heap.size + 1 + 1, 0, none⟩)) ∧ wx.cell? ⟨b8, 0, none⟩ = some (.int .i64 d) ∧ wx.cell? ⟨b14 + 1, 0, none⟩ = some (.slice (some ⟨gm, om, none⟩) md.length cm) ∧ wx.cell? ⟨gm, om + i * 2, none⟩ = some (.string m.1) ∧ wx.cell? ⟨gm, om + i * 2 + 1, none⟩ = some (.int .i64 m.2))
                  (first | go_keep)
                  (first
                    | (go_at_call 13; refine (H13.out _).mono ?_; rintro e w8 ⟨rfl, H8, x1, x2, x3, x4, x5⟩))
                all_goals
                  go_wp2
                  go_roundw
                  case rel => exact ⟨i + 1, by omega, by go_num, H8⟩
                  case measure => simp [intOf]; omega
              · have hlt' : ¬ (i : Int) < (md.length : Int) := by omega
                have hMl' : ((M.length : Int) == (md.length : Int)) = true := by have := HML.out; simp; omega
                have hMl2 : M.length < 3000000000000 := by have := HML.out; omega
                go_wp2_with (first
                  | (go_at_call 19; refine (same_any _ _ _ M M D21.out D20.out (by omega)).mono ?_; rintro e w22 ⟨rfl, k22⟩; have H22 := Hid.mk' (H21.out.1.grown k22); have b6x := (H22.out.bx (b := w.heap.size) (t := 4) (v := .bool false) (by simp [sbs2, sbs])).cell; have f6x := (H22.out.bx (b := w.heap.size) (t := 4) (v := .bool false) (by simp [sbs2, sbs])).frozen; clear k22 H21 D20 D21)
                  | (go_at_call 24; refine (st_all (Hid.mk' H20.out.1) d _ M HM.out (by omega)).mono ?_; rintro e w21 ⟨p21, c21, rfl, S21, D21, K21⟩; have H21 : Hid (ST w w21 (w.heap.size + 1 + 1) (w.heap.size + 1) R (sbs2 (w.heap.size + 1 + 1) w.heap.size b7 b8 b9 b14 d stop (.slice pk L.length ck) sn (L.length : Int) (.slice pm md.length cm)) [D2, D1] w4.heap.size (.slice pk L.length ck) L ∧ World.ownsRow w21 (b14 + 1) 30 2 (.slice pm md.length cm) md.length (dcells md)) := Hid.mk' ⟨S21.out, ownsRow_keep H20.out.2 K21.out (fun _ _ h => h)⟩; have D20' := Hid.mk' (D20.out.grown K21.out); clear D20 S21 H20; have D20 := D20'; clear D20')
                  | (go_at_call 11; refine (list_any wr _ _ R HR.out.1.ix d (by have := HR.out.1.few; omega)).mono ?_; rintro e w20 ⟨v20, rfl, H⟩; rw [HM.out] at H; obtain ⟨p20, c20, e20⟩ := (DSl.of_row H.out.1 rfl).shape; subst e20; have H20 : Hid (ST w w20 (w.heap.size + 1 + 1) (w.heap.size + 1) R (sbs2 (w.heap.size + 1 + 1) w.heap.size b7 b8 b9 b14 d stop (.slice pk L.length ck) sn (L.length : Int) (.slice pm md.length cm)) [D2, D1] w4.heap.size (.slice pk L.length ck) L ∧ World.ownsRow w20 (b14 + 1) 30 2 (.slice pm md.length cm) md.length (dcells md)) := Hid.mk' ⟨HR.out.1.grown H.out.2, ownsRow_keep HR.out.2 H.out.2 (fun _ _ h => h)⟩; have D20 : Hid (DSl w20 (.slice p20 M.length c20) M) := Hid.mk' (DSl.of_row H.out.1 rfl); have x20 := HCE.out w20 H20.out; obtain ⟨g1, g2, g3, g4, g5⟩ := x20; clear H HR))
                have hE := H22.out.set (b := w.heap.size) (t := 4) (v := .bool false) (.bool true) (by simp [sbs2, sbs]) (by decide) (by decide) (bs' := [(w.heap.size, 4, .bool true)]) (by intro q hq; left; simpa using hq)
                obtain ⟨hd2, hd1, hdn⟩ := HD2.out
                have d2 := hE.nc D2 (by simp)
                have d1 := hE.nc D1 (by simp)
                have hbx := hE.bx (b := w.heap.size) (t := 4) (v := .bool true) (by simp)
                refine ⟨by simp, .inl ⟨_, _, rfl, run_takeDeferred d2, ?_⟩⟩
                have d1' := (World.putObj_heap_other (o := .deferred none) (show D1 ≠ D2 from fun e => hdn e.symm)).trans d1
                have hbx1 : Boxed _ w.heap.size 4 (.bool true) := (World.putObj_heap_other (o := .deferred none) (show w.heap.size ≠ D2 by omega)).trans hbx
                refine ⟨by simp, .inl ⟨_, _, rfl, run_takeDeferred d1', ?_⟩⟩
                have hbx2 : Boxed _ w.heap.size 4 (.bool true) := (World.putObj_heap_other (o := .deferred none) (show w.heap.size ≠ D1 by omega)).trans hbx1
                exact ⟨_, results_box4 rfl _ _ w.heap.size _ rfl hbx2, rfl, (hE.keep.step (grownBy_putObj' _ D2 _) (by rintro k hk'; cases hk'; right; omega)).step (grownBy_putObj' _ D1 _) (by rintro k hk'; cases hk'; right; omega)⟩
      · have hc1 : ((sn : Int) != 0) = true := by simp; omega
        have hc2 : ((sn : Int) != (L.length : Int)) = false := by simp; omega
        have hst1 : (stop == 0) = true := by simpa using hs
        have hst2 : (stop != 0) = false := by simpa using hs
        have hmm1 : max stop 0 = 0 := by omega
        have hmm2 : min 0 (L.length : Int) = 0 := by omega
        clear hsa hsb hs hz hsn'
        go_wp2
        go_region_held3 (fun wx => wx.cell? ⟨b7, 0, none⟩ = some (.pointer (some ⟨w.heap.size + 1 + 1, 0, none⟩)) ∧ wx.cell? ⟨b8, 0, none⟩ = some (.int .i64 d) ∧ wx.cell? ⟨b9, 0, none⟩ = some (.slice pk L.length ck))
          (first | go_keep)
          (first
            | (go_at_call 19; refine (st_same H12 D12 (by omega) true (by simp)).mono ?_; clear H12 D12; rintro e w13 ⟨rfl, H13⟩; have x13 := HCL.out w13 H13; obtain ⟨y1, y2, y3⟩ := x13)
            | (go_at_call 11; refine (H11.out _).mono ?_; rintro e w12 ⟨p12, c12, rfl, H12, D12, x1, x2, x3⟩))
        all_goals
          have H14 := Hid.mk' ((H13.out.newb 3 (.int .i64 0)).newb 26 (.slice none 0 0))
          have y4 := (H14.out.bx (b := b7) (t := 24) (v := .pointer (some ⟨w.heap.size + 1 + 1, 0, none⟩)) (by simp [sbs])).cell
          have y5 := (H14.out.bx (b := b8) (t := 3) (v := .int .i64 d) (by simp [sbs])).cell
          have h14b : b9 + 5 ≤ w13.heap.size := by have := (H13.out.bx (b := b9 + 4) (t := 3) (v := .int .i64 d) (by simp [sbs])).lt; omega
          go_wp2_with (first
            | (go_at_call 22; refine (all_any _ _ _).mono ?_; rintro e w15 ⟨rfl, hw15⟩))
          obtain ⟨b14, hb14⟩ : ∃ b, w13.heap.size = b := ⟨_, rfl⟩
          have H15 : Hid (G2 w (w.heap.size + 1 + 1) (w.heap.size + 1) S w.heap.size b7 b8 b9 b14 d stop (.slice pk L.length ck) w4.heap.size L sn D1 0 S [] (.slice none 0 0) 0 w15) := Hid.mk' (by
            have h := (H14.out.newb 24 (.pointer (some ⟨w.heap.size + 1 + 1, 0, none⟩))).newb 3 (.int .i64 d)
            rw [← hw15] at h
            simp only [World.size_alloc, hb14] at h
            refine ⟨h, ⟨rfl, Or.inl ⟨rfl, rfl⟩⟩, ?_⟩
            have := si_start HO.out.1 HO.out.2.1 d
            rw [HL.out] at this
            exact this)
          have hsz15 : w15.heap.size = b14 + 4 := by rw [hw15]; simp only [World.size_alloc, hb14]
          have hD14 : D1 < b14 := by
            have := heap_lt (H13.out.nc D1 (by simp))
            omega
          rw [hb14] at h14b
          rw [← hw15]
          simp only [hb14]
          clear hw15 H14 H13 y1 y2 y3 y4 y5 hb14 H11 HCL
          try clear x1 x2 x3
          have cX := (H15.out.1.bx (b := b14 + 2) (t := 24) (v := .pointer (some ⟨w.heap.size + 1 + 1, 0, none⟩)) (by simp [sbs2])).cell
          have cD := (H15.out.1.bx (b := b14 + 3) (t := 3) (v := .int .i64 d) (by simp [sbs2])).cell
          have bM := H15.out.1.bx (b := b14 + 1) (t := 26) (v := .slice none 0 0) (by simp [sbs2])
          have hseq := all_stops 8 (b14 + 2) (b14 + 3) (b14 + 1) (w.heap.size + 1 + 1) (w.heap.size + 1) d S (by have := HO.out.2.2; omega) w15 cX cD H15.out.1.ix bM
          rw [HL.out] at hseq
          have HB14 : Hid (w.heap.size < b9 ∧ b7 < b9 ∧ b8 < b9 ∧ b9 + 5 ≤ b14) := Hid.mk' (by have := HB6.out; omega)
          have HLA : Hid (L.Pairwise (fun a b => a.1 ≠ b.1)) := Hid.mk' (by rw [← HL.out]; exact lst_apart HO.out.1 d)
          obtain ⟨i0, hi, hz0, hz1, hz2⟩ := info_parts info30
          refine wpIn_wide.1 (rangeFunc_m (n := 9) rfl (by decide) (gf := 31) (lb := #[.pointer (some ⟨b14 + 2, 0, none⟩), .pointer (some ⟨b14 + 3, 0, none⟩)]) rfl trivial (enters_of Try.func31 (by kernel_rfl) rfl)
            hseq (fun h k => h.trans k) (kpA_b _ w15) (Below.refl _ _) (fun _ => rfl)
            (I2 w (w.heap.size + 1 + 1) (w.heap.size + 1) S w.heap.size b7 b8 b9 b14 d stop (.slice pk L.length ck) w4.heap.size L sn D1) (fun c pre _ => c = .ret ∧ ¬ pre <+: L) (I2.own (by have := HB14.out; omega) (by have := HB14.out; omega) (by omega)) (fun _ _ _ _ _ h _ _ => h) ⟨⟨S, [], _, H15.out⟩, List.nil_prefix⟩
            (fun x' t => (((t.setIfInBounds 102 (.string x'.1)).setIfInBounds 103 (.int .i64 x'.2)).setIfInBounds 16 (.string x'.1)).setIfInBounds 17 (.int .i64 x'.2))
            (M2 w (w.heap.size + 1 + 1) (w.heap.size + 1) S w.heap.size b7 b8 b9 b14 d stop (.slice pk L.length ck) w4.heap.size L sn D1) 2
            (fun xs W hS hi => by subst hS; exact hi.1) (fun c pre W hS hx => absurd hS hx.2) ?hQ2 ?assign2 ?body2 ?rest2)
          case hQ2 => intro a W h; simpa only [Exit.inBlock, if_true] using h
          case assign2 =>
            intro r x' W K hK
            simp only [encs]
            gi_wp2
            simpa using hK
          case body2 =>
            rintro r pre x' W2 ⟨⟨R, md, vm, hG⟩, hpre⟩ hl
            simp only [List.setIfInBounds_toArray, List.set_cons_zero, List.set_cons_succ]
            have cn := (hG.1.bx (b := b14) (t := 3) (v := .int .i64 pre.length) (by simp [sbs2])).cell
            have fn := (hG.1.bx (b := b14) (t := 3) (v := .int .i64 pre.length) (by simp [sbs2])).frozen
            have cl := (hG.1.bx (b := b9) (t := 26) (v := .slice pk L.length ck) (by simp [sbs2, sbs])).cell
            have c6 := (hG.1.bx (b := w.heap.size) (t := 4) (v := .bool false) (by simp [sbs2, sbs])).cell
            have f6 := (hG.1.bx (b := w.heap.size) (t := 4) (v := .bool false) (by simp [sbs2, sbs])).frozen
            obtain ⟨g, o, cap', e, _, hcell⟩ := hG.1.row.dsl.pos (by omega)
            cases e
            obtain ⟨q0, q1⟩ := hcell pre.length hl
            have hget : L[pre.length]? = some (L.getD pre.length dz) := by rw [getD_lt hl, List.getElem?_eq_getElem hl]
            have hlt : (pre.length : Int) < (L.length : Int) := by omega
            have hlt2 : ¬ (L.length : Int) ≤ (pre.length : Int) := by omega
            have hp0 : (0 : Int) ≤ (pre.length : Int) := by omega
            obtain ⟨y, hy⟩ : ∃ y, L.getD pre.length dz = y := ⟨_, rfl⟩
            rw [hy] at q0 q1 hget
            have HY := Hid.mk' hy
            have HMIS : Hid (y ≠ x' → ¬ pre ++ [x'] <+: L) := Hid.mk' (fun hne hp => by
              have := prefix_snoc_get hp
              rw [hget] at this
              exact hne (Option.some.inj this))
            have HG := Hid.mk' hG
            have HPR := Hid.mk' hpre
            have HGET := Hid.mk' hget
            clear hcell hget hG hpre hy
            by_cases hxy : y.1 = x'.1
            · have hb1 : (y.1.toList == x'.1.toList) = true := by rw [beq_toList]; exact decide_eq_true hxy
              by_cases hvv : y.2 = x'.2
              · have hb2 : (y.2 == x'.2) = true := by simpa using hvv
                have hb3 : (y.2 != x'.2) = false := by simpa using hvv
                obtain rfl : y = x' := Prod.ext hxy hvv
                have hstp := si_step HG.out.2.2 hdb HLA.out hl HY.out
                have hG1 := HG.out.gone HB14.out ((pre.length : Int) + 1)
                have hkb1 : Kb (b14 + 4) (b14 + 1) W2 (W2.setCell ⟨b14, 0, none⟩ (.int .i64 ((pre.length : Int) + 1))) := kb_box (HG.out.1.bx (b := b14) (t := 3) (v := .int .i64 pre.length) (by simp [sbs2])) (by omega)
                generalize hWn : W2.setCell ⟨b14, 0, none⟩ (.int .i64 ((pre.length : Int) + 1)) = Wn at *
                have hcl : ∀ (R' : List Rw) (ww : World), (ST w ww (w.heap.size + 1 + 1) (w.heap.size + 1) R' (sbs2 (w.heap.size + 1 + 1) w.heap.size b7 b8 b9 b14 d stop (.slice (some ⟨g, o, none⟩) L.length ck) sn ((pre.length : Int) + 1) vm) [D1] w4.heap.size (.slice (some ⟨g, o, none⟩) L.length ck) L) → ww.cell? ⟨b7, 0, none⟩ = some (.pointer (some ⟨w.heap.size + 1 + 1, 0, none⟩)) ∧ ww.cell? ⟨b8, 0, none⟩ = some (.int .i64 d) ∧ ww.cell? ⟨b14 + 1, 0, none⟩ = some vm := fun R' ww h =>
                  ⟨(h.bx (b := b7) (t := 24) (v := .pointer (some ⟨w.heap.size + 1 + 1, 0, none⟩)) (by simp [sbs2, sbs])).cell, (h.bx (b := b8) (t := 3) (v := .int .i64 d) (by simp [sbs2, sbs])).cell, (h.bx (b := b14 + 1) (t := 26) (v := vm) (by simp [sbs2])).cell⟩
                obtain ⟨n7, n8, n15⟩ := hcl R Wn hG1.1
                obtain ⟨t1, t2, t3, t4⟩ := hstp
                obtain ⟨R1, hR1⟩ : ∃ R1, delS R d y.1 = R1 := ⟨_, rfl⟩
                rw [hR1] at t3 t4
                have hbm4 : w.heap.size + 1 < b14 + 4 := by have := HB14.out; omega
                have h21 : ∀ m, CallsIn (Fence.wide.inRound r) m Try.prog 21 #[.pointer (some ⟨w.heap.size + 1 + 1, 0, none⟩), .int .i64 d, .string y.1] Wn fun e w' => e = .returned (.tuple #[.int .i64 y.2, .int .i64 0]) ∧ Hid ((ST w w' (w.heap.size + 1 + 1) (w.heap.size + 1) R1 (sbs2 (w.heap.size + 1 + 1) w.heap.size b7 b8 b9 b14 d stop (.slice (some ⟨g, o, none⟩) L.length ck) sn ((pre.length : Int) + 1) vm) [D1] w4.heap.size (.slice (some ⟨g, o, none⟩) L.length ck) L) ∧ World.ownsRow w' (b14 + 1) 30 2 vm md.length (dcells md) ∧ Kb (b14 + 4) (b14 + 1) W2 w') ∧ w'.cell? ⟨b7, 0, none⟩ = some (.pointer (some ⟨w.heap.size + 1 + 1, 0, none⟩)) ∧ w'.cell? ⟨b8, 0, none⟩ = some (.int .i64 d) := fun m => CallsIn.inRound r (callsIn_wide.2 ((st_drop (Hid.mk' hG1.1) d hwf y.1 y.2 0 R1 t1 t2 hR1).mono (by
                  rintro e w' ⟨rfl, H⟩
                  have hc := hcl R1 w' H.out.1
                  exact ⟨rfl, ⟨H.out.1, hG1.drop H.out.2, hkb1.trans (kb_map hG1.1.ix hbm4 H.out.2)⟩, hc.1, hc.2.1⟩)))
                have h13 : ∀ w3, Hid ((ST w w3 (w.heap.size + 1 + 1) (w.heap.size + 1) R1 (sbs2 (w.heap.size + 1 + 1) w.heap.size b7 b8 b9 b14 d stop (.slice (some ⟨g, o, none⟩) L.length ck) sn ((pre.length : Int) + 1) vm) [D1] w4.heap.size (.slice (some ⟨g, o, none⟩) L.length ck) L) ∧ World.ownsRow w3 (b14 + 1) 30 2 vm md.length (dcells md) ∧ Kb (b14 + 4) (b14 + 1) W2 w3) → ∀ m, CallsIn (Fence.wide.inRound r) m Try.prog 13 #[.pointer (some ⟨w.heap.size + 1 + 1, 0, none⟩), .int .i64 d, .string y.1] w3 fun e w' => e = .returned (.int .i64 0) ∧ Hid ((ST w w' (w.heap.size + 1 + 1) (w.heap.size + 1) R1 (sbs2 (w.heap.size + 1 + 1) w.heap.size b7 b8 b9 b14 d stop (.slice (some ⟨g, o, none⟩) L.length ck) sn ((pre.length : Int) + 1) vm) [D1] w4.heap.size (.slice (some ⟨g, o, none⟩) L.length ck) L) ∧ World.ownsRow w' (b14 + 1) 30 2 vm md.length (dcells md) ∧ Kb (b14 + 4) (b14 + 1) W2 w') ∧ w'.cell? ⟨b7, 0, none⟩ = some (.pointer (some ⟨w.heap.size + 1 + 1, 0, none⟩)) ∧ w'.cell? ⟨b8, 0, none⟩ = some (.int .i64 d) := fun w3 h3 m => CallsIn.inRound r (callsIn_wide.2 ((st_get (Hid.mk' h3.out.1) d hwf y.1 0 t3).mono (by
                  rintro e w' ⟨rfl, H⟩
                  have hc := hcl R1 w' H.out.1
                  exact ⟨rfl, ⟨H.out.1, ownsRow_keep h3.out.2.1 H.out.2 (fun _ _ h => h), h3.out.2.2.trans (kb_false H.out.2)⟩, hc.1, hc.2.1⟩)))
                have h18 : ∀ w3, Hid ((ST w w3 (w.heap.size + 1 + 1) (w.heap.size + 1) R1 (sbs2 (w.heap.size + 1 + 1) w.heap.size b7 b8 b9 b14 d stop (.slice (some ⟨g, o, none⟩) L.length ck) sn ((pre.length : Int) + 1) vm) [D1] w4.heap.size (.slice (some ⟨g, o, none⟩) L.length ck) L) ∧ World.ownsRow w3 (b14 + 1) 30 2 vm md.length (dcells md) ∧ Kb (b14 + 4) (b14 + 1) W2 w3) → ∀ m s, CallsIn (Fence.wide.inRound r) m Try.prog 18 #[.pointer (some ⟨w.heap.size + 1 + 1, 0, none⟩), .int .i64 d, .string s, .int .i64 y.2] w3 fun e w' =>
                    (e = .returned (.int .i64 0) ∧ Hid (∃ R2, ((ST w w' (w.heap.size + 1 + 1) (w.heap.size + 1) R2 (sbs2 (w.heap.size + 1 + 1) w.heap.size b7 b8 b9 b14 d stop (.slice (some ⟨g, o, none⟩) L.length ck) sn ((pre.length : Int) + 1) vm) [D1] w4.heap.size (.slice (some ⟨g, o, none⟩) L.length ck) L) ∧ World.ownsRow w' (b14 + 1) 30 2 vm md.length (dcells md) ∧ Kb (b14 + 4) (b14 + 1) W2 w') ∧ SI S.length L d (pre.length + 1) R2 (md ++ [(s, y.2)])) ∧ w'.cell? ⟨b14 + 1, 0, none⟩ = some vm) ∨ (∃ E : Int, e = .returned (.int .i64 E) ∧ (E == 0) = false ∧ Hid (∃ R2, ((ST w w' (w.heap.size + 1 + 1) (w.heap.size + 1) R2 (sbs2 (w.heap.size + 1 + 1) w.heap.size b7 b8 b9 b14 d stop (.slice (some ⟨g, o, none⟩) L.length ck) sn ((pre.length : Int) + 1) vm) [D1] w4.heap.size (.slice (some ⟨g, o, none⟩) L.length ck) L) ∧ World.ownsRow w' (b14 + 1) 30 2 vm md.length (dcells md) ∧ Kb (b14 + 4) (b14 + 1) W2 w') ∧ SI S.length L d (pre.length + 1) R2 md)) := fun w3 h3 m s => CallsIn.inRound r (callsIn_wide.2 ((st_put (Hid.mk' h3.out.1) d s y.2 _ _ rfl rfl (by
                      rcases Classical.em (putE R1 d s y.2 = 0) with he | he
                      · have := ((t4 s).1 he).few; have := HO.out.2.2; omega
                      · have := ((t4 s).2 he).few; have := HO.out.2.2; omega)).mono (by
                  rintro e w' ⟨rfl, H⟩
                  have hrow : w'.ownsRow (b14 + 1) 30 2 vm md.length (dcells md) := ownsRow_keep h3.out.2.1 H.out.2 (fun g hg e => by obtain ⟨cur, ho⟩ := row_obj h3.out.2.1 hg; exact h3.out.1.ix.no_cells (e ▸ ho))
                  have hkb := h3.out.2.2.trans (kb_map h3.out.1.ix hbm4 H.out.2)
                  rcases Classical.em (putE R1 d s y.2 = 0) with he | he
                  · exact Or.inl ⟨by rw [he], ⟨_, ⟨H.out.1, hrow, hkb⟩, (t4 s).1 he⟩, (hcl _ w' H.out.1).2.2⟩
                  · exact Or.inr ⟨_, rfl, by simpa using he, ⟨_, ⟨H.out.1, hrow, hkb⟩, (t4 s).2 he⟩⟩)))
                have H21 := Hid.mk' h21
                have H13x := Hid.mk' h13
                have H18 := Hid.mk' h18
                have hmd : md.length < 3000000000000 := by have := HG.out.2.2.mlen; omega
                have HPX : Hid (pre ++ [y] <+: L) := Hid.mk' (prefix_get_snoc HPR.out HGET.out)
                clear h21 h13 h18 hG1 hkb1 hcl t1 t2 t3 t4 hxy hvv n15
                gi_wp2_with (first
                  | (gi_at_builtin; obtain ⟨R2, ⟨hS4, hr4, hk4⟩, hSI4⟩ := H4.out; have hv4 := hS4.bx (b := b14 + 1) (t := 26) (v := vm) (by simp [sbs2]); have hlt4 := hv4.lt; refine wpListIn_append_own_at _ rfl _ _ 26 rfl (b14 + 1) 30 i0 (.agg #[.string ⟨#[]⟩, .int .i64 0]) 2 24 Try.underlying26 hi hz0 hz1 hz2 rfl (by decide) _ md.length (dcells md) rfl (World.ownsRow.alloc hr4 _) ⟨w4x.heap.size, 0, none⟩ 1 1 [.string _, .int .i64 y.2] rfl rfl (World.news_of_block (heap_alloc_last w4x _)) (by simp [Value.oneCell']) (by unfold maxLen; omega) (by omega) (by rw [World.size_alloc]; omega) ?_; intro v' w5x hown' hgrow _ hloc; obtain ⟨g', cap', rfl⟩ := ownsRow_succ hown'; obtain ⟨hv1, hv2, hr2, hk2, _⟩ := hv4.appended (by decide) hr4 (by omega) (Nat.le_refl _) hown' hgrow; have HFIN := Hid.mk' (And.intro (And.intro (st_app (v' := .slice (some ⟨g', 0, none⟩) (md.length + 1) cap') hS4 hr4 HLB.out HB14.out (by have := HB14.out; omega) hgrow) (And.intro hr2 hSI4)) (hk4.trans (show Kb (b14 + 4) (b14 + 1) w4x _ from ⟨hk2.from _, kpA_append (v' := .slice (some ⟨g', 0, none⟩) (md.length + 1) cap') hv4 ((Keeps.refl _ w4x).alloc _) hgrow hv2 (hloc.imp id (fun e g hg => by rw [hg] at e; cases e; simp))⟩))); have hc1 := hv1.cell; have hf1 := hv1.frozen; clear hS4 hr4 hk4 hSI4 hv4 hlt4 hown' hgrow hloc hv1 hv2 hr2 hk2 H4)
                  | (refine ⟨trivial, ?_⟩; (try refine ⟨fun h => (by cases h), ?_⟩); gi_at_call 18; refine (H18.out _ H3 _ _).mono ?_; clear H18; rintro e w4x (⟨rfl, H4, z15⟩ | ⟨E, rfl, hE, H4⟩))
                  | (refine ⟨trivial, ?_⟩; (try refine ⟨fun h => (by cases h), ?_⟩); gi_at_call 13; refine (H13x.out _ H2 _).mono ?_; clear H13x; rintro e w3 ⟨rfl, H3, z7, z8⟩)
                  | (refine ⟨trivial, ?_⟩; (try refine ⟨fun h => (by cases h), ?_⟩); gi_at_call 21; refine (H21.out _).mono ?_; clear H21; rintro e w2x ⟨rfl, H2, z7, z8⟩))
                · exact ⟨by rw [hsz15]; exact HFIN.out.2.1, HFIN.out.2.2, i2_mk HFIN.out.1.1 HFIN.out.1.2.1 HFIN.out.1.2.2 HPX.out⟩
                · obtain ⟨R2, ⟨hS4, hr4, hk4⟩, hSI4⟩ := H4.out
                  refine ⟨by rw [hsz15]; exact hk4.1, hk4.2, ⟨R2, md, vm, ?_, hr4, ?_⟩, HPX.out⟩
                  · rw [List.length_append]; exact hS4
                  · rw [List.length_append]; exact hSI4
              · have hb2 : (y.2 == x'.2) = false := by simpa using hvv
                have hb3 : (y.2 != x'.2) = true := by simpa using hvv
                have HNE : Hid (¬ pre ++ [x'] <+: L) := Hid.mk' (HMIS.out (fun e => hvv (by rw [e])))
                clear hxy hvv
                gi_wp2
                exact ⟨keepsFrom_of (one_keeps _ _ _ _) (by rintro i rfl; exact .inr ⟨_, _, _, HG.out.1.bx (b := w.heap.size) (t := 4) (v := .bool false) (by simp [sbs2, sbs])⟩), rfl, HNE.out⟩
            · have hb1 : (y.1.toList == x'.1.toList) = false := by rw [beq_toList]; exact decide_eq_false hxy
              have HNE : Hid (¬ pre ++ [x'] <+: L) := Hid.mk' (HMIS.out (fun e => hxy (by rw [e])))
              clear hxy
              gi_wp2
              exact ⟨keepsFrom_of (one_keeps _ _ _ _) (by rintro i rfl; exact .inr ⟨_, _, _, HG.out.1.bx (b := w.heap.size) (t := 4) (v := .bool false) (by simp [sbs2, sbs])⟩), rfl, HNE.out⟩
          case rest2 =>
            rintro D2 W3 hD2 hK2 ⟨R, md, vm, hG⟩
            obtain ⟨pm, cm, e⟩ := (DSl.of_row hG.2.1 rfl).shape
            subst e
            have HE : Hid (ST w W3 (w.heap.size + 1 + 1) (w.heap.size + 1) R (sbs2 (w.heap.size + 1 + 1) w.heap.size b7 b8 b9 b14 d stop (.slice pk L.length ck) sn (L.length : Int) (.slice pm md.length cm)) [D2, D1] w4.heap.size (.slice pk L.length ck) L ∧ World.ownsRow W3 (b14 + 1) 30 2 (.slice pm md.length cm) md.length (dcells md)) := Hid.mk' ⟨hG.1.addD hK2, hG.2.1⟩
            have HD2 : Hid (w.heap.size < D2 ∧ w.heap.size < D1 ∧ D2 ≠ D1) := Hid.mk' (by have := HB14.out; have := HD1.out; omega)
            obtain ⟨M, hM⟩ : ∃ M, lstS R d = M := ⟨_, rfl⟩
            have HM : Hid (lstS R d = M) := hM
            have HSE := Hid.mk' (si_end hG.2.2)
            have HML : Hid (M.length = md.length) := Hid.mk' (by rw [← hM]; exact HSE.out.1)
            have hmd : md.length < 3000000000000 := by have := hG.2.2.mlen; omega
            clear hG hM hD2 hK2 H15 cX cD bM hseq hsz15
            have hcl : ∀ ww : World, (ST w ww (w.heap.size + 1 + 1) (w.heap.size + 1) R (sbs2 (w.heap.size + 1 + 1) w.heap.size b7 b8 b9 b14 d stop (.slice pk L.length ck) sn (L.length : Int) (.slice pm md.length cm)) [D2, D1] w4.heap.size (.slice pk L.length ck) L ∧ World.ownsRow ww (b14 + 1) 30 2 (.slice pm md.length cm) md.length (dcells md)) → ww.cell? ⟨b7, 0, none⟩ = some (.pointer (some ⟨w.heap.size + 1 + 1, 0, none⟩)) ∧ ww.cell? ⟨b8, 0, none⟩ = some (.int .i64 d) ∧ ww.cell? ⟨b14 + 1, 0, none⟩ = some (.slice pm md.length cm) ∧ ww.cell? ⟨b14, 0, none⟩ = some (.int .i64 (L.length : Int)) ∧ ww.cell? ⟨b9, 0, none⟩ = some (.slice pk L.length ck) := fun ww h =>
              ⟨(h.1.bx (b := b7) (t := 24) (v := .pointer (some ⟨w.heap.size + 1 + 1, 0, none⟩)) (by simp [sbs2, sbs])).cell, (h.1.bx (b := b8) (t := 3) (v := .int .i64 d) (by simp [sbs2, sbs])).cell, (h.1.bx (b := b14 + 1) (t := 26) (v := .slice pm md.length cm) (by simp [sbs2])).cell, (h.1.bx (b := b14) (t := 3) (v := .int .i64 (L.length : Int)) (by simp [sbs2])).cell, (h.1.bx (b := b9) (t := 26) (v := .slice pk L.length ck) (by simp [sbs2, sbs])).cell⟩
            have HCE := Hid.mk' hcl
            obtain ⟨e1, e2, e3, e4, e5⟩ := hcl W3 HE.out
            clear hcl
            simp only [Exit.inBlock, Exit.then]
            go_wp2
            go_loopw [21] (fun c wr => ∃ i : Nat, i ≤ md.length ∧ c = .int .i64 i ∧ Hid (ST w wr (w.heap.size + 1 + 1) (w.heap.size + 1) R (sbs2 (w.heap.size + 1 + 1) w.heap.size b7 b8 b9 b14 d stop (.slice pk L.length ck) sn (L.length : Int) (.slice pm md.length cm)) [D2, D1] w4.heap.size (.slice pk L.length ck) L ∧ World.ownsRow wr (b14 + 1) 30 2 (.slice pm md.length cm) md.length (dcells md))) (fun c _ => md.length - (intOf c).toNat)
            case atStart => exact ⟨0, by omega, rfl, HE⟩
            case round =>
              clear HE e1 e2 e3 e4 e5
              obtain ⟨i, hi', rfl, HR⟩ := hrel
              obtain ⟨e1, e2, e3, e4, e5⟩ := HCE.out wr HR.out
              by_cases hlt : i < md.length
              · have hlt' : (i : Int) < (md.length : Int) := by omega
                have hi0 : (0 : Int) ≤ (i : Int) := by omega
                obtain ⟨gm, om, capm, e, _, hcm⟩ := (DSl.of_row HR.out.2 rfl).pos (by omega)
                have hpm : pm = some ⟨gm, om, none⟩ := by cases e; rfl
                obtain ⟨m, hm⟩ : ∃ m, md.getD i dz = m := ⟨_, rfl⟩
                have hcr : ∀ ww : World, (ST w ww (w.heap.size + 1 + 1) (w.heap.size + 1) R (sbs2 (w.heap.size + 1 + 1) w.heap.size b7 b8 b9 b14 d stop (.slice pk L.length ck) sn (L.length : Int) (.slice pm md.length cm)) [D2, D1] w4.heap.size (.slice pk L.length ck) L ∧ World.ownsRow ww (b14 + 1) 30 2 (.slice pm md.length cm) md.length (dcells md)) → ww.cell? ⟨gm, om + i * 2, none⟩ = some (.string m.1) ∧ ww.cell? ⟨gm, om + i * 2 + 1, none⟩ = some (.int .i64 m.2) := fun ww h => by
                  obtain ⟨gm', om', capm', e', _, hcm'⟩ := (DSl.of_row h.2 rfl).pos (by omega)
                  rw [hpm] at e'
                  cases e'
                  rw [← hm]
                  exact hcm' i hlt
                have hgm : getS R d m.1 = m.2 := HSE.out.2 m (by rw [← hm, getD_lt hlt]; exact List.getElem_mem ..)
                obtain ⟨e6, e7⟩ := hcr wr HR.out
                have h13 : ∀ nn, Calls Try.prog 13 #[.pointer (some ⟨w.heap.size + 1 + 1, 0, none⟩), .int .i64 d, .string m.1] (wr.drewN nn) fun e w' => e = .returned (.int .i64 m.2) ∧ Hid (ST w w' (w.heap.size + 1 + 1) (w.heap.size + 1) R (sbs2 (w.heap.size + 1 + 1) w.heap.size b7 b8 b9 b14 d stop (.slice pk L.length ck) sn (L.length : Int) (.slice pm md.length cm)) [D2, D1] w4.heap.size (.slice pk L.length ck) L ∧ World.ownsRow w' (b14 + 1) 30 2 (.slice pm md.length cm) md.length (dcells md)) ∧ w'.cell? ⟨b7, 0, none⟩ = some (.pointer (some ⟨w.heap.size + 1 + 1, 0, none⟩)) ∧ w'.cell? ⟨b8, 0, none⟩ = some (.int .i64 d) ∧ w'.cell? ⟨b14 + 1, 0, none⟩ = some (.slice pm md.length cm) ∧ w'.cell? ⟨gm, om + i * 2, none⟩ = some (.string m.1) ∧ w'.cell? ⟨gm, om + i * 2 + 1, none⟩ = some (.int .i64 m.2) := by
                  intro nn
                  refine (st_get (Hid.mk' (HR.out.1.drewN nn)) d hwf m.1 m.2 hgm).mono ?_
                  rintro e w' ⟨rfl, H⟩
                  have h' : ST w w' (w.heap.size + 1 + 1) (w.heap.size + 1) R (sbs2 (w.heap.size + 1 + 1) w.heap.size b7 b8 b9 b14 d stop (.slice pk L.length ck) sn (L.length : Int) (.slice pm md.length cm)) [D2, D1] w4.heap.size (.slice pk L.length ck) L ∧ World.ownsRow w' (b14 + 1) 30 2 (.slice pm md.length cm) md.length (dcells md) := ⟨H.out.1, ownsRow_keep (ownsRow_keep HR.out.2 (Keeps.drewN (fun _ => False) wr nn) (fun _ _ h => h)) H.out.2 (fun _ _ h => h)⟩
                  obtain ⟨x1, x2, x3, _, _⟩ := HCE.out w' h'
                  exact ⟨rfl, h', x1, x2, x3, hcr w' h'⟩
                rw [hpm] at e3
                have H13 := Hid.mk' h13
                rw [hpm] at H13
                clear hcr hgm hcm e hm h13
                subst hpm
                go_wp2
                go_region_held3 (fun wx => wx.cell? ⟨b7, 0, none⟩ = some (.pointer (some ⟨w.heap.size + 1 + 1, 0, none⟩)) ∧ wx.cell? ⟨b8, 0, none⟩ = some (.int .i64 d) ∧ wx.cell? ⟨b14 + 1, 0, none⟩ = some (.slice (some ⟨gm, om, none⟩) md.length cm) ∧ wx.cell? ⟨gm, om + i * 2, none⟩ = some (.string m.1) ∧ wx.cell? ⟨gm, om + i * 2 + 1, none⟩ = some (.int .i64 m.2))
                  (first | go_keep)
                  (first
                    | (go_at_call 13; refine (H13.out _).mono ?_; rintro e w8 ⟨rfl, H8, x1, x2, x3, x4, x5⟩))
                all_goals
                  go_wp2
                  go_roundw
                  case rel => exact ⟨i + 1, by omega, by go_num, H8⟩
                  case measure => simp [intOf]; omega
              · have hlt' : ¬ (i : Int) < (md.length : Int) := by omega
                have hMl' : ((M.length : Int) == (md.length : Int)) = true := by have := HML.out; simp; omega
                have hMl2 : M.length < 3000000000000 := by have := HML.out; omega
                go_wp2_with (first
                  | (go_at_call 19; refine (same_any _ _ _ M M D21.out D20.out (by omega)).mono ?_; rintro e w22 ⟨rfl, k22⟩; have H22 := Hid.mk' (H21.out.1.grown k22); have b6x := (H22.out.bx (b := w.heap.size) (t := 4) (v := .bool false) (by simp [sbs2, sbs])).cell; have f6x := (H22.out.bx (b := w.heap.size) (t := 4) (v := .bool false) (by simp [sbs2, sbs])).frozen; clear k22 H21 D20 D21)
                  | (go_at_call 24; refine (st_all (Hid.mk' H20.out.1) d _ M HM.out (by omega)).mono ?_; rintro e w21 ⟨p21, c21, rfl, S21, D21, K21⟩; have H21 : Hid (ST w w21 (w.heap.size + 1 + 1) (w.heap.size + 1) R (sbs2 (w.heap.size + 1 + 1) w.heap.size b7 b8 b9 b14 d stop (.slice pk L.length ck) sn (L.length : Int) (.slice pm md.length cm)) [D2, D1] w4.heap.size (.slice pk L.length ck) L ∧ World.ownsRow w21 (b14 + 1) 30 2 (.slice pm md.length cm) md.length (dcells md)) := Hid.mk' ⟨S21.out, ownsRow_keep H20.out.2 K21.out (fun _ _ h => h)⟩; have D20' := Hid.mk' (D20.out.grown K21.out); clear D20 S21 H20; have D20 := D20'; clear D20')
                  | (go_at_call 11; refine (list_any wr _ _ R HR.out.1.ix d (by have := HR.out.1.few; omega)).mono ?_; rintro e w20 ⟨v20, rfl, H⟩; rw [HM.out] at H; obtain ⟨p20, c20, e20⟩ := (DSl.of_row H.out.1 rfl).shape; subst e20; have H20 : Hid (ST w w20 (w.heap.size + 1 + 1) (w.heap.size + 1) R (sbs2 (w.heap.size + 1 + 1) w.heap.size b7 b8 b9 b14 d stop (.slice pk L.length ck) sn (L.length : Int) (.slice pm md.length cm)) [D2, D1] w4.heap.size (.slice pk L.length ck) L ∧ World.ownsRow w20 (b14 + 1) 30 2 (.slice pm md.length cm) md.length (dcells md)) := Hid.mk' ⟨HR.out.1.grown H.out.2, ownsRow_keep HR.out.2 H.out.2 (fun _ _ h => h)⟩; have D20 : Hid (DSl w20 (.slice p20 M.length c20) M) := Hid.mk' (DSl.of_row H.out.1 rfl); have x20 := HCE.out w20 H20.out; obtain ⟨g1, g2, g3, g4, g5⟩ := x20; clear H HR))
                have hE := H22.out.set (b := w.heap.size) (t := 4) (v := .bool false) (.bool true) (by simp [sbs2, sbs]) (by decide) (by decide) (bs' := [(w.heap.size, 4, .bool true)]) (by intro q hq; left; simpa using hq)
                obtain ⟨hd2, hd1, hdn⟩ := HD2.out
                have d2 := hE.nc D2 (by simp)
                have d1 := hE.nc D1 (by simp)
                have hbx := hE.bx (b := w.heap.size) (t := 4) (v := .bool true) (by simp)
                refine ⟨by simp, .inl ⟨_, _, rfl, run_takeDeferred d2, ?_⟩⟩
                have d1' := (World.putObj_heap_other (o := .deferred none) (show D1 ≠ D2 from fun e => hdn e.symm)).trans d1
                have hbx1 : Boxed _ w.heap.size 4 (.bool true) := (World.putObj_heap_other (o := .deferred none) (show w.heap.size ≠ D2 by omega)).trans hbx
                refine ⟨by simp, .inl ⟨_, _, rfl, run_takeDeferred d1', ?_⟩⟩
                have hbx2 : Boxed _ w.heap.size 4 (.bool true) := (World.putObj_heap_other (o := .deferred none) (show w.heap.size ≠ D1 by omega)).trans hbx1
                exact ⟨_, results_box4 rfl _ _ w.heap.size _ rfl hbx2, rfl, (hE.keep.step (grownBy_putObj' _ D2 _) (by rintro k hk'; cases hk'; right; omega)).step (grownBy_putObj' _ D1 _) (by rintro k hk'; cases hk'; right; omega)⟩
    · have hsn' : (sn : Int) = min stop L.length := hsa hs
      have hc1 : ((sn : Int) != min stop (L.length : Int)) = false := by simp; omega
      have hst1 : (stop == 0) = false := by simpa using hs
      have hst2 : (stop != 0) = true := by simpa using hs
      have hmm1 : max stop 0 = stop := by omega
      clear hsa hsb hs hsn'
      go_wp2
      go_region_held3 (fun wx => wx.cell? ⟨b7, 0, none⟩ = some (.pointer (some ⟨w.heap.size + 1 + 1, 0, none⟩)) ∧ wx.cell? ⟨b8, 0, none⟩ = some (.int .i64 d) ∧ wx.cell? ⟨b9, 0, none⟩ = some (.slice pk L.length ck))
        (first | go_keep)
        (first
          | (go_at_call 19; refine (st_same H12 D12 (by omega) true (by simp)).mono ?_; clear H12 D12; rintro e w13 ⟨rfl, H13⟩; have x13 := HCL.out w13 H13; obtain ⟨y1, y2, y3⟩ := x13)
          | (go_at_call 11; refine (H11.out _).mono ?_; rintro e w12 ⟨p12, c12, rfl, H12, D12, x1, x2, x3⟩))
      all_goals
        have H14 := Hid.mk' ((H13.out.newb 3 (.int .i64 0)).newb 26 (.slice none 0 0))
        have y4 := (H14.out.bx (b := b7) (t := 24) (v := .pointer (some ⟨w.heap.size + 1 + 1, 0, none⟩)) (by simp [sbs])).cell
        have y5 := (H14.out.bx (b := b8) (t := 3) (v := .int .i64 d) (by simp [sbs])).cell
        have h14b : b9 + 5 ≤ w13.heap.size := by have := (H13.out.bx (b := b9 + 4) (t := 3) (v := .int .i64 d) (by simp [sbs])).lt; omega
        go_wp2_with (first
          | (go_at_call 22; refine (all_any _ _ _).mono ?_; rintro e w15 ⟨rfl, hw15⟩))
        obtain ⟨b14, hb14⟩ : ∃ b, w13.heap.size = b := ⟨_, rfl⟩
        have H15 : Hid (G2 w (w.heap.size + 1 + 1) (w.heap.size + 1) S w.heap.size b7 b8 b9 b14 d stop (.slice pk L.length ck) w4.heap.size L sn D1 0 S [] (.slice none 0 0) 0 w15) := Hid.mk' (by
          have h := (H14.out.newb 24 (.pointer (some ⟨w.heap.size + 1 + 1, 0, none⟩))).newb 3 (.int .i64 d)
          rw [← hw15] at h
          simp only [World.size_alloc, hb14] at h
          refine ⟨h, ⟨rfl, Or.inl ⟨rfl, rfl⟩⟩, ?_⟩
          have := si_start HO.out.1 HO.out.2.1 d
          rw [HL.out] at this
          exact this)
        have hsz15 : w15.heap.size = b14 + 4 := by rw [hw15]; simp only [World.size_alloc, hb14]
        have hD14 : D1 < b14 := by
          have := heap_lt (H13.out.nc D1 (by simp))
          omega
        rw [hb14] at h14b
        rw [← hw15]
        simp only [hb14]
        clear hw15 H14 H13 y1 y2 y3 y4 y5 hb14 H11 HCL
        try clear x1 x2 x3
        have cX := (H15.out.1.bx (b := b14 + 2) (t := 24) (v := .pointer (some ⟨w.heap.size + 1 + 1, 0, none⟩)) (by simp [sbs2])).cell
        have cD := (H15.out.1.bx (b := b14 + 3) (t := 3) (v := .int .i64 d) (by simp [sbs2])).cell
        have bM := H15.out.1.bx (b := b14 + 1) (t := 26) (v := .slice none 0 0) (by simp [sbs2])
        have hseq := all_stops 8 (b14 + 2) (b14 + 3) (b14 + 1) (w.heap.size + 1 + 1) (w.heap.size + 1) d S (by have := HO.out.2.2; omega) w15 cX cD H15.out.1.ix bM
        rw [HL.out] at hseq
        have HB14 : Hid (w.heap.size < b9 ∧ b7 < b9 ∧ b8 < b9 ∧ b9 + 5 ≤ b14) := Hid.mk' (by have := HB6.out; omega)
        have HLA : Hid (L.Pairwise (fun a b => a.1 ≠ b.1)) := Hid.mk' (by rw [← HL.out]; exact lst_apart HO.out.1 d)
        obtain ⟨i0, hi, hz0, hz1, hz2⟩ := info_parts info30
        refine wpIn_wide.1 (rangeFunc_m (n := 9) rfl (by decide) (gf := 31) (lb := #[.pointer (some ⟨b14 + 2, 0, none⟩), .pointer (some ⟨b14 + 3, 0, none⟩)]) rfl trivial (enters_of Try.func31 (by kernel_rfl) rfl)
          hseq (fun h k => h.trans k) (kpA_b _ w15) (Below.refl _ _) (fun _ => rfl)
          (I2 w (w.heap.size + 1 + 1) (w.heap.size + 1) S w.heap.size b7 b8 b9 b14 d stop (.slice pk L.length ck) w4.heap.size L sn D1) (fun c pre _ => c = .ret ∧ ¬ pre <+: L) (I2.own (by have := HB14.out; omega) (by have := HB14.out; omega) (by omega)) (fun _ _ _ _ _ h _ _ => h) ⟨⟨S, [], _, H15.out⟩, List.nil_prefix⟩
          (fun x' t => (((t.setIfInBounds 102 (.string x'.1)).setIfInBounds 103 (.int .i64 x'.2)).setIfInBounds 16 (.string x'.1)).setIfInBounds 17 (.int .i64 x'.2))
          (M2 w (w.heap.size + 1 + 1) (w.heap.size + 1) S w.heap.size b7 b8 b9 b14 d stop (.slice pk L.length ck) w4.heap.size L sn D1) 2
          (fun xs W hS hi => by subst hS; exact hi.1) (fun c pre W hS hx => absurd hS hx.2) ?hQ2 ?assign2 ?body2 ?rest2)
        case hQ2 => intro a W h; simpa only [Exit.inBlock, if_true] using h
        case assign2 =>
          intro r x' W K hK
          simp only [encs]
          gi_wp2
          simpa using hK
        case body2 =>
          rintro r pre x' W2 ⟨⟨R, md, vm, hG⟩, hpre⟩ hl
          simp only [List.setIfInBounds_toArray, List.set_cons_zero, List.set_cons_succ]
          have cn := (hG.1.bx (b := b14) (t := 3) (v := .int .i64 pre.length) (by simp [sbs2])).cell
          have fn := (hG.1.bx (b := b14) (t := 3) (v := .int .i64 pre.length) (by simp [sbs2])).frozen
          have cl := (hG.1.bx (b := b9) (t := 26) (v := .slice pk L.length ck) (by simp [sbs2, sbs])).cell
          have c6 := (hG.1.bx (b := w.heap.size) (t := 4) (v := .bool false) (by simp [sbs2, sbs])).cell
          have f6 := (hG.1.bx (b := w.heap.size) (t := 4) (v := .bool false) (by simp [sbs2, sbs])).frozen
          obtain ⟨g, o, cap', e, _, hcell⟩ := hG.1.row.dsl.pos (by omega)
          cases e
          obtain ⟨q0, q1⟩ := hcell pre.length hl
          have hget : L[pre.length]? = some (L.getD pre.length dz) := by rw [getD_lt hl, List.getElem?_eq_getElem hl]
          have hlt : (pre.length : Int) < (L.length : Int) := by omega
          have hlt2 : ¬ (L.length : Int) ≤ (pre.length : Int) := by omega
          have hp0 : (0 : Int) ≤ (pre.length : Int) := by omega
          obtain ⟨y, hy⟩ : ∃ y, L.getD pre.length dz = y := ⟨_, rfl⟩
          rw [hy] at q0 q1 hget
          have HY := Hid.mk' hy
          have HMIS : Hid (y ≠ x' → ¬ pre ++ [x'] <+: L) := Hid.mk' (fun hne hp => by
            have := prefix_snoc_get hp
            rw [hget] at this
            exact hne (Option.some.inj this))
          have HG := Hid.mk' hG
          have HPR := Hid.mk' hpre
          have HGET := Hid.mk' hget
          clear hcell hget hG hpre hy
          by_cases hxy : y.1 = x'.1
          · have hb1 : (y.1.toList == x'.1.toList) = true := by rw [beq_toList]; exact decide_eq_true hxy
            by_cases hvv : y.2 = x'.2
            · have hb2 : (y.2 == x'.2) = true := by simpa using hvv
              have hb3 : (y.2 != x'.2) = false := by simpa using hvv
              obtain rfl : y = x' := Prod.ext hxy hvv
              have hstp := si_step HG.out.2.2 hdb HLA.out hl HY.out
              have hG1 := HG.out.gone HB14.out ((pre.length : Int) + 1)
              have hkb1 : Kb (b14 + 4) (b14 + 1) W2 (W2.setCell ⟨b14, 0, none⟩ (.int .i64 ((pre.length : Int) + 1))) := kb_box (HG.out.1.bx (b := b14) (t := 3) (v := .int .i64 pre.length) (by simp [sbs2])) (by omega)
              generalize hWn : W2.setCell ⟨b14, 0, none⟩ (.int .i64 ((pre.length : Int) + 1)) = Wn at *
              have hcl : ∀ (R' : List Rw) (ww : World), (ST w ww (w.heap.size + 1 + 1) (w.heap.size + 1) R' (sbs2 (w.heap.size + 1 + 1) w.heap.size b7 b8 b9 b14 d stop (.slice (some ⟨g, o, none⟩) L.length ck) sn ((pre.length : Int) + 1) vm) [D1] w4.heap.size (.slice (some ⟨g, o, none⟩) L.length ck) L) → ww.cell? ⟨b7, 0, none⟩ = some (.pointer (some ⟨w.heap.size + 1 + 1, 0, none⟩)) ∧ ww.cell? ⟨b8, 0, none⟩ = some (.int .i64 d) ∧ ww.cell? ⟨b14 + 1, 0, none⟩ = some vm := fun R' ww h =>
                ⟨(h.bx (b := b7) (t := 24) (v := .pointer (some ⟨w.heap.size + 1 + 1, 0, none⟩)) (by simp [sbs2, sbs])).cell, (h.bx (b := b8) (t := 3) (v := .int .i64 d) (by simp [sbs2, sbs])).cell, (h.bx (b := b14 + 1) (t := 26) (v := vm) (by simp [sbs2])).cell⟩
              obtain ⟨n7, n8, n15⟩ := hcl R Wn hG1.1
              obtain ⟨t1, t2, t3, t4⟩ := hstp
              obtain ⟨R1, hR1⟩ : ∃ R1, delS R d y.1 = R1 := ⟨_, rfl⟩
              rw [hR1] at t3 t4
              have hbm4 : w.heap.size + 1 < b14 + 4 := by have := HB14.out; omega
              have h21 : ∀ m, CallsIn (Fence.wide.inRound r) m Try.prog 21 #[.pointer (some ⟨w.heap.size + 1 + 1, 0, none⟩), .int .i64 d, .string y.1] Wn fun e w' => e = .returned (.tuple #[.int .i64 y.2, .int .i64 0]) ∧ Hid ((ST w w' (w.heap.size + 1 + 1) (w.heap.size + 1) R1 (sbs2 (w.heap.size + 1 + 1) w.heap.size b7 b8 b9 b14 d stop (.slice (some ⟨g, o, none⟩) L.length ck) sn ((pre.length : Int) + 1) vm) [D1] w4.heap.size (.slice (some ⟨g, o, none⟩) L.length ck) L) ∧ World.ownsRow w' (b14 + 1) 30 2 vm md.length (dcells md) ∧ Kb (b14 + 4) (b14 + 1) W2 w') ∧ w'.cell? ⟨b7, 0, none⟩ = some (.pointer (some ⟨w.heap.size + 1 + 1, 0, none⟩)) ∧ w'.cell? ⟨b8, 0, none⟩ = some (.int .i64 d) := fun m => CallsIn.inRound r (callsIn_wide.2 ((st_drop (Hid.mk' hG1.1) d hwf y.1 y.2 0 R1 t1 t2 hR1).mono (by
                rintro e w' ⟨rfl, H⟩
                have hc := hcl R1 w' H.out.1
                exact ⟨rfl, ⟨H.out.1, hG1.drop H.out.2, hkb1.trans (kb_map hG1.1.ix hbm4 H.out.2)⟩, hc.1, hc.2.1⟩)))
              have h13 : ∀ w3, Hid ((ST w w3 (w.heap.size + 1 + 1) (w.heap.size + 1) R1 (sbs2 (w.heap.size + 1 + 1) w.heap.size b7 b8 b9 b14 d stop (.slice (some ⟨g, o, none⟩) L.length ck) sn ((pre.length : Int) + 1) vm) [D1] w4.heap.size (.slice (some ⟨g, o, none⟩) L.length ck) L) ∧ World.ownsRow w3 (b14 + 1) 30 2 vm md.length (dcells md) ∧ Kb (b14 + 4) (b14 + 1) W2 w3) → ∀ m, CallsIn (Fence.wide.inRound r) m Try.prog 13 #[.pointer (some ⟨w.heap.size + 1 + 1, 0, none⟩), .int .i64 d, .string y.1] w3 fun e w' => e = .returned (.int .i64 0) ∧ Hid ((ST w w' (w.heap.size + 1 + 1) (w.heap.size + 1) R1 (sbs2 (w.heap.size + 1 + 1) w.heap.size b7 b8 b9 b14 d stop (.slice (some ⟨g, o, none⟩) L.length ck) sn ((pre.length : Int) + 1) vm) [D1] w4.heap.size (.slice (some ⟨g, o, none⟩) L.length ck) L) ∧ World.ownsRow w' (b14 + 1) 30 2 vm md.length (dcells md) ∧ Kb (b14 + 4) (b14 + 1) W2 w') ∧ w'.cell? ⟨b7, 0, none⟩ = some (.pointer (some ⟨w.heap.size + 1 + 1, 0, none⟩)) ∧ w'.cell? ⟨b8, 0, none⟩ = some (.int .i64 d) := fun w3 h3 m => CallsIn.inRound r (callsIn_wide.2 ((st_get (Hid.mk' h3.out.1) d hwf y.1 0 t3).mono (by
                rintro e w' ⟨rfl, H⟩
                have hc := hcl R1 w' H.out.1
                exact ⟨rfl, ⟨H.out.1, ownsRow_keep h3.out.2.1 H.out.2 (fun _ _ h => h), h3.out.2.2.trans (kb_false H.out.2)⟩, hc.1, hc.2.1⟩)))
              have h18 : ∀ w3, Hid ((ST w w3 (w.heap.size + 1 + 1) (w.heap.size + 1) R1 (sbs2 (w.heap.size + 1 + 1) w.heap.size b7 b8 b9 b14 d stop (.slice (some ⟨g, o, none⟩) L.length ck) sn ((pre.length : Int) + 1) vm) [D1] w4.heap.size (.slice (some ⟨g, o, none⟩) L.length ck) L) ∧ World.ownsRow w3 (b14 + 1) 30 2 vm md.length (dcells md) ∧ Kb (b14 + 4) (b14 + 1) W2 w3) → ∀ m s, CallsIn (Fence.wide.inRound r) m Try.prog 18 #[.pointer (some ⟨w.heap.size + 1 + 1, 0, none⟩), .int .i64 d, .string s, .int .i64 y.2] w3 fun e w' =>
                  (e = .returned (.int .i64 0) ∧ Hid (∃ R2, ((ST w w' (w.heap.size + 1 + 1) (w.heap.size + 1) R2 (sbs2 (w.heap.size + 1 + 1) w.heap.size b7 b8 b9 b14 d stop (.slice (some ⟨g, o, none⟩) L.length ck) sn ((pre.length : Int) + 1) vm) [D1] w4.heap.size (.slice (some ⟨g, o, none⟩) L.length ck) L) ∧ World.ownsRow w' (b14 + 1) 30 2 vm md.length (dcells md) ∧ Kb (b14 + 4) (b14 + 1) W2 w') ∧ SI S.length L d (pre.length + 1) R2 (md ++ [(s, y.2)])) ∧ w'.cell? ⟨b14 + 1, 0, none⟩ = some vm) ∨ (∃ E : Int, e = .returned (.int .i64 E) ∧ (E == 0) = false ∧ Hid (∃ R2, ((ST w w' (w.heap.size + 1 + 1) (w.heap.size + 1) R2 (sbs2 (w.heap.size + 1 + 1) w.heap.size b7 b8 b9 b14 d stop (.slice (some ⟨g, o, none⟩) L.length ck) sn ((pre.length : Int) + 1) vm) [D1] w4.heap.size (.slice (some ⟨g, o, none⟩) L.length ck) L) ∧ World.ownsRow w' (b14 + 1) 30 2 vm md.length (dcells md) ∧ Kb (b14 + 4) (b14 + 1) W2 w') ∧ SI S.length L d (pre.length + 1) R2 md)) := fun w3 h3 m s => CallsIn.inRound r (callsIn_wide.2 ((st_put (Hid.mk' h3.out.1) d s y.2 _ _ rfl rfl (by
                    rcases Classical.em (putE R1 d s y.2 = 0) with he | he
                    · have := ((t4 s).1 he).few; have := HO.out.2.2; omega
                    · have := ((t4 s).2 he).few; have := HO.out.2.2; omega)).mono (by
                rintro e w' ⟨rfl, H⟩
                have hrow : w'.ownsRow (b14 + 1) 30 2 vm md.length (dcells md) := ownsRow_keep h3.out.2.1 H.out.2 (fun g hg e => by obtain ⟨cur, ho⟩ := row_obj h3.out.2.1 hg; exact h3.out.1.ix.no_cells (e ▸ ho))
                have hkb := h3.out.2.2.trans (kb_map h3.out.1.ix hbm4 H.out.2)
                rcases Classical.em (putE R1 d s y.2 = 0) with he | he
                · exact Or.inl ⟨by rw [he], ⟨_, ⟨H.out.1, hrow, hkb⟩, (t4 s).1 he⟩, (hcl _ w' H.out.1).2.2⟩
                · exact Or.inr ⟨_, rfl, by simpa using he, ⟨_, ⟨H.out.1, hrow, hkb⟩, (t4 s).2 he⟩⟩)))
              have H21 := Hid.mk' h21
              have H13x := Hid.mk' h13
              have H18 := Hid.mk' h18
              have hmd : md.length < 3000000000000 := by have := HG.out.2.2.mlen; omega
              have HPX : Hid (pre ++ [y] <+: L) := Hid.mk' (prefix_get_snoc HPR.out HGET.out)
              clear h21 h13 h18 hG1 hkb1 hcl t1 t2 t3 t4 hxy hvv n15
              gi_wp2_with (first
                | (gi_at_builtin; obtain ⟨R2, ⟨hS4, hr4, hk4⟩, hSI4⟩ := H4.out; have hv4 := hS4.bx (b := b14 + 1) (t := 26) (v := vm) (by simp [sbs2]); have hlt4 := hv4.lt; refine wpListIn_append_own_at _ rfl _ _ 26 rfl (b14 + 1) 30 i0 (.agg #[.string ⟨#[]⟩, .int .i64 0]) 2 24 Try.underlying26 hi hz0 hz1 hz2 rfl (by decide) _ md.length (dcells md) rfl (World.ownsRow.alloc hr4 _) ⟨w4x.heap.size, 0, none⟩ 1 1 [.string _, .int .i64 y.2] rfl rfl (World.news_of_block (heap_alloc_last w4x _)) (by simp [Value.oneCell']) (by unfold maxLen; omega) (by omega) (by rw [World.size_alloc]; omega) ?_; intro v' w5x hown' hgrow _ hloc; obtain ⟨g', cap', rfl⟩ := ownsRow_succ hown'; obtain ⟨hv1, hv2, hr2, hk2, _⟩ := hv4.appended (by decide) hr4 (by omega) (Nat.le_refl _) hown' hgrow; have HFIN := Hid.mk' (And.intro (And.intro (st_app (v' := .slice (some ⟨g', 0, none⟩) (md.length + 1) cap') hS4 hr4 HLB.out HB14.out (by have := HB14.out; omega) hgrow) (And.intro hr2 hSI4)) (hk4.trans (show Kb (b14 + 4) (b14 + 1) w4x _ from ⟨hk2.from _, kpA_append (v' := .slice (some ⟨g', 0, none⟩) (md.length + 1) cap') hv4 ((Keeps.refl _ w4x).alloc _) hgrow hv2 (hloc.imp id (fun e g hg => by rw [hg] at e; cases e; simp))⟩))); have hc1 := hv1.cell; have hf1 := hv1.frozen; clear hS4 hr4 hk4 hSI4 hv4 hlt4 hown' hgrow hloc hv1 hv2 hr2 hk2 H4)
                | (refine ⟨trivial, ?_⟩; (try refine ⟨fun h => (by cases h), ?_⟩); gi_at_call 18; refine (H18.out _ H3 _ _).mono ?_; clear H18; rintro e w4x (⟨rfl, H4, z15⟩ | ⟨E, rfl, hE, H4⟩))
                | (refine ⟨trivial, ?_⟩; (try refine ⟨fun h => (by cases h), ?_⟩); gi_at_call 13; refine (H13x.out _ H2 _).mono ?_; clear H13x; rintro e w3 ⟨rfl, H3, z7, z8⟩)
                | (refine ⟨trivial, ?_⟩; (try refine ⟨fun h => (by cases h), ?_⟩); gi_at_call 21; refine (H21.out _).mono ?_; clear H21; rintro e w2x ⟨rfl, H2, z7, z8⟩))
              · exact ⟨by rw [hsz15]; exact HFIN.out.2.1, HFIN.out.2.2, i2_mk HFIN.out.1.1 HFIN.out.1.2.1 HFIN.out.1.2.2 HPX.out⟩
              · obtain ⟨R2, ⟨hS4, hr4, hk4⟩, hSI4⟩ := H4.out
                refine ⟨by rw [hsz15]; exact hk4.1, hk4.2, ⟨R2, md, vm, ?_, hr4, ?_⟩, HPX.out⟩
                · rw [List.length_append]; exact hS4
                · rw [List.length_append]; exact hSI4
            · have hb2 : (y.2 == x'.2) = false := by simpa using hvv
              have hb3 : (y.2 != x'.2) = true := by simpa using hvv
              have HNE : Hid (¬ pre ++ [x'] <+: L) := Hid.mk' (HMIS.out (fun e => hvv (by rw [e])))
              clear hxy hvv
              gi_wp2
              exact ⟨keepsFrom_of (one_keeps _ _ _ _) (by rintro i rfl; exact .inr ⟨_, _, _, HG.out.1.bx (b := w.heap.size) (t := 4) (v := .bool false) (by simp [sbs2, sbs])⟩), rfl, HNE.out⟩
          · have hb1 : (y.1.toList == x'.1.toList) = false := by rw [beq_toList]; exact decide_eq_false hxy
            have HNE : Hid (¬ pre ++ [x'] <+: L) := Hid.mk' (HMIS.out (fun e => hxy (by rw [e])))
            clear hxy
            gi_wp2
            exact ⟨keepsFrom_of (one_keeps _ _ _ _) (by rintro i rfl; exact .inr ⟨_, _, _, HG.out.1.bx (b := w.heap.size) (t := 4) (v := .bool false) (by simp [sbs2, sbs])⟩), rfl, HNE.out⟩
        case rest2 =>
          rintro D2 W3 hD2 hK2 ⟨R, md, vm, hG⟩
          obtain ⟨pm, cm, e⟩ := (DSl.of_row hG.2.1 rfl).shape
          subst e
          have HE : Hid (ST w W3 (w.heap.size + 1 + 1) (w.heap.size + 1) R (sbs2 (w.heap.size + 1 + 1) w.heap.size b7 b8 b9 b14 d stop (.slice pk L.length ck) sn (L.length : Int) (.slice pm md.length cm)) [D2, D1] w4.heap.size (.slice pk L.length ck) L ∧ World.ownsRow W3 (b14 + 1) 30 2 (.slice pm md.length cm) md.length (dcells md)) := Hid.mk' ⟨hG.1.addD hK2, hG.2.1⟩
          have HD2 : Hid (w.heap.size < D2 ∧ w.heap.size < D1 ∧ D2 ≠ D1) := Hid.mk' (by have := HB14.out; have := HD1.out; omega)
          obtain ⟨M, hM⟩ : ∃ M, lstS R d = M := ⟨_, rfl⟩
          have HM : Hid (lstS R d = M) := hM
          have HSE := Hid.mk' (si_end hG.2.2)
          have HML : Hid (M.length = md.length) := Hid.mk' (by rw [← hM]; exact HSE.out.1)
          have hmd : md.length < 3000000000000 := by have := hG.2.2.mlen; omega
          clear hG hM hD2 hK2 H15 cX cD bM hseq hsz15
          have hcl : ∀ ww : World, (ST w ww (w.heap.size + 1 + 1) (w.heap.size + 1) R (sbs2 (w.heap.size + 1 + 1) w.heap.size b7 b8 b9 b14 d stop (.slice pk L.length ck) sn (L.length : Int) (.slice pm md.length cm)) [D2, D1] w4.heap.size (.slice pk L.length ck) L ∧ World.ownsRow ww (b14 + 1) 30 2 (.slice pm md.length cm) md.length (dcells md)) → ww.cell? ⟨b7, 0, none⟩ = some (.pointer (some ⟨w.heap.size + 1 + 1, 0, none⟩)) ∧ ww.cell? ⟨b8, 0, none⟩ = some (.int .i64 d) ∧ ww.cell? ⟨b14 + 1, 0, none⟩ = some (.slice pm md.length cm) ∧ ww.cell? ⟨b14, 0, none⟩ = some (.int .i64 (L.length : Int)) ∧ ww.cell? ⟨b9, 0, none⟩ = some (.slice pk L.length ck) := fun ww h =>
            ⟨(h.1.bx (b := b7) (t := 24) (v := .pointer (some ⟨w.heap.size + 1 + 1, 0, none⟩)) (by simp [sbs2, sbs])).cell, (h.1.bx (b := b8) (t := 3) (v := .int .i64 d) (by simp [sbs2, sbs])).cell, (h.1.bx (b := b14 + 1) (t := 26) (v := .slice pm md.length cm) (by simp [sbs2])).cell, (h.1.bx (b := b14) (t := 3) (v := .int .i64 (L.length : Int)) (by simp [sbs2])).cell, (h.1.bx (b := b9) (t := 26) (v := .slice pk L.length ck) (by simp [sbs2, sbs])).cell⟩
          have HCE := Hid.mk' hcl
          obtain ⟨e1, e2, e3, e4, e5⟩ := hcl W3 HE.out
          clear hcl
          simp only [Exit.inBlock, Exit.then]
          go_wp2
          go_loopw [21] (fun c wr => ∃ i : Nat, i ≤ md.length ∧ c = .int .i64 i ∧ Hid (ST w wr (w.heap.size + 1 + 1) (w.heap.size + 1) R (sbs2 (w.heap.size + 1 + 1) w.heap.size b7 b8 b9 b14 d stop (.slice pk L.length ck) sn (L.length : Int) (.slice pm md.length cm)) [D2, D1] w4.heap.size (.slice pk L.length ck) L ∧ World.ownsRow wr (b14 + 1) 30 2 (.slice pm md.length cm) md.length (dcells md))) (fun c _ => md.length - (intOf c).toNat)
          case atStart => exact ⟨0, by omega, rfl, HE⟩
          case round =>
            clear HE e1 e2 e3 e4 e5
            obtain ⟨i, hi', rfl, HR⟩ := hrel
            obtain ⟨e1, e2, e3, e4, e5⟩ := HCE.out wr HR.out
            by_cases hlt : i < md.length
            · have hlt' : (i : Int) < (md.length : Int) := by omega
              have hi0 : (0 : Int) ≤ (i : Int) := by omega
              obtain ⟨gm, om, capm, e, _, hcm⟩ := (DSl.of_row HR.out.2 rfl).pos (by omega)
              have hpm : pm = some ⟨gm, om, none⟩ := by cases e; rfl
              obtain ⟨m, hm⟩ : ∃ m, md.getD i dz = m := ⟨_, rfl⟩
              have hcr : ∀ ww : World, (ST w ww (w.heap.size + 1 + 1) (w.heap.size + 1) R (sbs2 (w.heap.size + 1 + 1) w.heap.size b7 b8 b9 b14 d stop (.slice pk L.length ck) sn (L.length : Int) (.slice pm md.length cm)) [D2, D1] w4.heap.size (.slice pk L.length ck) L ∧ World.ownsRow ww (b14 + 1) 30 2 (.slice pm md.length cm) md.length (dcells md)) → ww.cell? ⟨gm, om + i * 2, none⟩ = some (.string m.1) ∧ ww.cell? ⟨gm, om + i * 2 + 1, none⟩ = some (.int .i64 m.2) := fun ww h => by
                obtain ⟨gm', om', capm', e', _, hcm'⟩ := (DSl.of_row h.2 rfl).pos (by omega)
                rw [hpm] at e'
                cases e'
                rw [← hm]
                exact hcm' i hlt
              have hgm : getS R d m.1 = m.2 := HSE.out.2 m (by rw [← hm, getD_lt hlt]; exact List.getElem_mem ..)
              obtain ⟨e6, e7⟩ := hcr wr HR.out
              have h13 : ∀ nn, Calls Try.prog 13 #[.pointer (some ⟨w.heap.size + 1 + 1, 0, none⟩), .int .i64 d, .string m.1] (wr.drewN nn) fun e w' => e = .returned (.int .i64 m.2) ∧ Hid (ST w w' (w.heap.size + 1 + 1) (w.heap.size + 1) R (sbs2 (w.heap.size + 1 + 1) w.heap.size b7 b8 b9 b14 d stop (.slice pk L.length ck) sn (L.length : Int) (.slice pm md.length cm)) [D2, D1] w4.heap.size (.slice pk L.length ck) L ∧ World.ownsRow w' (b14 + 1) 30 2 (.slice pm md.length cm) md.length (dcells md)) ∧ w'.cell? ⟨b7, 0, none⟩ = some (.pointer (some ⟨w.heap.size + 1 + 1, 0, none⟩)) ∧ w'.cell? ⟨b8, 0, none⟩ = some (.int .i64 d) ∧ w'.cell? ⟨b14 + 1, 0, none⟩ = some (.slice pm md.length cm) ∧ w'.cell? ⟨gm, om + i * 2, none⟩ = some (.string m.1) ∧ w'.cell? ⟨gm, om + i * 2 + 1, none⟩ = some (.int .i64 m.2) := by
                intro nn
                refine (st_get (Hid.mk' (HR.out.1.drewN nn)) d hwf m.1 m.2 hgm).mono ?_
                rintro e w' ⟨rfl, H⟩
                have h' : ST w w' (w.heap.size + 1 + 1) (w.heap.size + 1) R (sbs2 (w.heap.size + 1 + 1) w.heap.size b7 b8 b9 b14 d stop (.slice pk L.length ck) sn (L.length : Int) (.slice pm md.length cm)) [D2, D1] w4.heap.size (.slice pk L.length ck) L ∧ World.ownsRow w' (b14 + 1) 30 2 (.slice pm md.length cm) md.length (dcells md) := ⟨H.out.1, ownsRow_keep (ownsRow_keep HR.out.2 (Keeps.drewN (fun _ => False) wr nn) (fun _ _ h => h)) H.out.2 (fun _ _ h => h)⟩
                obtain ⟨x1, x2, x3, _, _⟩ := HCE.out w' h'
                exact ⟨rfl, h', x1, x2, x3, hcr w' h'⟩
              rw [hpm] at e3
              have H13 := Hid.mk' h13
              rw [hpm] at H13
              clear hcr hgm hcm e hm h13
              subst hpm
              go_wp2
              go_region_held3 (fun wx => wx.cell? ⟨b7, 0, none⟩ = some (.pointer (some ⟨w.heap.size + 1 + 1, 0, none⟩)) ∧ wx.cell? ⟨b8, 0, none⟩ = some (.int .i64 d) ∧ wx.cell? ⟨b14 + 1, 0, none⟩ = some (.slice (some ⟨gm, om, none⟩) md.length cm) ∧ wx.cell? ⟨gm, om + i * 2, none⟩ = some (.string m.1) ∧ wx.cell? ⟨gm, om + i * 2 + 1, none⟩ = some (.int .i64 m.2))
                (first | go_keep)
                (first
                  | (go_at_call 13; refine (H13.out _).mono ?_; rintro e w8 ⟨rfl, H8, x1, x2, x3, x4, x5⟩))
              all_goals
                go_wp2
                go_roundw
                case rel => exact ⟨i + 1, by omega, by go_num, H8⟩
                case measure => simp [intOf]; omega
            · have hlt' : ¬ (i : Int) < (md.length : Int) := by omega
              have hMl' : ((M.length : Int) == (md.length : Int)) = true := by have := HML.out; simp; omega
              have hMl2 : M.length < 3000000000000 := by have := HML.out; omega
              go_wp2_with (first
                | (go_at_call 19; refine (same_any _ _ _ M M D21.out D20.out (by omega)).mono ?_; rintro e w22 ⟨rfl, k22⟩; have H22 := Hid.mk' (H21.out.1.grown k22); have b6x := (H22.out.bx (b := w.heap.size) (t := 4) (v := .bool false) (by simp [sbs2, sbs])).cell; have f6x := (H22.out.bx (b := w.heap.size) (t := 4) (v := .bool false) (by simp [sbs2, sbs])).frozen; clear k22 H21 D20 D21)
                | (go_at_call 24; refine (st_all (Hid.mk' H20.out.1) d _ M HM.out (by omega)).mono ?_; rintro e w21 ⟨p21, c21, rfl, S21, D21, K21⟩; have H21 : Hid (ST w w21 (w.heap.size + 1 + 1) (w.heap.size + 1) R (sbs2 (w.heap.size + 1 + 1) w.heap.size b7 b8 b9 b14 d stop (.slice pk L.length ck) sn (L.length : Int) (.slice pm md.length cm)) [D2, D1] w4.heap.size (.slice pk L.length ck) L ∧ World.ownsRow w21 (b14 + 1) 30 2 (.slice pm md.length cm) md.length (dcells md)) := Hid.mk' ⟨S21.out, ownsRow_keep H20.out.2 K21.out (fun _ _ h => h)⟩; have D20' := Hid.mk' (D20.out.grown K21.out); clear D20 S21 H20; have D20 := D20'; clear D20')
                | (go_at_call 11; refine (list_any wr _ _ R HR.out.1.ix d (by have := HR.out.1.few; omega)).mono ?_; rintro e w20 ⟨v20, rfl, H⟩; rw [HM.out] at H; obtain ⟨p20, c20, e20⟩ := (DSl.of_row H.out.1 rfl).shape; subst e20; have H20 : Hid (ST w w20 (w.heap.size + 1 + 1) (w.heap.size + 1) R (sbs2 (w.heap.size + 1 + 1) w.heap.size b7 b8 b9 b14 d stop (.slice pk L.length ck) sn (L.length : Int) (.slice pm md.length cm)) [D2, D1] w4.heap.size (.slice pk L.length ck) L ∧ World.ownsRow w20 (b14 + 1) 30 2 (.slice pm md.length cm) md.length (dcells md)) := Hid.mk' ⟨HR.out.1.grown H.out.2, ownsRow_keep HR.out.2 H.out.2 (fun _ _ h => h)⟩; have D20 : Hid (DSl w20 (.slice p20 M.length c20) M) := Hid.mk' (DSl.of_row H.out.1 rfl); have x20 := HCE.out w20 H20.out; obtain ⟨g1, g2, g3, g4, g5⟩ := x20; clear H HR))
              have hE := H22.out.set (b := w.heap.size) (t := 4) (v := .bool false) (.bool true) (by simp [sbs2, sbs]) (by decide) (by decide) (bs' := [(w.heap.size, 4, .bool true)]) (by intro q hq; left; simpa using hq)
              obtain ⟨hd2, hd1, hdn⟩ := HD2.out
              have d2 := hE.nc D2 (by simp)
              have d1 := hE.nc D1 (by simp)
              have hbx := hE.bx (b := w.heap.size) (t := 4) (v := .bool true) (by simp)
              refine ⟨by simp, .inl ⟨_, _, rfl, run_takeDeferred d2, ?_⟩⟩
              have d1' := (World.putObj_heap_other (o := .deferred none) (show D1 ≠ D2 from fun e => hdn e.symm)).trans d1
              have hbx1 : Boxed _ w.heap.size 4 (.bool true) := (World.putObj_heap_other (o := .deferred none) (show w.heap.size ≠ D2 by omega)).trans hbx
              refine ⟨by simp, .inl ⟨_, _, rfl, run_takeDeferred d1', ?_⟩⟩
              have hbx2 : Boxed _ w.heap.size 4 (.bool true) := (World.putObj_heap_other (o := .deferred none) (show w.heap.size ≠ D1 by omega)).trans hbx1
              exact ⟨_, results_box4 rfl _ _ w.heap.size _ rfl hbx2, rfl, (hE.keep.step (grownBy_putObj' _ D2 _) (by rintro k hk'; cases hk'; right; omega)).step (grownBy_putObj' _ D1 _) (by rintro k hk'; cases hk'; right; omega)⟩

end Go.Proofs.Ytendmohjodeelaa
