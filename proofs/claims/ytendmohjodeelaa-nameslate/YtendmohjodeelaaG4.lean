import Derived.Test.YtendmohjodeelaaG2
import Derived.Test.YtendmohjodeelaaG3
namespace Go.Proofs.Ytendmohjodeelaa
open Go.RowKit Go.Maps Go.Great Go.Shelf

theorem row_obj {W : World} {base : Nat} {e : TypeId} {size : Nat} {v : Value} {n : Nat} {xs : List Value} {gb : Nat} (h : W.ownsRow base e size v n xs) (hg : v.ownBlock = some gb) : ∃ cur, W.heap[gb]? = some (.cells cur e (0, 0)) := by
  rcases h.2 with ⟨rfl, _⟩ | ⟨g', cap, cur, rfl, _, hgb, _⟩
  · cases hg
  · cases hg; exact ⟨cur, hgb⟩
theorem ownsRow_keep {w w' : World} {base : Nat} {e : TypeId} {size : Nat} {v : Value} {n : Nat} {xs : List Value} (h : w.ownsRow base e size v n xs) {X : Nat → Prop} (k : Keeps X w w') (hx : ∀ g, v.ownBlock = some g → ¬ X g) : w'.ownsRow base e size v n xs := by
  rcases h.2 with ⟨rfl, h0⟩ | ⟨g, cap, cur, rfl, hg, hb, h1⟩
  · exact ⟨h.1, Or.inl ⟨rfl, h0⟩⟩
  · exact ⟨h.1, Or.inr ⟨g, cap, cur, rfl, hg, k.at hb (hx g rfl), h1⟩⟩
theorem one_keeps (W : World) (b k : Nat) (v : Value) : Keeps (fun c => c = b) W (W.setCell ⟨b, k, none⟩ v) := Keeps.of (grownBy_setCell W ⟨b, k, none⟩ v) (by rintro c hc; cases hc; exact .inl rfl)
theorem IxAt.no_cells {w : World} {x bm : Nat} {S : List Rw} (h : IxAt w x bm S) {c : Array Value} {t : TypeId} {f : Nat × Nat} : w.heap[bm]? ≠ some (.cells c t f) := by
  obtain ⟨D, ⟨es, cl, hb, _⟩, _⟩ := h.map
  intro e
  rw [hb] at e; cases e

theorem IxAt.no_def {w : World} {x bm : Nat} {S : List Rw} (h : IxAt w x bm S) {o : Option (List Deferred)} : w.heap[bm]? ≠ some (.deferred o) := by
  obtain ⟨D, ⟨es, cl, hb, _⟩, _⟩ := h.map
  intro e
  rw [hb] at e; cases e

abbrev Bxs := List (Nat × TypeId × Value)
/-- The index, boxes, and a list that was kept. -/
structure ST (W w : World) (x bm : Nat) (S : List Rw) (bs : Bxs) (ds : List Nat) (base : Nat) (vl : Value) (L : List De) : Prop where
  ix : IxAt w x bm S
  box : ∀ q ∈ bs, Boxed w q.1 q.2.1 q.2.2 ∧ W.heap.size ≤ q.1
  row : RowD w base vl L
  keep : Keeps (fun _ => False) W w
  few : S.length < 4000000000000
  new : W.heap.size ≤ bm
  nc : ∀ k ∈ ds, w.heap[k]? = some (.deferred (some []))
section
variable {W w w' : World} {x bm : Nat} {S : List Rw} {bs : Bxs} {ds : List Nat} {base : Nat} {vl : Value} {L : List De}
/-- What leaves all cells and the map. -/
theorem ST.past {X : Nat → Prop} (h : ST W w x bm S bs ds base vl L) (k : Keeps X w w') (hc : ∀ b c t f, w.heap[b]? = some (.cells c t f) → ¬ X b) (hb : ¬ X bm) (hw : ∀ i, X i → W.heap.size ≤ i) (hn : ∀ k ∈ ds, ¬ X k) : ST W w' x bm S bs ds base vl L :=
  ⟨h.ix.keep k (hc _ _ _ _ h.ix.cell) hb, fun q hq => ⟨k.at (h.box q hq).1 (hc _ _ _ _ (h.box q hq).1), (h.box q hq).2⟩, ownsRow_keep h.row k (fun g hg => by obtain ⟨cur, ho⟩ := row_obj h.row hg; exact hc _ _ _ _ ho), h.keep.then k (fun i hi => Or.inr (hw i hi)), h.few, h.new, fun j hj => k.at (h.nc j hj) (hn j hj)⟩
theorem ST.grown (h : ST W w x bm S bs ds base vl L) (k : Keeps (fun _ => False) w w') : ST W w' x bm S bs ds base vl L := h.past k (fun _ _ _ _ _ h => h) (fun h => h) (fun _ h => h.elim) (fun _ _ h => h)
theorem ST.drewN (h : ST W w x bm S bs ds base vl L) (n : Nat) : ST W (w.drewN n) x bm S bs ds base vl L := h.grown (Keeps.drewN (fun _ => False) w n)
theorem ST.on {S' : List Rw} (h : ST W w x bm S bs ds base vl L) (hi : IxAt w' x bm S') (k : Keeps (fun k => k = bm) w w') (hl : S'.length < 4000000000000) : ST W w' x bm S' bs ds base vl L :=
  ⟨hi, fun q hq => ⟨k.at (h.box q hq).1 (fun e => h.ix.no_cells (e ▸ (h.box q hq).1)), (h.box q hq).2⟩, ownsRow_keep h.row k (fun g hg e => by obtain ⟨cur, ho⟩ := row_obj h.row hg; exact h.ix.no_cells (e ▸ ho)), h.keep.then k (fun i e => Or.inr (by have := h.new; omega)), hl, h.new, fun j hj => k.at (h.nc j hj) (fun e => h.ix.no_def (e ▸ h.nc j hj))⟩
theorem ST.newb (h : ST W w x bm S bs ds base vl L) (t : TypeId) (v : Value) : ST W (w.alloc (.cells #[v] t)) x bm S ((w.heap.size, t, v) :: bs) ds base vl L := by
  have h' := h.grown ((Keeps.refl _ w).alloc (.cells #[v] t))
  refine ⟨h'.ix, fun q hq => ?_, h'.row, h'.keep, h'.few, h'.new, h'.nc⟩
  rcases List.mem_cons.1 hq with rfl | hq
  · exact ⟨Boxed.new w t v, h.keep.size⟩
  · exact h'.box q hq
theorem ST.bx (h : ST W w x bm S bs ds base vl L) {b : Nat} {t : TypeId} {v : Value} (hm : (b, t, v) ∈ bs) : Boxed w b t v := (h.box _ hm).1
theorem ST.set (h : ST W w x bm S bs ds base vl L) {b : Nat} {t : TypeId} {v : Value} (v' : Value) (hm : (b, t, v) ∈ bs) (h30 : t ≠ 30) (h52 : t ≠ 52) {bs' : Bxs} (hb' : ∀ q ∈ bs', q = (b, t, v') ∨ (q ∈ bs ∧ q.1 ≠ b)) : ST W (w.setCell ⟨b, 0, none⟩ v') x bm S bs' ds base vl L := by
  have hb := h.bx hm
  have k := one_keeps w b 0 v'
  refine ⟨h.ix.keep k ?_ ?_, fun q hq => ?_, ownsRow_keep h.row k (fun g hg e => ?_), h.keep.then k (fun i e => Or.inr (by subst e; exact (h.box _ hm).2)), h.few, h.new, fun j hj => k.at (h.nc j hj) (fun e => by subst e; have := (h.nc j hj).symm.trans hb; cases this)⟩
  · intro e
    have := (show w.heap[b]? = _ from hb).symm.trans (e ▸ h.ix.cell)
    simp at this
    exact h52 this.2
  · exact fun e => h.ix.no_cells (e ▸ hb)
  · rcases hb' q hq with rfl | ⟨hq1, hne⟩
    · exact ⟨hb.set v', (h.box _ hm).2⟩
    · exact ⟨(h.box q hq1).1.other hne v', (h.box q hq1).2⟩
  · obtain ⟨cur, ho⟩ := row_obj h.row hg
    have := (show w.heap[b]? = _ from hb).symm.trans (e ▸ ho)
    simp at this
    exact h30 this.2
theorem ST.sub (h : ST W w x bm S bs ds base vl L) {bs' : Bxs} (hs : ∀ q ∈ bs', q ∈ bs) : ST W w x bm S bs' ds base vl L := ⟨h.ix, fun q hq => h.box q (hs q hq), h.row, h.keep, h.few, h.new, h.nc⟩
theorem ST.own {B : Nat} (hB : W.heap.size ≤ B) (hbm : bm < B) (hds : ∀ k ∈ ds, k < B) {row : Option Nat} (h : ST W w x bm S bs ds base vl L) (hg : w.grownBy w' row) (hr : ∀ r, row = some r → B ≤ r ∧ ∃ o : Obj, w.heap[r]? = some o ∧ o.isCells = false) : ST W w' x bm S bs ds base vl L := by
  refine h.past (X := fun c => row = some c) (Keeps.of hg (fun k hk => Or.inl hk)) (fun b c t f hb e => ?_) (fun e => ?_) (fun i e => ?_) (fun k hk e => ?_)
  · obtain ⟨_, o, ho, hc⟩ := hr b e
    rw [hb] at ho; cases ho; cases hc
  · have := (hr bm e).1; omega
  · have := (hr i e).1; omega
  · have := (hr k e).1; have := hds k hk; omega
theorem ST.addD (h : ST W w x bm S bs ds base vl L) {D : Nat} (hD : w.heap[D]? = some (.deferred (some []))) : ST W w x bm S bs (D :: ds) base vl L :=
  ⟨h.ix, h.box, h.row, h.keep, h.few, h.new, fun k hk => by rcases List.mem_cons.1 hk with rfl | hk; exact hD; exact h.nc k hk⟩

theorem st_first (h : Hid (ST W w x bm S bs ds base vl L)) : Calls Try.prog 9 #[] w fun e w' => e = .returned (.bool true) ∧ Hid (ST W w' x bm S bs ds base vl L) :=
  (first_any w).mono fun _ _ ⟨he, hk⟩ => ⟨he, h.out.grown hk⟩
theorem st_list (h : Hid (ST W w x bm S bs ds base vl L)) (d : Int) (M : List De) (hM : lstS S d = M) :
    Calls Try.prog 11 #[.pointer (some ⟨x, 0, none⟩), .int .i64 d] w fun e w' => ∃ p c, e = .returned (.slice p M.length c) ∧ Hid (ST W w' x bm S bs ds base vl L) ∧ Hid (DSl w' (.slice p M.length c) M) := by
  refine (list_any w x bm S h.out.ix d (by have := h.out.few; omega)).mono ?_
  rintro e w' ⟨v, rfl, H⟩
  subst hM
  obtain ⟨p, c, rfl⟩ := (DSl.of_row H.out.1 rfl).shape
  exact ⟨p, c, rfl, h.out.grown H.out.2, DSl.of_row H.out.1 rfl⟩
theorem st_copy (h : Hid (ST W w x bm S bs ds base vl L)) {v : Value} {M : List De} (hv : Hid (DSl w v M)) (hM : M.length < 4000000000000) :
    Calls Try.prog 20 #[v] w fun e w' => ∃ p c, e = .returned (.slice p M.length c) ∧ Hid (ST W w' x bm S bs ds w.heap.size (.slice p M.length c) M) := by
  refine (copy_any w v M hv.out (by omega)).mono ?_
  rintro e w' ⟨v', rfl, H⟩
  obtain ⟨p, c, rfl⟩ := H.out.1.dsl.shape
  have h' := h.out.grown H.out.2
  exact ⟨p, c, rfl, h'.ix, h'.box, H.out.1, h'.keep, h'.few, h'.new, h'.nc⟩
theorem st_same (h : Hid (ST W w x bm S bs ds base vl L)) {v1 : Value} {L1 : List De} (h1 : Hid (DSl w v1 L1)) (hl : L1.length < 4000000000000) (r : Bool) (hr : decide (L1 = L) = r) :
    Calls Try.prog 19 #[v1, vl] w fun e w' => e = .returned (.bool r) ∧ Hid (ST W w' x bm S bs ds base vl L) :=
  (same_any w v1 vl L1 L h1.out h.out.row.dsl (by omega)).mono fun _ _ ⟨he, hk⟩ => ⟨by rw [← hr]; exact he, h.out.grown hk⟩
theorem st_get (h : Hid (ST W w x bm S bs ds base vl L)) (d : Int) (hd : (Lit.int .i64 d).wf = true) (s : ByteArray) (E : Int) (hE : getS S d s = E) :
    Calls Try.prog 13 #[.pointer (some ⟨x, 0, none⟩), .int .i64 d, .string s] w fun e w' => e = .returned (.int .i64 E) ∧ Hid (ST W w' x bm S bs ds base vl L ∧ Keeps (fun _ => False) w w') :=
  (get_any w x bm S h.out.ix d hd s).mono fun _ _ ⟨he, hk⟩ => ⟨by rw [← hE]; exact he, h.out.grown hk, hk⟩
theorem st_put (h : Hid (ST W w x bm S bs ds base vl L)) (d : Int) (s : ByteArray) (n : Int) (E : Int) (S' : List Rw) (hE : putE S d s n = E) (hS : putS S d s n = S') (hl : S'.length < 4000000000000) :
    Calls Try.prog 18 #[.pointer (some ⟨x, 0, none⟩), .int .i64 d, .string s, .int .i64 n] w fun e w' => e = .returned (.int .i64 E) ∧ Hid (ST W w' x bm S' bs ds base vl L ∧ Keeps (fun k => k = bm) w w') :=
  (put_any w x bm S h.out.ix d s n (by have := h.out.few; omega)).mono fun _ _ ⟨he, hk⟩ => ⟨by rw [← hE]; exact he, by
    have := hk.out.1
    rw [hS] at this
    exact ⟨h.out.on this hk.out.2 hl, hk.out.2⟩⟩
theorem st_drop (h : Hid (ST W w x bm S bs ds base vl L)) (d : Int) (hd : (Lit.int .i64 d).wf = true) (s : ByteArray) (n E : Int) (S' : List Rw) (hn : getS S d s = n) (hE : dropE S d s = E) (hS : delS S d s = S') :
    Calls Try.prog 21 #[.pointer (some ⟨x, 0, none⟩), .int .i64 d, .string s] w fun e w' => e = .returned (.tuple #[.int .i64 n, .int .i64 E]) ∧ Hid (ST W w' x bm S' bs ds base vl L ∧ Keeps (fun k => k = bm) w w') :=
  (drop_any w x bm S h.out.ix d hd s).mono fun _ _ ⟨he, hk⟩ => ⟨by rw [← hE, ← hn]; exact he, by
    have := hk.out.1
    rw [hS] at this
    refine ⟨h.out.on this hk.out.2 ?_, hk.out.2⟩
    have h1 := h.out.few
    have : S'.length ≤ S.length := by rw [← hS]; exact List.length_filter_le ..
    omega⟩
theorem st_all (h : Hid (ST W w x bm S bs ds base vl L)) (d : Int) (most : Int) (M : List De) (hM : lstS S d = M) (hm : (M.length : Int) ≤ most) :
    Calls Try.prog 24 #[.pointer (some ⟨x, 0, none⟩), .int .i64 d, .int .i64 most] w fun e w' => ∃ p c, e = .returned (.slice p M.length c) ∧ Hid (ST W w' x bm S bs ds base vl L) ∧ Hid (DSl w' (.slice p M.length c) M) ∧ Hid (Keeps (fun _ => False) w w') := by
  subst hM
  refine (all_walk w x bm S h.out.ix d most (by have := h.out.few; omega) hm).mono ?_
  rintro e w' ⟨v, rfl, H⟩
  obtain ⟨p, c, rfl⟩ := (DSl.of_row H.out.1 rfl).shape
  exact ⟨p, c, rfl, h.out.grown H.out.2, DSl.of_row H.out.1 rfl, H.out.2⟩
end
theorem st_filled (W w : World) (k : Keeps (fun _ => False) W w) (p : Option Addr) (cap : Nat) (l : List OpT) (hp : OpIn w p l) (hn : l.length < 3000000000000) (bs : Bxs) (hb : ∀ q ∈ bs, Boxed w q.1 q.2.1 q.2.2 ∧ W.heap.size ≤ q.1) :
    Calls Try.prog 10 #[.slice p l.length cap] w fun e w' => e = .returned (.pointer (some ⟨w.heap.size + 1, 0, none⟩)) ∧ Hid (ST W w' (w.heap.size + 1) w.heap.size (fillS l) bs [] 0 (.slice none 0 0) []) := by
  refine (filled_any w p cap l hp hn).mono ?_
  rintro e w' ⟨rfl, H⟩
  refine ⟨rfl, H.out.1, fun q hq => ⟨H.out.2.at (hb q hq).1 id, (hb q hq).2⟩, ⟨rfl, Or.inl ⟨rfl, rfl⟩⟩, k.trans H.out.2, ?_, k.size, by simp⟩
  have := fillS_len l
  omega

/-- What a body that writes no row of names leaves. -/
def KpR (W W' : World) : Prop := ∀ (b : Nat) (c : Array Value), W.heap[b]? = some (.cells c 30 (0, 0)) → W'.heap[b]? = some (.cells c 30 (0, 0))
theorem KpR.trans {X Y Z : World} (h : KpR X Y) (k : KpR Y Z) : KpR X Z := fun b c hb => k b c (h b c hb)
theorem KpR.of {X : Nat → Prop} {W W' : World} (k : Keeps X W W') (hx : ∀ (b : Nat) (c : Array Value), W.heap[b]? = some (Obj.cells c 30 (0, 0)) → ¬ X b) : KpR W W' := fun b c hb => k.at hb (hx b c hb)
theorem kpR_b (w : World) (W : World) (l : Nat) (o o' : Obj) (_ : w.heap.size ≤ l) (h : W.heap[l]? = some o) (hc : o.isCells = false) (_ : o.isWalk = false) : KpR W (W.putObj l o') := by
  intro b c hb
  have hne : b ≠ l := by rintro rfl; rw [h] at hb; cases hb; cases hc
  exact (World.putObj_heap_other hne).trans hb
theorem all_stopsR (n Bx Bd x bm : Nat) (d : Int) (S : List Rw) (hl : S.length < 4000000000000) (w : World) (hBx : w.cell? ⟨Bx, 0, none⟩ = some (.pointer (some ⟨x, 0, none⟩))) (hBd : w.cell? ⟨Bd, 0, none⟩ = some (.int .i64 d)) (hI : IxAt w x bm S) :
    SeqStopsK Fence.wide n Try.prog 31 #[.pointer (some ⟨Bx, 0, none⟩), .pointer (some ⟨Bd, 0, none⟩)] encs KpR (fun ys => ys = lstS S d) (fun pre => pre <+: lstS S d) (lstS S d).length w := fun l J Jx W hW hJ _ hY h0 => by
  have hk := Keeps.of_below hW
  exact all1_in n l Bx Bd x bm d S hl J Jx _ hJ KpR (fun _ _ => True) (fun m pre x W1 hj hl => YieldAt.anyDepth rfl m (hY pre x W1 hj hl)) W (hk.cell hBx id) (hk.cell hBd id) (hI.keep hk id id) h0 (fun _ _ _ _ => trivial) (fun _ _ _ _ _ => trivial) (fun W1 W2 g c _ h1 hc => ⟨trivial, h1 g c hc⟩)
theorem keepsFrom_of {B : Nat} {X : Nat → Prop} {W W' : World} (k : Keeps X W W') (hx : ∀ i, X i → i < B ∨ ∃ c t f, W.heap[i]? = some (.cells c t f)) : KeepsFrom B W W' :=
  ⟨k.size, fun i o hB hi ho => k.at hi (fun hX => by
    rcases hx i hX with h | ⟨c, t, f, h⟩
    · omega
    · rw [hi] at h; cases h; cases ho)⟩
/-- The law of a range over a function, the frame of a round being made of the loop's own. -/
theorem rangeFunc_f {F : Fence} {n : Nat} {P : Program} {α : Type} {g : Operand} {ps : Array Tmp} {assign body : Code} {Q : Exit → Act → World → Prop} {a : Act} {w : World}
    (hro : F.round = none) (h1 : 1 ≤ n) {gf : Nat} {lb : Array Value} (hg : a.eval g = .func (.func gf) #[] lb) (hFg : F.fn gf) (eg : ∀ args w, (callFunc gf args).run P w = .ok (.enter gf args) w)
    {encs : α → Array Value} {Kp : World → World → Prop} {S Sp : List α → Prop} {N : Nat} {w0 : World} (hseq : SeqStopsK F (n - 1) P gf lb encs Kp S Sp N w0)
    (hKt : ∀ {A B C : World}, Kp A B → Kp B C → Kp A C) (hKb : ∀ (W : World) (l : Nat) (o o' : Obj), w.heap.size ≤ l → W.heap[l]? = some o → o.isCells = false → o.isWalk = false → Kp W (W.putObj l o')) (hb0 : Below w0.heap.size w0 w) (hps : ∀ x, (encs x).size = ps.size)
    (I : List α → World → Prop) (Ix : Code → List α → World → Prop) (hI : OwnFrom w.heap.size I) (hIx : ∀ c, OwnFrom w.heap.size (Ix c)) (h0 : I [] w) (f : α → Array Value → Array Value)
    (hassign : ∀ (l : Nat) (x : α) (W : World) (K : Act → World → Prop), K { tmps := f x a.tmps, defers := [] } W →
      assign.wpIn (F.inRound l) (n - 1 - 1) P (Exit.then K (fun _ _ _ => False)) { tmps := (ps.zip (encs x)).foldl (fun t (p, v) => t.setIfInBounds p v) a.tmps, defers := [] } W)
    (hbody : ∀ (l : Nat) (pre : List α) (x : α) (W : World), I pre W → pre.length < N → body.wpIn (F.inRound l) (n - 1 - 1) P (ownPostG w.heap.size Kp I Ix (pre ++ [x]) W) { tmps := f x a.tmps, defers := [] } W)
    (hdone : ∀ (D : Nat) (xs : List α) (W : World), w.heap.size ≤ D → S xs → I xs W → W.heap[D]? = some (.deferred (some [])) → Q .normal { a with defers := { target := .collected D, args := #[] } :: a.defers } W)
    (hstop : ∀ (D : Nat) (c : Code) (pre : List α) (W : World), w.heap.size ≤ D → Sp pre → Ix c pre W → W.heap[D]? = some (.deferred (some [])) → c.wpIn F n P Q { a with defers := { target := .collected D, args := #[] } :: a.defers } W) :
    (Code.rangeFunc g ps assign body).wpIn F n P Q a w :=
  wpIn_rangeFunc_ownG hro h1 hg hFg eg hseq hKt hKb hb0 hps I Ix hI hIx h0 (fun x => { tmps := f x a.tmps, defers := [] }) hassign hbody hdone hstop

theorem prefix_snoc_get {α : Type} {l L : List α} {x : α} (h : l ++ [x] <+: L) : L[l.length]? = some x := by
  obtain ⟨t, rfl⟩ := h
  simp
theorem prefix_get_snoc {α : Type} {l L : List α} {x : α} (h : l <+: L) (hx : L[l.length]? = some x) : l ++ [x] <+: L := by
  obtain ⟨t, rfl⟩ := h
  cases t with
  | nil => simp at hx
  | cons y t =>
    have : y = x := by simpa using hx
    subst this
    exact ⟨t, by simp⟩
/-- .. where every way out leads to the same place. -/
theorem rangeFunc_m {F : Fence} {n : Nat} {P : Program} {α : Type} {g : Operand} {ps : Array Tmp} {assign body : Code} {Q : Exit → Act → World → Prop} {a : Act} {w : World}
    (hro : F.round = none) (h1 : 1 ≤ n) {gf : Nat} {lb : Array Value} (hg : a.eval g = .func (.func gf) #[] lb) (hFg : F.fn gf) (eg : ∀ args w, (callFunc gf args).run P w = .ok (.enter gf args) w)
    {encs : α → Array Value} {Kp : World → World → Prop} {S Sp : List α → Prop} {N : Nat} {w0 : World} (hseq : SeqStopsK F (n - 1) P gf lb encs Kp S Sp N w0)
    (hKt : ∀ {A B C : World}, Kp A B → Kp B C → Kp A C) (hKb : ∀ (W : World) (l : Nat) (o o' : Obj), w.heap.size ≤ l → W.heap[l]? = some o → o.isCells = false → o.isWalk = false → Kp W (W.putObj l o')) (hb0 : Below w0.heap.size w0 w) (hps : ∀ x, (encs x).size = ps.size)
    (I : List α → World → Prop) (Ix : Code → List α → World → Prop) (hI : OwnFrom w.heap.size I) (hIx : ∀ c, OwnFrom w.heap.size (Ix c)) (h0 : I [] w) (f : α → Array Value → Array Value) (M : World → Prop) (lab : Nat)
    (hdone : ∀ xs W, S xs → I xs W → M W) (hstop : ∀ c pre W, Sp pre → Ix c pre W → c = .exit lab ∧ M W) (hQ : ∀ a W, Q .normal a W → Q (.exit lab) a W)
    (hassign : ∀ (l : Nat) (x : α) (W : World) (K : Act → World → Prop), K { tmps := f x a.tmps, defers := [] } W →
      assign.wpIn (F.inRound l) (n - 1 - 1) P (Exit.then K (fun _ _ _ => False)) { tmps := (ps.zip (encs x)).foldl (fun t (p, v) => t.setIfInBounds p v) a.tmps, defers := [] } W)
    (hbody : ∀ (l : Nat) (pre : List α) (x : α) (W : World), I pre W → pre.length < N → body.wpIn (F.inRound l) (n - 1 - 1) P (ownPostG w.heap.size Kp I Ix (pre ++ [x]) W) { tmps := f x a.tmps, defers := [] } W)
    (hrest : ∀ (D : Nat) (W : World), w.heap.size ≤ D → W.heap[D]? = some (.deferred (some [])) → M W → Q .normal { a with defers := { target := .collected D, args := #[] } :: a.defers } W) :
    (Code.rangeFunc g ps assign body).wpIn F n P Q a w :=
  rangeFunc_f hro h1 hg hFg eg hseq hKt hKb hb0 hps I Ix hI hIx h0 f hassign hbody (fun D xs W hD hS hi hK => hrest D W hD hK (hdone xs W hS hi))
    (fun D c pre W hD hS hx hK => by
      obtain ⟨rfl, hM⟩ := hstop c pre W hS hx
      exact wpIn_exit (hQ _ _ (hrest D W hD hK hM)))

end Go.Proofs.Ytendmohjodeelaa
