import Derived.Test.YtndojlacdggfcaaQ0
import Derived.Deep.AppendLies
import Derived.Deep.RegionHeld3
namespace Go.Proofs.Ytndojlacdggfcaa
open Go.RowKit Go.Maps Go.Shelf

section
variable {P : Program} (w : World)

/-- append of a list, of nothing too, to a row of the call's own. -/
theorem run_append_any (base : Nat) (t ty e : TypeId) (i : TypeInfo) (z : Value) (size bytes : Nat) (ht : P.underlying t = some (.slice e)) (hi : P.info? e = some i) (hz : i.zero = some z)
    (hsize : i.size = size) (hby : i.bytes = bytes) (hzs : z.cells.size = size) (hsz : 0 < size) (v : Value) (n : Nat) (xs : List Value) (hown : w.ownsRow base e size v n xs) (p : Option Addr) (m c : Nat) (news : List Value) (hl : news.length = m * size)
    (hx : 0 < m → ∃ ad, p = some ad ∧ ∀ j u, news[j]? = some u → w.cell? (ad.add j) = some u) (h1 : ∀ u ∈ news, u.oneCell' = true) (h63 : n + m ≤ maxLen) (hbytes : (n + m) * bytes ≤ 140737488355328) (hbase : base ≤ w.heap.size) :
    ∃ v' w', (Builtin.append_ #[t, t] ty #[v, .slice p m c]).run P w = .ok v' w' ∧ w'.ownsRow base e size v' (n + m) (xs ++ news) ∧ w.grownBy w' v.ownBlock := by
  rcases p with _ | ad
  · have hm : m = 0 := by
      rcases Nat.eq_zero_or_pos m with h | h
      · exact h
      · obtain ⟨ad, h2, _⟩ := hx h; cases h2
    subst hm
    have hx0 : news = [] := List.length_eq_zero_iff.1 (by simpa using hl)
    subst hx0
    have hsame : w.grownBy w v.ownBlock := ⟨rfl, rfl, rfl, Nat.le_refl _, fun _ _ _ => rfl⟩
    refine ⟨v, w, ?_, by simpa using hown, hsame⟩
    rcases hown.2 with ⟨rfl, _⟩ | ⟨g, cap, cur, rfl, _, _, hle, _⟩
    · cases c <;> simp [Builtin.append_, run_underlying ht, sizeOf, typeInfo, hi, Builtin.lenOf, Builtin.firstCells]
    · cases c <;> simp [Builtin.append_, run_underlying ht, sizeOf, typeInfo, hi, Builtin.lenOf, Builtin.firstCells, hle, storeCells]
  · have hnews : ∀ j u, news[j]? = some u → w.cell? (ad.add j) = some u := by
      rcases Nat.eq_zero_or_pos m with h | h
      · subst h
        have hx0 : news = [] := List.length_eq_zero_iff.1 (by simpa using hl)
        intro j u hj; rw [hx0] at hj; simp at hj
      · obtain ⟨ad', h2, h3⟩ := hx h
        cases h2; exact h3
    obtain ⟨v', w', hr, h2, h3, _, _⟩ := run_append_own_at (P := P) w base t ty e i z size bytes ht hi hz hsize hby hzs hsz v n xs hown ad m c news hl hnews h1 h63 hbytes hbase
    exact ⟨v', w', hr, h2, h3⟩

theorem wpList_append_any {ops : Array Oper} {rest : List Oper} {o : Oper} {a : Act} {Q : Exit → Act → World → Prop} (hgd : o.guard = none) (s x : Operand) (t : TypeId)
    (ho : o.op = .call { callee := .builtin .append, args := #[s, x], argTypes := #[t, t] }) (base : Nat)
    (e : TypeId) (i : TypeInfo) (z : Value) (size bytes : Nat) (ht : P.underlying t = some (.slice e)) (hi : P.info? e = some i) (hz : i.zero = some z)
    (hsize : i.size = size) (hby : i.bytes = bytes) (hzs : z.cells.size = size) (hsz : 0 < size) (v : Value) (n : Nat) (xs : List Value) (hs : a.eval s = v) (hown : w.ownsRow base e size v n xs) (p : Option Addr) (m c : Nat) (news : List Value) (hx : a.eval x = .slice p m c) (hl : news.length = m * size)
    (hc : 0 < m → ∃ ad, p = some ad ∧ ∀ j u, news[j]? = some u → w.cell? (ad.add j) = some u) (h1 : ∀ u ∈ news, u.oneCell' = true) (h63 : n + m ≤ maxLen) (hbytes : (n + m) * bytes ≤ 140737488355328) (hbase : base ≤ w.heap.size)
    (h : ∀ v' w', w'.ownsRow base e size v' (n + m) (xs ++ news) → w.grownBy w' v.ownBlock → wpList P ops Q rest (a.put o.dst v') w') : wpList P ops Q (o :: rest) a w := by
  refine wpList_plain hgd fun K hK => ?_
  obtain ⟨v', w', hr, h2, h3⟩ := run_append_any (P := P) w base t o.type e i z size bytes ht hi hz hsize hby hzs hsz v n xs hown p m c news hl hc h1 h63 hbytes hbase
  unfold Oper.wp execOp
  simp only [ho, resolve, invoke, builtin, Sem.run_bind, Sem.run_pure, Result.andThen_ok, List.map_toArray, List.map_cons, List.map_nil, hs, hx, hr]
  exact hK _ _ (h v' w' h2 h3)

end

theorem keepsFrom_of {B : Nat} {X : Nat → Prop} {W W' : World} (k : Keeps X W W') (hx : ∀ i, X i → i < B ∨ ∃ c t f, W.heap[i]? = some (.cells c t f)) : KeepsFrom B W W' :=
  ⟨k.size, fun i o hB hi ho => k.at hi (fun hX => by
    rcases hx i hX with h | ⟨c, t, f, h⟩
    · omega
    · rw [hi] at h; cases h; cases ho)⟩
/-- The law of a range over a function, the frame of a round being made of the loop's own. -/
theorem rangeFunc_f {F : Fence} {n : Nat} {P : Program} {α : Type} {g : Operand} {ps : Array Tmp} {assign body : Code} {Q : Exit → Act → World → Prop} {a : Act} {w : World}
    (hro : F.round = none) (h1 : 1 ≤ n) {gf : Nat} {lb : Array Value} (hg : a.eval g = .func (.func gf) #[] lb) (hFg : F.fn gf) (eg : ∀ args w, (callFunc gf args).run P w = .ok (.enter gf args) w)
    {encs : α → Array Value} {Kp : World → World → Prop} {S Sp : List α → Prop} {N : Nat} {w0 : World} (hseq : SeqStopsK F (n - 1) P gf lb encs Kp S Sp N w0)
    (hKt : ∀ {A B C : World}, Kp A B → Kp B C → Kp A C) (hKb : ∀ (W : World) (l : Nat) (o o' : Obj), w.heap.size ≤ l → W.heap[l]? = some o → o.isCells = false → o.isWalk = false → Kp W (W.putObj l o')) (hb0 : Below w0.heap.size w0 w) (hps : ∀ x, (encs x).size = ps.size)
    (I : List α → World → Prop) (Ix : Code → List α → World → Prop) (hI : OwnFrom w.heap.size I) (hIx : ∀ c, OwnFrom w.heap.size (Ix c)) (h0 : I [] w) (f : α → Array Value → Array Value)
    (hassign : ∀ (l : Nat) (x : α) (W : World) (K : Act → World → Prop), K { tmps := f x a.tmps, defers := [] } W →
      assign.wpIn (F.inRound l) (n - 1 - 1) P (Exit.then K (fun _ _ _ => False)) { tmps := (ps.zip (encs x)).foldl (fun t (p, v) => t.setIfInBounds p v) a.tmps, defers := [] } W)
    (hbody : ∀ (l : Nat) (pre : List α) (x : α) (W : World), I pre W → pre.length < N → body.wpIn (F.inRound l) (n - 1 - 1) P (ownPostG w.heap.size Kp I Ix (pre ++ [x]) W) { tmps := f x a.tmps, defers := [] } W)
    (hdone : ∀ (D : Nat) (xs : List α) (W : World), w.heap.size ≤ D → S xs → I xs W → W.heap[D]? = some (.deferred (some [])) → Q .normal { a with defers := { target := .collected D, args := #[] } :: a.defers } W)
    (hstop : ∀ (D : Nat) (c : Code) (pre : List α) (W : World), w.heap.size ≤ D → Sp pre → Ix c pre W → W.heap[D]? = some (.deferred (some [])) → c.wpIn F n P Q { a with defers := { target := .collected D, args := #[] } :: a.defers } W) :
    (Code.rangeFunc g ps assign body).wpIn F n P Q a w :=
  wpIn_rangeFunc_ownG hro h1 hg hFg eg hseq hKt hKb hb0 hps I Ix hI hIx h0 (fun x => { tmps := f x a.tmps, defers := [] }) hassign hbody hdone hstop

theorem prefix_snoc_get {α : Type} {l L : List α} {x : α} (h : l ++ [x] <+: L) : L[l.length]? = some x := by
  obtain ⟨t, rfl⟩ := h
  simp
theorem prefix_get_snoc {α : Type} {l L : List α} {x : α} (h : l <+: L) (hx : L[l.length]? = some x) : l ++ [x] <+: L := by
  obtain ⟨t, rfl⟩ := h
  cases t with
  | nil => simp at hx
  | cons y t =>
    have : y = x := by simpa using hx
    subst this
    exact ⟨t, by simp⟩
/-- .. where every way out leads to the same place. -/
theorem rangeFunc_m {F : Fence} {n : Nat} {P : Program} {α : Type} {g : Operand} {ps : Array Tmp} {assign body : Code} {Q : Exit → Act → World → Prop} {a : Act} {w : World}
    (hro : F.round = none) (h1 : 1 ≤ n) {gf : Nat} {lb : Array Value} (hg : a.eval g = .func (.func gf) #[] lb) (hFg : F.fn gf) (eg : ∀ args w, (callFunc gf args).run P w = .ok (.enter gf args) w)
    {encs : α → Array Value} {Kp : World → World → Prop} {S Sp : List α → Prop} {N : Nat} {w0 : World} (hseq : SeqStopsK F (n - 1) P gf lb encs Kp S Sp N w0)
    (hKt : ∀ {A B C : World}, Kp A B → Kp B C → Kp A C) (hKb : ∀ (W : World) (l : Nat) (o o' : Obj), w.heap.size ≤ l → W.heap[l]? = some o → o.isCells = false → o.isWalk = false → Kp W (W.putObj l o')) (hb0 : Below w0.heap.size w0 w) (hps : ∀ x, (encs x).size = ps.size)
    (I : List α → World → Prop) (Ix : Code → List α → World → Prop) (hI : OwnFrom w.heap.size I) (hIx : ∀ c, OwnFrom w.heap.size (Ix c)) (h0 : I [] w) (f : α → Array Value → Array Value) (M : World → Prop) (lab : Nat)
    (hdone : ∀ xs W, S xs → I xs W → M W) (hstop : ∀ c pre W, Sp pre → Ix c pre W → c = .exit lab ∧ M W) (hQ : ∀ a W, Q .normal a W → Q (.exit lab) a W)
    (hassign : ∀ (l : Nat) (x : α) (W : World) (K : Act → World → Prop), K { tmps := f x a.tmps, defers := [] } W →
      assign.wpIn (F.inRound l) (n - 1 - 1) P (Exit.then K (fun _ _ _ => False)) { tmps := (ps.zip (encs x)).foldl (fun t (p, v) => t.setIfInBounds p v) a.tmps, defers := [] } W)
    (hbody : ∀ (l : Nat) (pre : List α) (x : α) (W : World), I pre W → pre.length < N → body.wpIn (F.inRound l) (n - 1 - 1) P (ownPostG w.heap.size Kp I Ix (pre ++ [x]) W) { tmps := f x a.tmps, defers := [] } W)
    (hrest : ∀ (D : Nat) (W : World), w.heap.size ≤ D → W.heap[D]? = some (.deferred (some [])) → M W → Q .normal { a with defers := { target := .collected D, args := #[] } :: a.defers } W) :
    (Code.rangeFunc g ps assign body).wpIn F n P Q a w :=
  rangeFunc_f hro h1 hg hFg eg hseq hKt hKb hb0 hps I Ix hI hIx h0 f hassign hbody (fun D xs W hD hS hi hK => hrest D W hD hK (hdone xs W hS hi))
    (fun D c pre W hD hS hx hK => by
      obtain ⟨rfl, hM⟩ := hstop c pre W hS hx
      exact wpIn_exit (hQ _ _ (hrest D W hD hK hM)))


theorem row_obj {W : World} {base : Nat} {e : TypeId} {size : Nat} {v : Value} {n : Nat} {xs : List Value} {gb : Nat} (h : W.ownsRow base e size v n xs) (hg : v.ownBlock = some gb) : ∃ cur, W.heap[gb]? = some (.cells cur e (0, 0)) := by
  rcases h.2 with ⟨rfl, _⟩ | ⟨g', cap, cur, rfl, _, hgb, _⟩
  · cases hg
  · cases hg; exact ⟨cur, hgb⟩

abbrev Bxs := List (Nat × TypeId × Value)
/-- The tree, boxes, deferred blocks. -/
structure TT (W w : World) (t : Nat) (f : Nat → Int) (bs : Bxs) (ds : List Nat) : Prop where
  tree : TreeAt w t f
  box : ∀ q ∈ bs, Boxed w q.1 q.2.1 q.2.2 ∧ W.heap.size ≤ q.1
  keep : Keeps (fun _ => False) W w
  new : W.heap.size ≤ t
  nc : ∀ k ∈ ds, w.heap[k]? = some (.deferred (some []))
section
variable {W w w' : World} {t : Nat} {f : Nat → Int} {bs : Bxs} {ds : List Nat}
theorem TreeAt.past {X : Nat → Prop} (h : TreeAt w t f) (k : Keeps X w w') (hc : ∀ (b : Nat) (c : Array Value) (t : TypeId), t = 102 ∨ t = 73 → w.heap[b]? = some (.cells c t (0, 0)) → ¬ X b) : TreeAt w' t f := by
  refine h.keepN (fun b q u hn => k.at (show w.heap[b]? = _ from hn) (hc b _ _ (.inl rfl) hn)) (k.block _ h.lt ?_)
  obtain ⟨p, v, ht, _⟩ := h
  exact hc _ _ _ (.inr rfl) ht
theorem TT.past {X : Nat → Prop} (h : TT W w t f bs ds) (k : Keeps X w w') (hc : ∀ (b : Nat) (c : Array Value) (t : TypeId), w.heap[b]? = some (.cells c t (0, 0)) → ¬ X b) (hw : ∀ i, X i → W.heap.size ≤ i) (hn : ∀ k ∈ ds, ¬ X k) : TT W w' t f bs ds :=
  ⟨h.tree.past k (fun b c t _ hb => hc b c t hb), fun q hq => ⟨k.at (h.box q hq).1 (hc _ _ _ (h.box q hq).1), (h.box q hq).2⟩, h.keep.then k (fun i hi => Or.inr (hw i hi)), h.new, fun j hj => k.at (h.nc j hj) (hn j hj)⟩
theorem TT.grown (h : TT W w t f bs ds) (k : Keeps (fun _ => False) w w') : TT W w' t f bs ds := h.past k (fun _ _ _ _ h => h) (fun _ h => h.elim) (fun _ _ h => h)
theorem TT.drewN (h : TT W w t f bs ds) (n : Nat) : TT W (w.drewN n) t f bs ds := h.grown (Keeps.drewN (fun _ => False) w n)
theorem TT.bx (h : TT W w t f bs ds) {b : Nat} {ty : TypeId} {v : Value} (hm : (b, ty, v) ∈ bs) : Boxed w b ty v := (h.box _ hm).1
theorem TT.newb (h : TT W w t f bs ds) (ty : TypeId) (v : Value) : TT W (w.alloc (.cells #[v] ty)) t f ((w.heap.size, ty, v) :: bs) ds := by
  have h' := h.grown (Keeps.new w (.cells #[v] ty))
  refine ⟨h'.tree, fun q hq => ?_, h'.keep, h'.new, h'.nc⟩
  rcases List.mem_cons.1 hq with rfl | hq
  · exact ⟨Boxed.new w ty v, h.keep.size⟩
  · exact h'.box q hq
theorem TT.sub (h : TT W w t f bs ds) {bs' : Bxs} (hs : ∀ q ∈ bs', q ∈ bs) : TT W w t f bs' ds := ⟨h.tree, fun q hq => h.box q (hs q hq), h.keep, h.new, h.nc⟩
theorem TT.addD (h : TT W w t f bs ds) {D : Nat} (hD : w.heap[D]? = some (.deferred (some []))) : TT W w t f bs (D :: ds) :=
  ⟨h.tree, h.box, h.keep, h.new, fun k hk => by rcases List.mem_cons.1 hk with rfl | hk; exact hD; exact h.nc k hk⟩
theorem TT.set (h : TT W w t f bs ds) {b : Nat} {ty : TypeId} {v : Value} (v' : Value) (hm : (b, ty, v) ∈ bs) (h1 : ty ≠ 102) (h2 : ty ≠ 73) {bs' : Bxs} (hb' : ∀ q ∈ bs', q = (b, ty, v') ∨ (q ∈ bs ∧ q.1 ≠ b)) : TT W (w.setCell ⟨b, 0, none⟩ v') t f bs' ds := by
  have hb := h.bx hm
  have k := one_keeps' w b 0 v'
  refine ⟨h.tree.past k ?_, fun q hq => ?_, h.keep.then k (fun i e => Or.inr (by subst e; exact (h.box _ hm).2)), h.new, fun j hj => k.at (h.nc j hj) (fun e => by subst e; have := (h.nc j hj).symm.trans hb; cases this)⟩
  · rintro b' c ty' ht hc rfl
    have := (show w.heap[b']? = _ from hb).symm.trans hc
    simp at this
    rcases ht with e | e
    · exact h1 (this.2.trans e)
    · exact h2 (this.2.trans e)
  · rcases hb' q hq with rfl | ⟨hq1, hne⟩
    · exact ⟨hb.set v', (h.box _ hm).2⟩
    · exact ⟨(h.box q hq1).1.other hne v', (h.box q hq1).2⟩
/-- The tree was turned. -/
theorem TT.turn {f' : Nat → Int} (h : TT W w t f bs ds) (k : Keeps (fun c => c = t) w w') (hT : TreeAt w' t f') : TT W w' t f' bs ds := by
  obtain ⟨p, v, ht, _⟩ := id h.tree
  refine ⟨hT, fun q hq => ⟨k.at (h.box q hq).1 (fun e => ?_), (h.box q hq).2⟩, h.keep.then k (by rintro c rfl; exact .inr h.new), h.new, fun j hj => k.at (h.nc j hj) (fun e => by subst e; have := (h.nc j hj).symm.trans ht; cases this)⟩
  have := (show w.heap[q.1]? = _ from (h.box q hq).1).symm.trans (e ▸ ht)
  simp at this
theorem TT.own {B : Nat} (hB : W.heap.size ≤ B) (hds : ∀ k ∈ ds, k < B) {row : Option Nat} (h : TT W w t f bs ds) (hg : w.grownBy w' row) (hr : ∀ r, row = some r → B ≤ r ∧ ∃ o : Obj, w.heap[r]? = some o ∧ o.isCells = false) : TT W w' t f bs ds := by
  refine h.past (X := fun c => row = some c) (Keeps.of hg (fun k hk => Or.inl hk)) (fun b c t hb e => ?_) (fun i e => ?_) (fun k hk e => ?_)
  · obtain ⟨_, o, ho, hc⟩ := hr b e
    rw [hb] at ho; cases ho; cases hc
  · have := (hr i e).1; omega
  · have := (hr k e).1; have := hds k hk; omega
theorem tt_get (h : Hid (TT W w t f bs ds)) (x : Int) (E : Int) (hE : getF f x = E) :
    Calls Try.prog 13 #[.pointer (some ⟨t, 0, none⟩), .int .i64 x] w fun e w' => e = .returned (.int .i64 E) ∧ Hid (TT W w' t f bs ds ∧ Keeps (fun _ => False) w w') :=
  (get_any w t f x h.out.tree).mono fun _ _ ⟨he, hk⟩ => ⟨by rw [← hE]; exact he, h.out.grown hk, hk⟩
theorem tt_set (h : Hid (TT W w t f bs ds)) (x y : Int) :
    Calls Try.prog 12 #[.pointer (some ⟨t, 0, none⟩), .int .i64 x, .int .i64 y] w fun e w' => ∃ v, e = .returned v ∧ Hid (TT W w' t (setF f x y) bs ds) :=
  (set_any w t f x y h.out.tree).mono fun _ _ ⟨he, hk, hT⟩ => ⟨_, he, h.out.turn hk hT⟩
theorem tt_cut (h : Hid (TT W w t f bs ds)) (x : Int) :
    Calls Try.prog 11 #[.pointer (some ⟨t, 0, none⟩), .int .i64 x] w fun e w' => ∃ v, e = .returned v ∧ Hid (TT W w' t (cutF f 0 x) bs ds) :=
  (cut_any w t x f h.out.tree).mono fun _ _ ⟨s, he, hk, hT, _⟩ => ⟨s, he, h.out.turn hk hT⟩
end

/-! A list of steps as cells; two lists one behind the other. -/
def pcells (l : List Put) : List Value := l.flatMap fun q => [.bool q.1, .int .i64 q.2.1, .int .i64 q.2.2]
theorem pcells_len (l : List Put) : (pcells l).length = l.length * 3 := by
  induction l with
  | nil => rfl
  | cons a l ih => simp only [pcells, List.flatMap_cons, List.length_append] at ih ⊢; rw [ih]; simp; omega
theorem pcells_append (a b : List Put) : pcells (a ++ b) = pcells a ++ pcells b := by simp [pcells]
theorem pcells_get : ∀ (l : List Put) (i : Nat), i < l.length → (pcells l)[i * 3]? = some (.bool (l.getD i d0).1) ∧ (pcells l)[i * 3 + 1]? = some (.int .i64 (l.getD i d0).2.1) ∧ (pcells l)[i * 3 + 2]? = some (.int .i64 (l.getD i d0).2.2)
  | [], i, h => by simp at h
  | a :: l, 0, _ => ⟨rfl, rfl, rfl⟩
  | a :: l, i + 1, h => by
    have ih := pcells_get l i (by simpa using h)
    have e : ∀ j, (pcells (a :: l))[(i + 1) * 3 + j]? = (pcells l)[i * 3 + j]? := fun j => by
      show ([.bool a.1, .int .i64 a.2.1, .int .i64 a.2.2] ++ pcells l)[(i + 1) * 3 + j]? = _
      rw [List.getElem?_append_right (by simp; omega)]
      congr 1
      simp; omega
    exact ⟨(e 0).trans ih.1, (e 1).trans ih.2.1, (e 2).trans ih.2.2⟩
theorem pcells_one (l : List Put) : ∀ u ∈ pcells l, u.oneCell' = true := by
  intro u hu
  simp only [pcells, List.mem_flatMap] at hu
  obtain ⟨q, _, hq⟩ := hu
  simp at hq
  rcases hq with rfl | rfl | rfl <;> rfl
theorem pcells_split : ∀ (l : List Put) (j : Nat) (u : Value), (pcells l)[j]? = some u → ∃ i, i < l.length ∧ (j = i * 3 ∧ u = .bool (l.getD i d0).1 ∨ j = i * 3 + 1 ∧ u = .int .i64 (l.getD i d0).2.1 ∨ j = i * 3 + 2 ∧ u = .int .i64 (l.getD i d0).2.2) := by
  intro l j u h
  have hj := (List.getElem?_eq_some_iff.1 h).1
  rw [pcells_len] at hj
  have hi : j / 3 < l.length := by omega
  obtain ⟨g0, g1, g2⟩ := pcells_get l (j / 3) hi
  refine ⟨j / 3, hi, ?_⟩
  have : j % 3 = 0 ∨ j % 3 = 1 ∨ j % 3 = 2 := by omega
  rcases this with e | e | e
  · left; refine ⟨by omega, ?_⟩
    rw [show j = j / 3 * 3 by omega, g0] at h; exact (Option.some.inj h).symm
  · right; left; refine ⟨by omega, ?_⟩
    rw [show j = j / 3 * 3 + 1 by omega, g1] at h; exact (Option.some.inj h).symm
  · right; right; refine ⟨by omega, ?_⟩
    rw [show j = j / 3 * 3 + 2 by omega, g2] at h; exact (Option.some.inj h).symm
theorem PutsIn.news {w : World} {p : Option Addr} {l : List Put} (h : PutsIn w p l) : 0 < l.length → ∃ ad, p = some ad ∧ ∀ j u, (pcells l)[j]? = some u → w.cell? (ad.add j) = some u := by
  intro h0
  obtain ⟨b, o, e, _, hc⟩ := h h0
  refine ⟨⟨b, o, none⟩, e, fun j u hj => ?_⟩
  have hadd : (⟨b, o, none⟩ : Addr).add j = ⟨b, o + j, none⟩ := by unfold Addr.add; split <;> simp_all
  rw [hadd]
  obtain ⟨i, hi, h1 | h1 | h1⟩ := pcells_split l j u hj
  · rw [h1.1, h1.2]; exact (hc i hi).1
  · rw [h1.1, h1.2, ← Nat.add_assoc]; exact (hc i hi).2.1
  · rw [h1.1, h1.2, ← Nat.add_assoc]; exact (hc i hi).2.2
theorem puts_of_row {w : World} {base : Nat} {v : Value} {l : List Put} (h : w.ownsRow base 30 3 v l.length (pcells l)) : ∃ p cap, v = .slice p l.length cap ∧ PutsIn w p l := by
  rcases h.2 with ⟨rfl, h0⟩ | ⟨g, cap, cur, rfl, hg, hb, h1⟩
  · exact ⟨none, 0, by rw [h0], fun h => absurd h (by omega)⟩
  · refine ⟨_, cap, rfl, fun _ => ⟨g, 0, rfl, heap_lt hb, fun i hi => ?_⟩⟩
    obtain ⟨g0, g1, g2⟩ := pcells_get l i hi
    simp only [Nat.zero_add]
    exact ⟨by rw [World.ownsRow.cellAt h (i * 3) (by omega)]; exact g0, by rw [World.ownsRow.cellAt h (i * 3 + 1) (by omega)]; exact g1, by rw [World.ownsRow.cellAt h (i * 3 + 2) (by omega)]; exact g2⟩
theorem info30P : (Try.prog.info? 30).map (fun i => (i.zero, i.size, i.bytes)) = some (some (.agg #[.bool false, .int .i64 0, .int .i64 0]), 3, 24) := by kernel_rfl

end Go.Proofs.Ytndojlacdggfcaa
