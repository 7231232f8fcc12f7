import Derived.Test.YtndojlacdggfcaaY1
import Derived.Laws.EntriesVeiled
import Derived.Deep.CutRange
namespace Go.Proofs.Ytndojlacdggfcaa
open Go.RowKit Go.Maps Go.Shelf

def fnv (b7 : Nat) : Value := .func (.func 31) #[] #[.pointer (some ⟨b7 + 1, 0, none⟩), .pointer (some ⟨b7 + 2, 0, none⟩)]
/-- The boxes that stay: where the walk begins, the answer, the tree, From's two, the function. -/
def lb0 (t b5 b7 : Nat) (lo : Int) : Bxs := [(b7 + 3, 27, fnv b7), (b7 + 2, 3, .int .i64 lo), (b7 + 1, 23, .pointer (some ⟨t, 0, none⟩)), (b7, 23, .pointer (some ⟨t, 0, none⟩)), (b5 + 1, 4, .bool false), (b5, 3, .int .i64 lo)]

theorem TT.row30 {W w w' : World} {t : Nat} {f : Nat → Int} {bs : Bxs} {ds : List Nat} {v : Value} {base n : Nat} {xs : List Value} (h : TT W w t f bs ds) (hg : w.grownBy w' v.ownBlock) (hr : w.ownsRow base 30 3 v n xs) (hb : W.heap.size ≤ base) (hbs : ∀ q ∈ bs, q.2.1 ≠ 30) : TT W w' t f bs ds := by
  have kk : Keeps (fun c => v.ownBlock = some c) w w' := Keeps.of hg (fun k hk => Or.inl hk)
  refine ⟨h.tree.past kk ?_, fun q hq => ⟨kk.at (h.box q hq).1 (fun e => ?_), (h.box q hq).2⟩, h.keep.then kk (fun i e => Or.inr (Nat.le_trans hb (World.ownsRow.lt hr i e).1)), h.new, fun j hj => kk.at (h.nc j hj) (fun e => ?_)⟩
  · intro b c ty ht hc e
    obtain ⟨cur, ho⟩ := row_obj hr e
    have := ho.symm.trans hc
    simp at this
    rcases ht with e | e
    · exact absurd (this.2.trans e) (by decide)
    · exact absurd (this.2.trans e) (by decide)
  · obtain ⟨cur, ho⟩ := row_obj hr e
    have := ho.symm.trans (show w.heap[q.1]? = _ from (h.box q hq).1)
    simp at this
    exact hbs q hq this.2.symm
  · obtain ⟨cur, ho⟩ := row_obj hr e
    have := ho.symm.trans (h.nc j hj)
    cases this
theorem lb0_not30 (t b5 b7 : Nat) (lo : Int) : ∀ q ∈ lb0 t b5 b7 lo, q.2.1 ≠ 30 := by
  intro q hq
  simp only [lb0, List.mem_cons, List.mem_nil_iff, or_false] at hq
  rcases hq with rfl | rfl | rfl | rfl | rfl | rfl <;> simp
/-- What More's steps make of the tree. -/
def laterF (l lm : List Put) (i : Nat) : Nat → Int := (lm.take i).foldl stepF (play (l.take 400))
theorem laterF_step (l : List Put) {lm : List Put} {i : Nat} (h : i < lm.length) : laterF l lm (i + 1) = stepF (laterF l lm i) (lm.getD i d0) := by
  unfold laterF; rw [take_getD d0 h, List.foldl_append]; rfl
theorem laterF_whole {l lm : List Put} {i : Nat} (h : l.length + lm.length ≤ 400) (hi : lm.length ≤ i) : laterF l lm i = play (l ++ lm) := by
  unfold laterF
  rw [List.take_of_length_le hi, List.take_of_length_le (by omega)]
  simp [play]

theorem els_step (f : Nat → Int) (lo : Int) {i : Nat} (h : i < 512) : (els f lo 0 (i + 1)).length = (els f lo 0 i).length + (if lo ≤ (i : Int) ∧ f i ≠ 0 then 1 else 0) := by
  rw [els_snoc f lo i h, List.length_append]
  split <;> simp
theorem getF_natL (f : Nat → Int) {i : Nat} (h : i < 512) : getF f (i : Int) = f i := by simp [getF, isOff_of h]
theorem box_row {W : World} {b : Nat} {v u u' : Value} {base n : Nat} {xs : List Value} (hb : Boxed W b 3 u) (h : W.ownsRow base 30 3 v n xs) : (W.setCell ⟨b, 0, none⟩ u').ownsRow base 30 3 v n xs :=
  ownsRow_keeps h (one_keeps' W b 0 u') (fun c hc e => (hb.not_row (by decide) h) (by rw [hc, e]))

theorem wantUp {w W : World} {t b5 b7 b12 wb wt : Nat} {lo : Int} {f : Nat → Int} {v : Value} {n : Nat} {xs : List Value} (h : TT w W t f ((b12, 3, .int .i64 (wt : Int)) :: lb0 t b5 b7 lo) [] ∧ World.ownsRow W wb 30 3 v n xs) (hb : b7 + 3 < b12) (hb5 : b5 + 2 < b7) (m : Nat) :
    TT w (W.setCell ⟨b12, 0, none⟩ (.int .i64 (m : Int))) t f ((b12, 3, .int .i64 (m : Int)) :: lb0 t b5 b7 lo) [] ∧ World.ownsRow (W.setCell ⟨b12, 0, none⟩ (.int .i64 (m : Int))) wb 30 3 v n xs := by
  refine ⟨h.1.set (b := b12) (ty := 3) (v := .int .i64 (wt : Int)) (.int .i64 (m : Int)) (by simp) (by decide) (by decide) ?_, box_row (h.1.bx (b := b12) (ty := 3) (v := .int .i64 (wt : Int)) (by simp)) h.2⟩
  intro q hq
  rcases List.mem_cons.1 hq with rfl | hq
  · exact .inl rfl
  · refine .inr ⟨List.mem_cons_of_mem _ hq, ?_⟩
    simp only [lb0, List.mem_cons, List.mem_nil_iff, or_false] at hq
    rcases hq with rfl | rfl | rfl | rfl | rfl | rfl <;> simp <;> omega

/-! What a step of a round's body keeps beside. -/
def KrL (B : Nat) (W W' : World) : Prop := KeepsFrom B W W' ∧ KeepS W W'
theorem KrL.trans {B : Nat} {X Y Z : World} (h : KrL B X Y) (k : KrL B Y Z) : KrL B X Z := ⟨h.1.trans k.1, h.2.trans k.2⟩
theorem KrL.refl (B : Nat) (W : World) : KrL B W W := ⟨KeepsFrom.refl B W, KeepS.refl W⟩
theorem krl_box {B b : Nat} {W : World} {v : Value} (v' : Value) (hb : Boxed W b 3 v) : KrL B W (W.setCell ⟨b, 0, none⟩ v') :=
  ⟨keepsFrom_of (one_keeps' W b 0 v') (by rintro i rfl; exact .inr ⟨_, _, _, hb⟩), keepS_box hb (by decide) (by decide) v'⟩
theorem krl_keep {B : Nat} {W W' : World} (k : Keeps (fun _ => False) W W') : KrL B W W' := ⟨keepsFrom_of k (fun _ h => h.elim), k.none_slots⟩
theorem krl_own {β : Type} {B B' : Nat} {W0 : World} (hB : W0.heap.size ≤ B') : OwnFrom B' (fun (_ : β) W => KrL B W0 W) := fun s X Y row hs hg hr => by
  refine ⟨ownFrom_keepsFrom (β := β) hB s X Y row hs.1 hg hr, hs.2.trans ?_⟩
  have hk : Keeps (fun c => row = some c) X Y := Keeps.of hg (fun k hk => Or.inl hk)
  refine hk.slots fun b c t hb _ h => ?_
  obtain ⟨_, o, ho, hc⟩ := hr b hb
  rw [h] at ho; cases ho; cases hc

/-- The boxes of a round: at, n, round, want. -/
def obs (t b5 b7 b12 br bl : Nat) (lo : Int) (N : Nat) (r at_ n : Int) : Bxs := (bl + 1, 3, .int .i64 at_) :: (bl, 3, .int .i64 n) :: (br, 3, .int .i64 r) :: (b12, 3, .int .i64 (N : Int)) :: lb0 t b5 b7 lo
section
variable {w W : World} {t b5 b7 b12 br bl bi N : Nat} {lo r a n k : Int} {f : Nat → Int} {ds : List Nat}
theorem TT.atL (h : TT w W t f (obs t b5 b7 b12 br bl lo N r a n) ds) (hb : b5 + 1 < b7 ∧ b7 + 3 < b12 ∧ b12 < br ∧ br < bl) (a' : Int) : TT w (W.setCell ⟨bl + 1, 0, none⟩ (.int .i64 a')) t f (obs t b5 b7 b12 br bl lo N r a' n) ds :=
  h.set (b := bl + 1) (ty := 3) (v := .int .i64 a) (.int .i64 a') (by simp [obs]) (by decide) (by decide) (by
    intro q hq
    simp only [obs, lb0, List.mem_cons, List.mem_nil_iff, or_false] at hq ⊢
    rcases hq with rfl | rfl | rfl | rfl | rfl | rfl | rfl | rfl | rfl | rfl <;> simp <;> omega)
theorem TT.nL (h : TT w W t f (obs t b5 b7 b12 br bl lo N r a n) ds) (hb : b5 + 1 < b7 ∧ b7 + 3 < b12 ∧ b12 < br ∧ br < bl) (n' : Int) : TT w (W.setCell ⟨bl, 0, none⟩ (.int .i64 n')) t f (obs t b5 b7 b12 br bl lo N r a n') ds :=
  h.set (b := bl) (ty := 3) (v := .int .i64 n) (.int .i64 n') (by simp [obs]) (by decide) (by decide) (by
    intro q hq
    simp only [obs, lb0, List.mem_cons, List.mem_nil_iff, or_false] at hq ⊢
    rcases hq with rfl | rfl | rfl | rfl | rfl | rfl | rfl | rfl | rfl | rfl <;> simp <;> omega)
theorem TT.inL (h : TT w W t f ((bi, 3, .int .i64 k) :: obs t b5 b7 b12 br bl lo N r a n) ds) (hb : b5 + 1 < b7 ∧ b7 + 3 < b12 ∧ b12 < br ∧ br < bl ∧ bl + 1 < bi) (k' : Int) : TT w (W.setCell ⟨bi, 0, none⟩ (.int .i64 k')) t f ((bi, 3, .int .i64 k') :: obs t b5 b7 b12 br bl lo N r a n) ds :=
  h.set (b := bi) (ty := 3) (v := .int .i64 k) (.int .i64 k') (by simp) (by decide) (by decide) (by
    intro q hq
    simp only [obs, lb0, List.mem_cons, List.mem_nil_iff, or_false] at hq ⊢
    rcases hq with rfl | rfl | rfl | rfl | rfl | rfl | rfl | rfl | rfl | rfl | rfl <;> simp <;> omega)
theorem TT.nL2 (h : TT w W t f ((bi, 3, .int .i64 k) :: lb0 t b5 b7 lo) ds) (hb : b5 + 1 < b7 ∧ b7 + 3 < bi) (k' : Int) : TT w (W.setCell ⟨bi, 0, none⟩ (.int .i64 k')) t f ((bi, 3, .int .i64 k') :: lb0 t b5 b7 lo) ds :=
  h.set (b := bi) (ty := 3) (v := .int .i64 k) (.int .i64 k') (by simp) (by decide) (by decide) (by
    intro q hq
    simp only [lb0, List.mem_cons, List.mem_nil_iff, or_false] at hq ⊢
    rcases hq with rfl | rfl | rfl | rfl | rfl | rfl | rfl <;> simp <;> omega)
end
section
variable (w : World) (t b5 b7 b12 br bl bi N : Nat) (lo r : Int) (f : Nat → Int) (ds : List Nat)
/-- What the outer loop keeps; the inner one. -/
def IO (pre : List El) (W : World) : Prop := TT w W t f (obs t b5 b7 b12 br bl lo N r (lastO pre) (pre.length : Int)) ds
def II (W0 : World) (B : Nat) (a n : Int) (pre : List El) (W : World) : Prop := TT w W t f ((bi, 3, .int .i64 (pre.length : Int)) :: obs t b5 b7 b12 br bl lo N r a n) ds ∧ KrL B W0 W
variable {w t b5 b7 b12 br bl bi N lo r f ds}
theorem IO.own {B : Nat} (hB : w.heap.size ≤ B) (hD : ∀ k ∈ ds, k < B) : OwnFrom B (IO w t b5 b7 b12 br bl N lo r f ds) := fun _ _ _ _ hs hg hr => TT.own hB hD hs hg hr
theorem II.own {B B' : Nat} {W0 : World} {a n : Int} (hB : w.heap.size ≤ B') (hW : W0.heap.size ≤ B') (hD : ∀ k ∈ ds, k < B') : OwnFrom B' (II w t b5 b7 b12 br bl bi N lo r f ds W0 B a n) := fun s X Y row hs hg hr => ⟨TT.own hB hD hs.1 hg hr, krl_own (β := List El) hW s X Y row hs.2 hg hr⟩
end
theorem amx_own {B : Nat} (L : List El) (c : Code) : OwnFrom B (AmX L c) := fun _ _ _ _ hs _ _ => hs

/-! How often (511, 7) came. -/
def is7 (x : El) : Bool := decide (x.1.val = 511) && decide (x.2 = 7)
def cnt7 (pre : List El) : Nat := (pre.filter is7).length
theorem cnt7_snoc (pre : List El) (x : El) : cnt7 (pre ++ [x]) = cnt7 pre + (if is7 x then 1 else 0) := by
  unfold cnt7
  rw [List.filter_append, List.length_append]
  cases h : is7 x <;> simp [h]
theorem cnt7_le (pre : List El) : cnt7 pre ≤ pre.length := List.length_filter_le ..
theorem cnt7_all (f : Nat → Int) (lo : Int) : cnt7 (els (setF f 511 7) lo 0 512) = if lo ≤ 511 then 1 else 0 := by
  have h7 : setF f 511 7 511 = 7 := by
    have := isOff_of (show 511 < 512 by omega)
    simp [setF, upd, isOff]
  rw [els_snoc (setF f 511 7) lo 511 (by omega)]
  have h0 : cnt7 (els (setF f 511 7) lo 0 511) = 0 := by
    unfold cnt7
    rw [List.length_eq_zero_iff, List.filter_eq_nil_iff]
    intro x hx
    have := ((els_facts (setF f 511 7) lo 511 (by omega)).1 x hx).1
    simp [is7]; omega
  have happ : ∀ a b : List El, cnt7 (a ++ b) = cnt7 a + cnt7 b := fun a b => by simp [cnt7]
  rw [happ, h0, h7]
  by_cases h : lo ≤ 511
  · rw [if_pos ⟨by simpa using h, by omega⟩, if_pos h]; rfl
  · rw [if_neg (fun hh => h (by simpa using hh.1)), if_neg h]; rfl
theorem els_mem_le {f : Nat → Int} {lo : Int} {pre : List El} {x : El} (h : pre ++ [x] <+: els f lo 0 512) : lo ≤ (x.1.val : Int) ∧ x.2 = getF f (x.1.val : Int) := by
  have := lastO_lt h
  exact ⟨this.2.1, by rw [getF_natL f x.1.isLt]; exact this.2.2.1⟩

theorem results_box6 {fn : Func} {p : Tmp} (h : fn.results = #[.cell p 4]) (tmps : Array Value) (w : World) (g : Nat) (v : Value) (hp : tmps.getD p undef = .pointer (some ⟨g, 0, none⟩)) (hb : Boxed w g 4 v) : (results fn tmps).run Try.prog w = .ok v w := by
  have hp' : tmps[p]?.getD undef = .pointer (some ⟨g, 0, none⟩) := by simpa using hp
  have hc := hb.cell
  simp only [results, h]
  simp [hp', asAddr]
  go_simp

/-- The law of a range over a function whose body holds another one; no way leads out of it but its end. -/
theorem rangeFunc_h {F : Fence} {n : Nat} {P : Program} {α : Type} {g : Operand} {ps : Array Tmp} {assign body : Code} {Q : Exit → Act → World → Prop} {a : Act} {w : World}
    (hro : F.round = none) (h1 : 1 ≤ n) {gf : Nat} {lb : Array Value} (hg : a.eval g = .func (.func gf) #[] lb) (hFg : F.fn gf) (eg : ∀ args w, (callFunc gf args).run P w = .ok (.enter gf args) w)
    {encs : α → Array Value} {Kp : World → World → Prop} {S Sp : List α → Prop} {N : Nat} {w0 : World} (hseq : SeqStopsK F (n - 1) P gf lb encs Kp S Sp N w0)
    (hKt : ∀ {A B C : World}, Kp A B → Kp B C → Kp A C) (hKr : ∀ W, Kp W W) (hKb : ∀ (W : World) (l : Nat) (o o' : Obj), w.heap.size ≤ l → W.heap[l]? = some o → o.isCells = false → o.isWalk = false → Kp W (W.putObj l o')) (hb0 : Below w0.heap.size w0 w) (hps : ∀ x, (encs x).size = ps.size)
    (I : List α → World → Prop) (Ix : Code → List α → World → Prop) (hI : OwnFrom w.heap.size I) (hIx : ∀ c, OwnFrom w.heap.size (Ix c)) (h0 : I [] w) (f : α → Array Value → Array Value)
    (hstop : ∀ c pre W, Sp pre → Ix c pre W → False)
    (hassign : ∀ (l : Nat) (x : α) (W : World) (K : Act → World → Prop), K { tmps := f x a.tmps, defers := [] } W →
      assign.wpIn (F.inRound l) (n - 1 - 1) P (Exit.then K (fun _ _ _ => False)) { tmps := (ps.zip (encs x)).foldl (fun t (p, v) => t.setIfInBounds p v) a.tmps, defers := [] } W)
    (hbody : ∀ (l : Nat) (pre : List α) (x : α) (W : World), w.heap.size ≤ l → (∃ r, W.heap[l]? = some (.loop r)) → I pre W → pre.length < N → body.wpIn (F.inRound l) (n - 1 - 1) P (ownPostG w.heap.size Kp I Ix (pre ++ [x]) W) { tmps := f x a.tmps, defers := [] } W)
    (hdone : ∀ (D : Nat) (xs : List α) (W : World), w.heap.size ≤ D → S xs → I xs W → W.heap[D]? = some (.deferred (some [])) → Q .normal { a with defers := { target := .collected D, args := #[] } :: a.defers } W) :
    (Code.rangeFunc g ps assign body).wpIn F n P Q a w :=
  wpIn_rangeFunc_ownH hro h1 hg hFg eg hseq hKt hKb hb0 hps I Ix hI hIx h0 (fun x a' _ => a' = { tmps := f x a.tmps, defers := [] }) (fun _ _ _ _ _ _ hs _ _ => hs)
    (fun l _ x W K hi hK => hassign l x W K (hK _ _ (KeepsFrom.refl _ _) (hKr W) hi rfl)) (fun l pre x a' W hl hr hi e hp => by subst e; exact hbody l pre x W hl hr hi hp) hdone (fun _ c pre W _ hS hx _ => (hstop c pre W hS hx).elim)
/-- .. within a round of the loop l₀. -/
theorem rangeFunc_n {F : Fence} {n : Nat} {P : Program} {α : Type} {g : Operand} {ps : Array Tmp} {assign body : Code} {Q : Exit → Act → World → Prop} {a : Act} {w : World}
    {l₀ : Nat} {r₀ : Loop} (hro : F.round = some l₀) (hl₀ : w.heap[l₀]? = some (.loop r₀)) (h1 : 1 ≤ n) {gf : Nat} {lb : Array Value} (hg : a.eval g = .func (.func gf) #[] lb) (hFg : F.fn gf) (eg : ∀ args w, (callFunc gf args).run P w = .ok (.enter gf args) w)
    {encs : α → Array Value} {Kp : World → World → Prop} {S Sp : List α → Prop} {N : Nat} {w0 : World} (hseq : SeqStopsK F (n - 1) P gf lb encs Kp S Sp N w0)
    (hKt : ∀ {A B C : World}, Kp A B → Kp B C → Kp A C) (hKr : ∀ W, Kp W W) (hKb : ∀ (W : World) (l : Nat) (o o' : Obj), w.heap.size ≤ l → W.heap[l]? = some o → o.isCells = false → o.isWalk = false → Kp W (W.putObj l o')) (hb0 : Below w0.heap.size w0 w) (hps : ∀ x, (encs x).size = ps.size)
    (I : List α → World → Prop) (Ix : Code → List α → World → Prop) (hI : OwnFrom w.heap.size I) (hIx : ∀ c, OwnFrom w.heap.size (Ix c)) (h0 : I [] w) (f : α → Array Value → Array Value)
    (hstop : ∀ c pre W, Sp pre → Ix c pre W → False)
    (hassign : ∀ (l : Nat) (x : α) (W : World) (K : Act → World → Prop), K { tmps := f x a.tmps, defers := [] } W →
      assign.wpIn (F.inRound l) (n - 1 - 1) P (Exit.then K (fun _ _ _ => False)) { tmps := (ps.zip (encs x)).foldl (fun t (p, v) => t.setIfInBounds p v) a.tmps, defers := [] } W)
    (hbody : ∀ (l : Nat) (pre : List α) (x : α) (W : World), I pre W → pre.length < N → body.wpIn (F.inRound l) (n - 1 - 1) P (ownPostG w.heap.size Kp I Ix (pre ++ [x]) W) { tmps := f x a.tmps, defers := [] } W)
    (hdone : ∀ (xs : List α) (W : World), S xs → I xs W → Q .normal a W) :
    (Code.rangeFunc g ps assign body).wpIn F n P Q a w :=
  wpIn_rangeFunc_ownN hro hl₀ h1 hg hFg eg hseq hKt hKb hb0 hps I Ix hI hIx h0 (fun x a' _ => a' = { tmps := f x a.tmps, defers := [] }) (fun _ _ _ _ _ _ hs _ _ => hs)
    (fun l _ x W K hi hK => hassign l x W K (hK _ _ (KeepsFrom.refl _ _) (hKr W) hi rfl)) (fun l pre x a' W _ _ hi e hp => by subst e; exact hbody l pre x W hi hp) hdone (fun c pre W hS hx => (hstop c pre W hS hx).elim)

end Go.Proofs.Ytndojlacdggfcaa
