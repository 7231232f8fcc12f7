import Derived.Test.YtendmohjodeelaaG1
import Derived.Maps.OwnIn
namespace Go.Proofs.Ytendmohjodeelaa
open Go.RowKit Go.Maps Go.Great Go.Shelf

attribute [local go_sem] Oper.semAt_some

/-- What a body that appends to the slice in box B leaves: every row but the slice's own. -/
def KpA (B : Nat) (W W' : World) : Prop := ∀ v, Boxed W B 26 v → W.heap.size ≤ W'.heap.size ∧ (∃ v', Boxed W' B 26 v' ∧ (v'.ownBlock = v.ownBlock ∨ ∀ g, v'.ownBlock = some g → W.heap.size ≤ g)) ∧
  ∀ b c, v.ownBlock ≠ some b → W.heap[b]? = some (.cells c 30 (0, 0)) → W'.heap[b]? = some (.cells c 30 (0, 0))
theorem KpA.refl (B : Nat) (W : World) : KpA B W W := fun v h => ⟨Nat.le_refl _, ⟨v, h, .inl rfl⟩, fun _ _ _ h => h⟩
theorem KpA.trans {B : Nat} {X Y Z : World} (h : KpA B X Y) (k : KpA B Y Z) : KpA B X Z := by
  intro v hv
  obtain ⟨h1, ⟨v', hv', ho⟩, h3⟩ := h v hv
  obtain ⟨k1, ⟨v'', hv'', ko⟩, k3⟩ := k v' hv'
  refine ⟨by omega, ⟨v'', hv'', ?_⟩, fun b c hb hc => k3 b c ?_ (h3 b c hb hc)⟩
  · rcases ko with e | e
    · rw [e]; exact ho
    · exact .inr fun g hg => by have := e g hg; omega
  · intro e
    rcases ho with e2 | e2
    · exact hb (e2 ▸ e)
    · have := e2 b e
      have := heap_lt hc
      omega
theorem kpA_b (B : Nat) (w : World) (W : World) (l : Nat) (o o' : Obj) (_ : w.heap.size ≤ l) (h : W.heap[l]? = some o) (hc : o.isCells = false) (_ : o.isWalk = false) : KpA B W (W.putObj l o') := by
  have hne : ∀ (b : Nat) (c : Array Value) (t : TypeId), W.heap[b]? = some (Obj.cells c t (0, 0)) → (W.putObj l o').heap[b]? = some (Obj.cells c t (0, 0)) := by
    intro b c t hb
    have hne : b ≠ l := by rintro rfl; rw [h] at hb; cases hb; cases hc
    exact (World.putObj_heap_other hne).trans hb
  intro v hv
  exact ⟨by simp [World.putObj], ⟨v, hne _ _ _ hv, .inl rfl⟩, fun b c _ hb => hne _ _ _ hb⟩

theorem kpA_append {W W1 w1 : World} {B : Nat} {v v' : Value} (hv : Boxed W B 26 v) (hW : Keeps (fun _ => False) W W1)
    (hgrow : W1.grownBy w1 v.ownBlock) (hv2 : Boxed (w1.setCell ⟨B, 0, none⟩ v') B 26 v') (hloc : v'.ownBlock = v.ownBlock ∨ ∀ g, v'.ownBlock = some g → W.heap.size ≤ g) : KpA B W (w1.setCell ⟨B, 0, none⟩ v') := by
  intro u hu
  obtain rfl : u = v := by
    have := (show W.heap[B]? = _ from hu).symm.trans hv
    simpa using this
  refine ⟨Nat.le_trans hW.size (Nat.le_trans hgrow.size (KeepsWalks.setCell w1 _ v').size), ⟨v', hv2, hloc⟩, fun b c hb hc => ?_⟩
  have hne : b ≠ B := by
    rintro rfl
    have := (show W.heap[b]? = _ from hv).symm.trans hc
    cases this
  rw [Below.heap_setCell _ _ _ _ hne]
  have hlt := heap_lt hc
  exact (hgrow.block b (Nat.lt_of_lt_of_le hlt hW.size) (fun e => hb e.symm)).trans (hW.at hc id)

theorem ownKeeps {β : Type} {B : Nat} {X : Nat → Prop} {w : World} (hB : w.heap.size ≤ B) : OwnFrom B (fun (_ : β) W => Keeps X w W) :=
  fun _ _ _ _ hs hg hr => hs.step hg (fun k e => .inr (Nat.le_trans hB (hr k e).1))
theorem Keeps.below_step {w A B : World} (hk : Keeps (fun _ => False) w A) (hb : Below w.heap.size A B) : Keeps (fun _ => False) w B :=
  let ⟨a, b, c, d, e⟩ := hb
  ⟨a.trans hk.os, b.trans hk.tape, c.trans hk.output, Nat.le_trans hk.size d, fun k hk' _ => (e k hk').trans (hk.block k hk' id)⟩

theorem all_stops (n Bx Bd B x bm : Nat) (d : Int) (S : List Rw) (hl : S.length < 4000000000000) (w : World) (hBx : w.cell? ⟨Bx, 0, none⟩ = some (.pointer (some ⟨x, 0, none⟩))) (hBd : w.cell? ⟨Bd, 0, none⟩ = some (.int .i64 d)) (hI : IxAt w x bm S) (hB : Boxed w B 26 (.slice none 0 0)) :
    SeqStopsK Fence.wide n Try.prog 31 #[.pointer (some ⟨Bx, 0, none⟩), .pointer (some ⟨Bd, 0, none⟩)] encs (KpA B) (fun ys => ys = lstS S d) (fun pre => pre <+: lstS S d) (lstS S d).length w := fun l J Jx W hW hJ _ hY h0 => by
  have hk := Keeps.of_below hW
  refine all1_in n l Bx Bd x bm d S hl J Jx _ hJ (KpA B) (fun g W => ∃ v, Boxed W B 26 v ∧ v.ownBlock ≠ some g) (fun m pre x W1 hj hl => YieldAt.anyDepth rfl m (hY pre x W1 hj hl)) W (hk.cell hBx id) (hk.cell hBd id) (hI.keep hk id id) h0 ?_ ?_ ?_
  · intro W1 g h1 _
    exact ⟨_, h1.at (hk.at hB id) id, by simp [Value.ownBlock]⟩
  · rintro W1 W2 g ⟨v, hv, hn⟩ h1
    exact ⟨v, h1.at hv id, hn⟩
  · rintro W1 W2 g c ⟨v, hv, hn⟩ h1 hc
    obtain ⟨_, ⟨v', hv', ho⟩, h3⟩ := h1 v hv
    refine ⟨⟨v', hv', fun e => ?_⟩, h3 g c hn hc⟩
    rcases ho with e2 | e2
    · exact hn (e2 ▸ e)
    · have := e2 g e
      have := heap_lt hc
      omega

theorem five_new (w : World) (o1 o2 o3 o4 o5 : Obj) : let W := ((((w.alloc o1).alloc o2).alloc o3).alloc o4).alloc o5
    W.heap[w.heap.size]? = some o1 ∧ W.heap[w.heap.size + 1]? = some o2 ∧ W.heap[w.heap.size + 1 + 1]? = some o3 ∧ W.heap[w.heap.size + 1 + 1 + 1]? = some o4 ∧ W.heap[w.heap.size + 1 + 1 + 1 + 1]? = some o5 ∧ W.heap.size = w.heap.size + 5 ∧ Keeps (fun _ => False) w W := by
  intro W
  have k0 : ∀ (w : World) (o : Obj), Keeps (fun _ => False) w (w.alloc o) := fun w o => (Keeps.refl _ w).alloc o
  have b1 := heap_alloc_last w o1
  have b2 := heap_alloc_last (w.alloc o1) o2
  have b3 := heap_alloc_last ((w.alloc o1).alloc o2) o3
  have b4 := heap_alloc_last (((w.alloc o1).alloc o2).alloc o3) o4
  have b5 := heap_alloc_last ((((w.alloc o1).alloc o2).alloc o3).alloc o4) o5
  simp only [World.size_alloc] at b2 b3 b4 b5
  exact ⟨(k0 _ _).at ((k0 _ _).at ((k0 _ _).at ((k0 _ _).at b1 id) id) id) id, (k0 _ _).at ((k0 _ _).at ((k0 _ _).at b2 id) id) id, (k0 _ _).at ((k0 _ _).at b3 id) id, (k0 _ _).at b4 id, b5, by simp [W], ((((k0 _ _).trans (k0 _ _)).trans (k0 _ _)).trans (k0 _ _)).trans (k0 _ _)⟩

theorem results_box27 {fn : Func} {p : Tmp} (h : fn.results = #[.cell p 26]) (tmps : Array Value) (w : World) (g : Nat) (v : Value) (hp : tmps.getD p undef = .pointer (some ⟨g, 0, none⟩)) (hb : Boxed w g 26 v) : (results fn tmps).run Try.prog w = .ok v w := by
  have hp' : tmps[p]?.getD undef = .pointer (some ⟨g, 0, none⟩) := by simpa using hp
  have hc := hb.cell
  simp only [results, h]
  simp [hp', asAddr]
  go_simp
/-- What all's loop holds. -/
def AI (w : World) (most : Int) (pre : List De) (W : World) : Prop :=
  (∃ v, Boxed W (w.heap.size + 1 + 1) 26 v ∧ W.ownsRow w.heap.size 30 2 v pre.length (dcells pre) ∧ True) ∧ (Boxed W w.heap.size 3 (.int .i64 most) ∧ Boxed W (w.heap.size + 1) 26 (.slice none 0 0)) ∧ Keeps (fun _ => False) w W
theorem AI.own (w : World) (most : Int) {B : Nat} (hB : w.heap.size ≤ B) : OwnFrom B (AI w most) :=
  OwnFrom.and (Own.from (holdsRow_own w.heap.size (w.heap.size + 1 + 1) 26 30 2 (fun pre : List De => pre.length) (fun pre => dcells pre) (fun _ _ => True)) _) (OwnFrom.and (OwnFrom.and (Own.from (boxed_own _ _ _) _) (Own.from (boxed_own _ _ _) _)) (ownKeeps hB))

set_option maxRecDepth 100000 in
set_option maxHeartbeats 2000000 in
theorem all_walk (w : World) (x bm : Nat) (S : List Rw) (hI : IxAt w x bm S) (d : Int) (most : Int) (hl : S.length < 4000000000000) (hm : ((lstS S d).length : Int) ≤ most) :
    Calls Try.prog 24 #[.pointer (some ⟨x, 0, none⟩), .int .i64 d, .int .i64 most] w fun e w' => ∃ v, e = .returned v ∧ Hid (w'.ownsRow w.heap.size 30 2 v (lstS S d).length (dcells (lstS S d)) ∧ Keeps (fun _ => False) w w') := by
  have hll : (lstS S d).length < 4000000000000 := by rw [lst_len]; have := filt_le S (inDir d); omega
  obtain ⟨i0, hi, hz0, hz1, hz2⟩ := info_parts info30
  refine (callsIn_wide (n := 9)).1 ?_
  refine callsIn_of_wp_marks Try.func24 rfl trivial ?_ rfl
  simp only [Try.ntmps24, List.size_toArray, List.length_cons, List.length_nil, Nat.reduceAdd, Nat.reduceSub, Array.replicate_succ, Array.replicate_zero, List.push_toArray, List.append_toArray, List.nil_append, List.cons_append]
  gi_wp2_with (refine ⟨trivial, ?_⟩; gi_at_call 22; refine (callsIn_wide.2 (all_any _ _ _)).mono ?_; rintro e w' ⟨rfl, rfl⟩)
  obtain ⟨b0, b1, b2, b3, b4, hsz, hK0⟩ := five_new w (.cells #[.int .i64 most] 3) (.cells #[.slice none 0 0] 26) (.cells #[.slice none 0 0] 26) (.cells #[.pointer (some ⟨x, 0, none⟩)] 24) (.cells #[.int .i64 d] 3)
  obtain ⟨W0, hW0⟩ : ∃ W0, ((((w.alloc (.cells #[.int .i64 most] 3)).alloc (.cells #[.slice none 0 0] 26)).alloc (.cells #[.slice none 0 0] 26)).alloc (.cells #[.pointer (some ⟨x, 0, none⟩)] 24)).alloc (.cells #[.int .i64 d] 3) = W0 := ⟨_, rfl⟩
  rw [hW0] at b0 b1 b2 b3 b4 hsz hK0 ⊢
  clear hW0
  have c3 : W0.cell? ⟨w.heap.size + 1 + 1 + 1, 0, none⟩ = some (.pointer (some ⟨x, 0, none⟩)) := (show Boxed W0 _ _ _ from b3).cell
  have c4 : W0.cell? ⟨w.heap.size + 1 + 1 + 1 + 1, 0, none⟩ = some (.int .i64 d) := (show Boxed W0 _ _ _ from b4).cell
  refine wpIn_rangeFunc_ownG rfl (by decide) (gf := 31) (lb := #[.pointer (some ⟨w.heap.size + 1 + 1 + 1, 0, none⟩), .pointer (some ⟨w.heap.size + 1 + 1 + 1 + 1, 0, none⟩)]) rfl trivial (enters_of Try.func31 (by kernel_rfl) rfl)
    (all_stops 8 (w.heap.size + 1 + 1 + 1) (w.heap.size + 1 + 1 + 1 + 1) (w.heap.size + 1 + 1) x bm d S hl W0 c3 c4 (hI.keep hK0 id id) b2) (fun h k => h.trans k) (kpA_b _ W0) (Below.refl _ _) (fun _ => rfl)
    (AI w most) (fun _ _ _ => False)
    (AI.own w most hK0.size) (fun _ _ _ _ _ hs _ _ => hs) ⟨⟨_, b2, World.ownsRow_nil _ _ _ _, trivial⟩, ⟨b0, b1⟩, hK0⟩
    (fun x' => { tmps := #[.pointer (some ⟨x, 0, none⟩), .int .i64 d, .int .i64 most, undef, undef, .pointer (some ⟨w.heap.size, 0, none⟩), .pointer (some ⟨w.heap.size + 1, 0, none⟩), .pointer (some ⟨w.heap.size + 1 + 1, 0, none⟩), .string x'.1, .int .i64 x'.2, .pointer (some ⟨x, 0, none⟩), .int .i64 d,
      .func (.func 31) #[] #[.pointer (some ⟨w.heap.size + 1 + 1 + 1, 0, none⟩), .pointer (some ⟨w.heap.size + 1 + 1 + 1 + 1, 0, none⟩)], .string x'.1, .int .i64 x'.2, undef, undef, undef, undef, undef, undef, undef, undef, undef, undef, undef, undef], defers := [] }) ?assign ?body ?done ?stop
  case assign =>
    intro l x W K hK
    simp only [encs]
    gi_wp2
    simpa using hK
  case body =>
    rintro l pre x' W ⟨⟨v, hv, hrow, _⟩, ⟨hb0, hb1⟩, hk⟩ hlp
    obtain ⟨p, cap, rfl⟩ := (DSl.of_row hrow rfl).shape
    have hc := hv.cell
    have hc0 := hb0.cell
    have hle : w.heap.size ≤ W.heap.size := hk.size
    have hgt : ¬ most < (pre.length : Int) := by omega
    have hgt2 : (pre.length : Int) ≤ most := by omega
    have hblk := heap_alloc_last W (.cells #[.string x'.1, .int .i64 x'.2] 30)
    gi_wp2_with (gi_at_builtin; refine wpListIn_append_own_at _ rfl _ _ 26 rfl w.heap.size 30 i0 (.agg #[.string ⟨#[]⟩, .int .i64 0]) 2 24 Try.underlying26 hi hz0 hz1 hz2 rfl (by decide) _ pre.length (dcells pre) rfl (hrow.alloc _) ⟨W.heap.size, 0, none⟩ 1 1 [.string x'.1, .int .i64 x'.2] rfl rfl (World.news_of_block hblk) (by simp [Value.oneCell']) (by unfold maxLen; omega) (by omega) (by simp; omega) ?_; intro v' w1 hown' hgrow _ hloc; obtain ⟨g', cap', rfl⟩ := ownsRow_succ hown'; obtain ⟨hv1, hv2, hr2, hk2, hb2⟩ := hv.appended (by decide) hrow hle (by omega) hown' hgrow; have hks := kpA_append (v' := .slice (some ⟨g', 0, none⟩) (pre.length + 1) cap') hv ((Keeps.refl _ W).alloc _) hgrow hv2 (hloc.imp id (fun e g hg => by rw [hg] at e; cases e; simp)); have hc1 := hv1.cell; have hf1 := hv1.frozen)
    have hb3 := hk.below_step hb2
    refine ⟨hk2.from _, hks, ⟨_, hv2, ?_, trivial⟩, ⟨?_, ?_⟩, hb3⟩
    · rw [dcells_snoc, List.length_append]; exact hr2
    · exact Boxed.other ((hb0.alloc _).kept hgrow (hb0.not_row (by decide) hrow)) (by omega) _
    · exact Boxed.other ((hb1.alloc _).kept hgrow (hb1.not_row (by decide) hrow)) (by omega) _
  case done =>
    rintro D ys W hD rfl ⟨⟨v, hv, hrow, _⟩, ⟨hb0, hb1⟩, hk⟩ hK
    obtain ⟨p, cap, rfl⟩ := (DSl.of_row hrow rfl).shape
    have hc := hv.cell
    have hf1 := hb1.frozen
    have hc1 := hb1.cell
    gi_wp2
    have hK5 : (W.setCell ⟨w.heap.size + 1, 0, none⟩ (.slice p (lstS S d).length cap)).heap[D]? = some (.deferred (some [])) := (Below.heap_setCell _ _ _ _ (show D ≠ w.heap.size + 1 by omega)).trans hK
    have hb5 := hb1.set (.slice p (lstS S d).length cap)
    have hr5 := hrow.kept (grownBy_setCell' W (w.heap.size + 1) (.slice p (lstS S d).length cap)) (.inr (hb1.not_row (by decide) hrow).symm)
    have hk5 := hk.step (grownBy_setCell' W (w.heap.size + 1) (.slice p (lstS S d).length cap)) (by rintro k hk'; cases hk'; right; omega)
    refine ⟨by simp, .inl ⟨_, _, rfl, run_takeDeferred hK5, ?_⟩⟩
    have hb6 : Boxed ((W.setCell ⟨w.heap.size + 1, 0, none⟩ (.slice p (lstS S d).length cap)).putObj D (.deferred none)) (w.heap.size + 1) 26 (.slice p (lstS S d).length cap) := (World.putObj_heap_other (show w.heap.size + 1 ≠ D by omega)).trans hb5
    exact ⟨_, results_box27 rfl _ _ (w.heap.size + 1) _ rfl hb6, _, rfl, ownsRow_putObj hr5 (.deferred none) hK5 rfl, hk5.step (grownBy_putObj' _ D _) (by rintro k hk'; cases hk'; right; omega)⟩
  case stop =>
    rintro D c pre W _ _ h _
    exact h.elim

end Go.Proofs.Ytendmohjodeelaa
