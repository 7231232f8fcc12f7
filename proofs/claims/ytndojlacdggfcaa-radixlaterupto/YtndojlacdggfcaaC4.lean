import Derived.Test.YtndojlacdggfcaaC3
namespace Go.Proofs.Ytndojlacdggfcaa
open Go.RowKit Go.Shelf

attribute [local go_sem] Oper.semAt_some

theorem els_len (g : Nat → Int) (lo : Int) (a n : Nat) : (els g lo a n).length ≤ n := by
  have := List.length_filterMap_le (el g lo) (List.range' a n)
  simpa [els] using this
theorem Keeps.of_below {A B : World} (h : Below A.heap.size A B) : Keeps (fun _ => False) A B := let ⟨a, b, c, d, e⟩ := h; ⟨a, b, c, d, fun k hk _ => e k hk⟩
theorem Keeps.to_below {A B : World} (h : Keeps (fun _ => False) A B) : Below A.heap.size A B := h.below (Nat.le_refl _) (fun _ h => h.elim)
theorem ownKeeps {β : Type} {B : Nat} {X : Nat → Prop} {w : World} (hB : w.heap.size ≤ B) : OwnFrom B (fun (_ : β) W => Keeps X w W) :=
  fun _ _ _ _ hs hg hr => hs.step hg (fun k e => .inr (Nat.le_trans hB (hr k e).1))
theorem ownTree {β : Type} {B t : Nat} {f : β → Nat → Int} : OwnFrom B (fun (s : β) W => TreeAt W t (f s)) := fun s W W' row hs hg hr => by
  have hk : Keeps (fun c => some c = row) W W' := Keeps.of hg (by rintro k rfl; exact .inl rfl)
  have hx : ∀ (b : Nat) (c : Array Value) (t : TypeId), some b = row → ¬ W.heap[b]? = some (.cells c t (0, 0)) := by
    intro b c t hb h
    obtain ⟨_, o, ho, hc⟩ := hr b hb.symm
    rw [ho] at h; cases h; cases hc
  refine hs.keepN (hk.nodes fun b q u hb hn => hx b _ _ hb hn) (hk.block _ hs.lt fun hb => ?_)
  obtain ⟨p, v, ht, _⟩ := hs
  exact hx _ _ _ hb ht

/-- A turn of a block that is neither a slot's nor a node's. -/
theorem keepS_turn {W W' : World} {B : Nat} {c : Array Value} {t : TypeId} (hk : Keeps (fun c => c = B) W W') (hb : W.heap[B]? = some (.cells c t (0, 0))) (h1 : t ≠ 71) (h2 : t ≠ 102) : KeepS W W' :=
  hk.slots (by
    rintro _ d t' rfl ht' h
    rw [hb] at h
    cases h
    rcases ht' with e | e
    · exact h1 e
    · exact h2 e)
theorem keepS_box {W : World} {B : Nat} {t : TypeId} {v : Value} (hb : Boxed W B t v) (h1 : t ≠ 71) (h2 : t ≠ 102) (u : Value) : KeepS W (W.setCell ⟨B, 0, none⟩ u) :=
  keepS_turn (Keeps.of (grownBy_setCell W ⟨B, 0, none⟩ u) (by rintro k hk; cases hk; exact .inl rfl)) hb h1 h2

set_option maxHeartbeats 400000 in
theorem from_any (w : World) (p : Option Addr) (lo : Int) : Calls Try.prog 10 #[.pointer p, .int .i64 lo] w fun e w' =>
    e = .returned (.func (.func 31) #[] #[.pointer (some ⟨w.heap.size, 0, none⟩), .pointer (some ⟨w.heap.size + 1, 0, none⟩)]) ∧ w' = (w.alloc (.cells #[.pointer p] 23)).alloc (.cells #[.int .i64 lo] 3) := by
  have hmf : ∀ (fn : Fn) (first cap : Array Value) (w : World), (Instr.makeFunc fn first cap).run Try.prog w = .ok (.func fn first cap) w := fun _ _ _ _ => rfl
  go_enter Try.func10, Try.ntmps10
  go_wp2
  go_ret
  exact ⟨rfl, rfl⟩

/-- From's iterator. -/
theorem from_stops (n Bt Bo t : Nat) (lo : Int) (g : Nat → Int) (w : World) (hBt : w.cell? ⟨Bt, 0, none⟩ = some (.pointer (some ⟨t, 0, none⟩))) (hBo : w.cell? ⟨Bo, 0, none⟩ = some (.int .i64 lo)) (hT : TreeAt w t g) :
    SeqStopsK Fence.wide n Try.prog 31 #[.pointer (some ⟨Bt, 0, none⟩), .pointer (some ⟨Bo, 0, none⟩)] encs KeepS (fun ys => ys = els g lo 0 512) (fun pre => pre <+: els g lo 0 512) (els g lo 0 512).length w := fun l J Jx W hW hJ _ hY h0 => by
  have hk := Keeps.of_below hW
  exact from1_in n l Bt Bo t lo g J Jx _ hJ (fun m pre x W1 hj hl => YieldAt.anyDepth rfl m (hY pre x W1 hj hl)) W (hk.cell hBt id) (hk.cell hBo id) (hT.keep hk) h0

set_option maxRecDepth 100000 in
set_option maxHeartbeats 2000000 in
theorem len_any (w : World) (t : Nat) (g : Nat → Int) (hT : TreeAt w t g) :
    Calls Try.prog 22 #[.pointer (some ⟨t, 0, none⟩)] w fun e w' => e = .returned (.int .i64 ((els g 0 0 512).length : Int)) ∧ Keeps (fun _ => False) w w' := by
  have hlen := els_len g 0 0 512
  refine (callsIn_wide (n := 9)).1 ?_
  refine callsIn_of_wp_marks Try.func22 rfl trivial ?_ rfl
  simp only [Try.ntmps22, List.size_toArray, List.length_cons, List.length_nil, Nat.reduceAdd, Nat.reduceSub, Array.replicate_succ, Array.replicate_zero, List.push_toArray, List.append_toArray, List.nil_append, List.cons_append]
  gi_wp2_with (refine ⟨trivial, ?_⟩; gi_at_call 10; refine (callsIn_wide.2 (from_any _ _ _)).mono ?_; rintro e w' ⟨rfl, rfl⟩)
  have hn3 := three_new w (.cells #[.int .i64 0] 3) (.cells #[.pointer (some ⟨t, 0, none⟩)] 23) (.cells #[.int .i64 0] 3)
  obtain ⟨W0, hW0⟩ : ∃ W0, ((w.alloc (.cells #[.int .i64 0] 3)).alloc (.cells #[.pointer (some ⟨t, 0, none⟩)] 23)).alloc (.cells #[.int .i64 0] 3) = W0 := ⟨_, rfl⟩
  rw [hW0] at hn3 ⊢
  clear hW0
  obtain ⟨b0, b1, b2, hsz, hK0⟩ := hn3
  have c1 : W0.cell? ⟨w.heap.size + 1, 0, none⟩ = some (.pointer (some ⟨t, 0, none⟩)) := (show Boxed W0 _ _ _ from b1).cell
  have c2 : W0.cell? ⟨w.heap.size + 1 + 1, 0, none⟩ = some (.int .i64 0) := (show Boxed W0 _ _ _ from b2).cell
  refine wpIn_rangeFunc_ownG rfl (by decide) (gf := 31) (lb := #[.pointer (some ⟨w.heap.size + 1, 0, none⟩), .pointer (some ⟨w.heap.size + 1 + 1, 0, none⟩)]) rfl trivial (enters_of Try.func31 (by kernel_rfl) rfl)
    (from_stops 8 (w.heap.size + 1) (w.heap.size + 1 + 1) t 0 g W0 c1 c2 (hT.keep hK0)) (fun h k => h.trans k) (keepS_b W0) (Below.refl _ _) (fun _ => rfl)
    (fun pre W => Boxed W w.heap.size 3 (.int .i64 (pre.length : Int)) ∧ Keeps (fun _ => False) w W) (fun _ _ _ => False)
    (OwnFrom.and (Own.from (boxed_own _ _ _) _) (ownKeeps hK0.size)) (fun _ _ _ _ _ hs _ _ => hs) ⟨b0, hK0⟩
    (fun x => { tmps := #[.pointer (some ⟨t, 0, none⟩), undef, .int .i64 0, .pointer (some ⟨w.heap.size, 0, none⟩), .pointer (some ⟨t, 0, none⟩),
      .func (.func 31) #[] #[.pointer (some ⟨w.heap.size + 1, 0, none⟩), .pointer (some ⟨w.heap.size + 1 + 1, 0, none⟩)], .int .i64 (x.1.val : Int), .int .i64 x.2, undef, undef, undef], defers := [] }) ?assign ?body ?done ?stop
  case assign =>
    intro l x W K hK
    simp only [encs]
    gi_wp2
    simpa using hK
  case body =>
    rintro l pre x W ⟨hb, hk⟩ hl
    have hc := hb.cell
    have hf := hb.frozen
    gi_wp2
    have hs := Keeps.of (X := fun c => c = w.heap.size) (grownBy_setCell W ⟨w.heap.size, 0, none⟩ (.int .i64 ((pre.length : Int) + 1))) (by rintro k hk; cases hk; exact .inl rfl)
    refine ⟨(KeepsOthers.setCell _ _ _).from _, keepS_box hb (by decide) (by decide) _, ?_, hk.then hs (by rintro k rfl; right; exact Nat.le_refl _)⟩
    · have := Boxed.set (.int .i64 ((pre.length : Int) + 1)) hb
      simpa using this
  case done =>
    rintro D ys W hD rfl ⟨hb, hk⟩ hK
    have hc := hb.cell
    gi_wp2
    refine ⟨by simp, .inl ⟨_, _, rfl, run_takeDeferred hK, ?_⟩⟩
    refine ⟨_, results_tmp rfl _ _ _, rfl, hk.step (grownBy_putObj' W D _) (by rintro k hk'; cases hk'; right; omega)⟩
  case stop =>
    rintro D c pre W _ _ h _
    exact h.elim

end Go.Proofs.Ytndojlacdggfcaa
