import Derived.Test.YtfekgfimbkgkfabT2
namespace Go.Proofs.Ytfekgfimbkgkfab
open Go.RowKit Go.Maps

/-- Ears that was asked nothing yet. -/
structure E0 (W : World) (x : Nat) (ve : Value) (l : List Ed) : Prop where
  st : W.heap[x]? = some (.cells #[ve, .slice none 0 0] 71 (0, 0))
  re : Row W ve l.length (ecells l)
theorem E0.ea {W : World} {x : Nat} {ve : Value} {l : List Ed} (h : E0 W x ve l) (b : Nat) : EA W x b ve (.slice none 0 0) l [] := ⟨h.st, h.re, World.ownsRow_nil _ _ _ _⟩
theorem E0.keep {W W' : World} {x : Nat} {ve : Value} {l : List Ed} (h : E0 W x ve l) (k : Keeps (fun _ => False) W W') : E0 W' x ve l := ⟨k.at h.st id, h.re.keep k⟩
/-- Ears behind a call that began in the world w. -/
def EK (w : World) (x : Nat) (ve : Value) (l qs9 : List Ed) (W : World) : Prop := ∃ va, EA W x w.heap.size ve va l qs9 ∧ Keeps (fun k => k = x) w W
theorem EK.keep {w W W' : World} {x : Nat} {ve : Value} {l qs9 : List Ed} (h : EK w x ve l qs9 W) (k : Keeps (fun _ => False) W W') : EK w x ve l qs9 W' := by
  obtain ⟨va, h1, h2⟩ := h
  exact ⟨va, h1.keep k, h2.trans (k.mono (fun _ _ h => h.elim))⟩
theorem EK.from {w w0 W : World} {x : Nat} {ve : Value} {l qs9 : List Ed} (h : EK w0 x ve l qs9 W) (k : Keeps (fun _ => False) w w0) : EK w x ve l qs9 W := by
  obtain ⟨va, h1, h2⟩ := h
  exact ⟨va, ⟨h1.st, h1.re, own_base h1.ra k.size⟩, (k.mono (fun _ _ h => h.elim)).trans h2⟩
/-- What is known of Ears and of a path ahead of a call. -/
structure EO (x : Nat) (ve : Value) (l : List Ed) (F : Dr) (v : Value) (p : List ByteArray) : Prop where
  fl : tabF l = F
  wf : wfF F
  ve : ∀ g, ve.ownBlock = some g → 0 < l.length → g < x
  ll : l.length ≤ 3518437208780
  vx : ∀ g, v.ownBlock = some g → 0 < p.length → g < x
  pl : p.length ≤ 1000
  pz : ∀ s ∈ p, s.size ≤ 281474976710656
theorem walk_ek (w : World) (x : Nat) (ve : Value) (l : List Ed) (F : Dr) (hE : E0 w x ve l) (v : Value) (p : List ByteArray) (hO : EO x ve l F v p) (h : Row w v p.length (strs p)) :
    Calls Try.prog 28 #[.iface 69 (.pointer (some ⟨x, 0, none⟩)), v] w fun e w' => e = .returned (.tuple #[.agg #[.int .i64 (wkR F p).1.1, .bool (wkR F p).1.2], .int .i64 (wkR F p).2]) ∧ Hid (EK w x ve l (asked F p p.length) w') :=
  walk_ears w x ve l F hO.fl (hE.ea _) hO.ve hO.ll hO.wf v p h hO.vx hO.pl hO.pz

set_option maxHeartbeats 1000000 in
set_option maxRecDepth 100000 in
theorem resolve_ears (w : World) (x : Nat) (ve : Value) (l : List Ed) (F : Dr) (hE : E0 w x ve l) (v : Value) (p : List ByteArray) (sl : Bool) (hO : EO x ve l F v p) (h : Row w v p.length (strs p)) :
    Calls Try.prog 14 #[.iface 69 (.pointer (some ⟨x, 0, none⟩)), .agg #[v, .bool sl]] w fun e w' => e = .returned (.tuple #[.int .i64 (rsv F p sl).1, .bool (rsv F p sl).2.1, .int .i64 (rsv F p sl).2.2]) ∧ Hid (EK w x ve l (asked F p p.length) w') := by
  have hK0 : Keeps (fun _ => False) w (w.alloc (.cells #[v, .bool sl] 25)) := (Keeps.refl _ w).alloc _
  have hB0 := heap_last w (.cells #[v, .bool sl] 25)
  have hx : x < w.heap.size := heap_lt hE.st
  have h28 := walk_ek (w.alloc (.cells #[v, .bool sl] 25)) x ve l F (hE.keep hK0) v p hO (h.keep hK0)
  rw [rsv_eq]
  obtain ⟨a, cap, rfl, _⟩ := h
  have hpl : p.length ≤ 1000 := hO.pl
  clear hO hE
  generalize wkR F p = y at h28 ⊢
  obtain ⟨⟨yn, yb⟩, e⟩ := y
  simp only at h28 ⊢
  have HA : ∀ w1, EK (w.alloc (.cells #[.slice a p.length cap, .bool sl] 25)) x ve l (asked F p p.length) w1 → (∀ o, (w1.alloc o).cell? ⟨w.heap.size, 0, none⟩ = some (.slice a p.length cap)) ∧ (∀ o, (w1.alloc o).cell? ⟨w.heap.size, 1, none⟩ = some (.bool sl)) ∧ EK w x ve l (asked F p p.length) w1 := by
    intro w1 hk1
    obtain ⟨va, k1, k2⟩ := id hk1
    have hb := k2.at hB0 (by omega)
    exact ⟨fun o => (cells2 (((Keeps.refl (fun _ => False) w1).alloc o).at hb id)).1, fun o => (cells2 (((Keeps.refl (fun _ => False) w1).alloc o).at hb id)).2.1, hk1.from hK0⟩
  have HA : Hid _ := HA
  clear hB0
  generalize asked F p p.length = qs9 at h28 HA ⊢
  by_cases h0 : e = 0
  · subst h0
    rw [if_pos rfl]
    cases sl <;> cases yb
    all_goals
      go_enter Try.func14, Try.ntmps14
      go_wp2_with (first
        | (go_at_call 28; refine h28.mono ?_; clear h28; rintro e w1 ⟨rfl, hk1⟩
           obtain ⟨c0, c1, ck⟩ := HA.out w1 hk1.out
           have HK : Hid (∀ o, EK w x ve l qs9 (w1.alloc o)) := fun o => ck.keep ((Keeps.refl _ _).alloc o)
           clear hk1 ck))
      first
      | (go_ret3
         exact ⟨rfl, HK.out _⟩)
      | (go_region
         all_goals
           go_wp2
           go_ret3
           exact ⟨rfl, (HK.out _).keep (Keeps.drewN _ _ 1)⟩)
  · rw [if_neg h0]
    have h0' : ¬ e = 0 := h0
    go_enter Try.func14, Try.ntmps14
    go_wp2_with (first
      | (go_at_call 28; refine h28.mono ?_; clear h28; rintro e w1 ⟨rfl, hk1⟩
         obtain ⟨_, _, ck⟩ := HA.out w1 hk1.out
         have HK : Hid (∀ o, EK w x ve l qs9 (w1.alloc o)) := fun o => ck.keep ((Keeps.refl _ _).alloc o)
         clear hk1 ck))
    go_ret3
    exact ⟨rfl, HK.out _⟩
end Go.Proofs.Ytfekgfimbkgkfab
