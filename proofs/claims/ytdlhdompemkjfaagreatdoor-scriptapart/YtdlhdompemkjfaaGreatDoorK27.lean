import Derived.Test.YtdlhdompemkjfaaGreatDoorK25
import Derived.Test.YtdlhdompemkjfaaGreatDoorK26
namespace Go.Proofs.YtdlhdompemkjfaaGreatDoor
open Go.RowKit Go.Maps
set_option maxRecDepth 100000

/-! The document's step with an argument more. -/
def ldF (a : Ar) (t : St) (x : Wd) (n : Int) : St := match a with
  | .A => { t with a := x.text }
  | .B => { t with b := x.text }
  | .N => { t with n := n }
  | .M => { t with m := n }
  | .K => { t with k := n }
  | .L => { t with l := t.l ++ [n] }
theorem four_bl (w : World) (o1 o2 o3 o4 : Obj) : ((((w.alloc o1).alloc o2).alloc o3).alloc o4).heap[w.heap.size]? = some o1 ∧ ((((w.alloc o1).alloc o2).alloc o3).alloc o4).heap[w.heap.size + 1 + 1]? = some o3 := by
  have h := three_blocks w o1 o2 o3
  have k := (Keeps.refl (fun _ => False) (((w.alloc o1).alloc o2).alloc o3)).alloc o4
  exact ⟨k.at h.1 id, k.at h.2.2.1 id⟩
theorem ld_end {base : Nat} {w W : World} {R : Array Value} {v : Value} {l : List Int} (h1 : W.heap[w.heap.size]? = some (.cells R 24 (0, 0))) (h2 : W.heap[w.heap.size + 1 + 1]? = some (.cells szero 24 (0, 0)))
    (ho : W.ownsRow base 3 1 v l.length (ints l)) (X : Nat → Prop) (hk : Keeps X w W) :
    (W.setCell ⟨w.heap.size, 6, none⟩ v).heap[w.heap.size]? = some (.cells (R.setIfInBounds 6 v) 24 (0, 0)) ∧ (W.setCell ⟨w.heap.size, 6, none⟩ v).heap[w.heap.size + 1 + 1]? = some (.cells szero 24 (0, 0)) ∧
    ∀ cs, ((W.setCell ⟨w.heap.size, 6, none⟩ v).setRow (w.heap.size + 1 + 1) cs).ownsRow base 3 1 v l.length (ints l) ∧ Keeps X w ((W.setCell ⟨w.heap.size, 6, none⟩ v).setRow (w.heap.size + 1 + 1) cs) := by
  have k1 : Keeps (fun k => k = w.heap.size) W (W.setCell ⟨w.heap.size, 6, none⟩ v) := Keeps.of (grownBy_setCell _ _ _) (fun k hk => Or.inl (by cases hk; rfl))
  have b1 := setCell_block (a := ⟨w.heap.size, 6, none⟩) (v := v) h1 rfl
  have b2 := k1.at h2 (by omega)
  have o1 := own_keep ho k1 (row_ne h1 ho)
  refine ⟨b1, b2, fun cs => ⟨?_, ?_⟩⟩
  · have k2 : Keeps (fun k => k = w.heap.size + 1 + 1) (W.setCell ⟨w.heap.size, 6, none⟩ v) ((W.setCell ⟨w.heap.size, 6, none⟩ v).setRow (w.heap.size + 1 + 1) cs) := (Keeps.refl _ _).setRow _ _ (Or.inr rfl)
    exact own_keep o1 k2 (row_ne b2 o1)
  · exact (hk.step (grownBy_setCell _ _ _) (fun k h => Or.inr (by cases h; exact Nat.le_refl _))).setRow _ _ (Or.inl (by omega))

set_option maxHeartbeats 8000000 in
theorem rlaid_any (a : Ar) (base : Nat) (w : World) (hb : base ≤ w.heap.size) (t : St) (v : Value) (ho : w.ownsRow base 3 1 v t.l.length (ints t.l)) (hl : t.l.length ≤ 1000000) (x : Wd) (n : Int) :
    Calls Tryz.prog 42 #[.agg (scell t v), .int .u8 (((lett a).toNat : Nat) : Int), .agg (rcell x), .int .i64 n] w fun e w' => ∃ v', e = .returned (.agg (scell (ldF a t x n) v')) ∧ Hid (w'.ownsRow base 3 1 v' (ldF a t x n).l.length (ints (ldF a t x n).l) ∧ Keeps (fun k => base ≤ k) w w') := by
  obtain ⟨p, c, rfl, _, _⟩ := id (Row.of_own ho)
  have HO := Hid.mk' ho
  clear ho
  unfold scell rcell
  cases a with
  | A =>
    go_enter Tryz.func42, Tryz.ntmps42
    go_wp2
    exact bodyPost_ret (results_cell_row rfl _ _ (w.heap.size + 1 + 1) 24 #[.int .i64 t.kind, .string x.text, .string t.b, .int .i64 t.n, .int .i64 t.m, .int .i64 t.k, .slice p t.l.length c] (0, 0) _ rfl (three_blocks w _ _ _).2.2.1 Tryz.underlying24 rfl size24) rfl ⟨.slice p t.l.length c, rfl, own_grow HO.out ((((Keeps.refl _ w).alloc _).alloc _).alloc _), (((Keeps.refl _ w).alloc _).alloc _).alloc _⟩
  | B =>
    go_enter Tryz.func42, Tryz.ntmps42
    go_wp2
    exact bodyPost_ret (results_cell_row rfl _ _ (w.heap.size + 1 + 1) 24 #[.int .i64 t.kind, .string t.a, .string x.text, .int .i64 t.n, .int .i64 t.m, .int .i64 t.k, .slice p t.l.length c] (0, 0) _ rfl (three_blocks w _ _ _).2.2.1 Tryz.underlying24 rfl size24) rfl ⟨.slice p t.l.length c, rfl, own_grow HO.out ((((Keeps.refl _ w).alloc _).alloc _).alloc _), (((Keeps.refl _ w).alloc _).alloc _).alloc _⟩
  | N =>
    go_enter Tryz.func42, Tryz.ntmps42
    go_wp2
    exact bodyPost_ret (results_cell_row rfl _ _ (w.heap.size + 1 + 1) 24 #[.int .i64 t.kind, .string t.a, .string t.b, .int .i64 n, .int .i64 t.m, .int .i64 t.k, .slice p t.l.length c] (0, 0) _ rfl (three_blocks w _ _ _).2.2.1 Tryz.underlying24 rfl size24) rfl ⟨.slice p t.l.length c, rfl, own_grow HO.out ((((Keeps.refl _ w).alloc _).alloc _).alloc _), (((Keeps.refl _ w).alloc _).alloc _).alloc _⟩
  | M =>
    go_enter Tryz.func42, Tryz.ntmps42
    go_wp2
    exact bodyPost_ret (results_cell_row rfl _ _ (w.heap.size + 1 + 1) 24 #[.int .i64 t.kind, .string t.a, .string t.b, .int .i64 t.n, .int .i64 n, .int .i64 t.k, .slice p t.l.length c] (0, 0) _ rfl (three_blocks w _ _ _).2.2.1 Tryz.underlying24 rfl size24) rfl ⟨.slice p t.l.length c, rfl, own_grow HO.out ((((Keeps.refl _ w).alloc _).alloc _).alloc _), (((Keeps.refl _ w).alloc _).alloc _).alloc _⟩
  | K =>
    go_enter Tryz.func42, Tryz.ntmps42
    go_wp2
    exact bodyPost_ret (results_cell_row rfl _ _ (w.heap.size + 1 + 1) 24 #[.int .i64 t.kind, .string t.a, .string t.b, .int .i64 t.n, .int .i64 t.m, .int .i64 n, .slice p t.l.length c] (0, 0) _ rfl (three_blocks w _ _ _).2.2.1 Tryz.underlying24 rfl size24) rfl ⟨.slice p t.l.length c, rfl, own_grow HO.out ((((Keeps.refl _ w).alloc _).alloc _).alloc _), (((Keeps.refl _ w).alloc _).alloc _).alloc _⟩
  | L =>
    obtain ⟨i0, hi0, hz0, hz1, hz2⟩ := info_parts info3
    have HK3 := Hid.mk' ((((Keeps.refl (fun _ => False) w).alloc (.cells #[.int .i64 t.kind, .string t.a, .string t.b, .int .i64 t.n, .int .i64 t.m, .int .i64 t.k, .slice p t.l.length c] 24)).alloc (.cells #[.bool x.quoted, .string x.text] 82)).alloc (.cells #[.int .i64 0, .string ⟨#[]⟩, .string ⟨#[]⟩, .int .i64 0, .int .i64 0, .int .i64 0, .slice none 0 0] 24))
    have HB4 := Hid.mk' (four_bl w (.cells #[.int .i64 t.kind, .string t.a, .string t.b, .int .i64 t.n, .int .i64 t.m, .int .i64 t.k, .slice p t.l.length c] 24) (.cells #[.bool x.quoted, .string x.text] 82) (.cells #[.int .i64 0, .string ⟨#[]⟩, .string ⟨#[]⟩, .int .i64 0, .int .i64 0, .int .i64 0, .slice none 0 0] 24) (.cells #[.int .i64 n] 3))
    have HON := Hid.mk' (cell_one_new (((w.alloc (.cells #[.int .i64 t.kind, .string t.a, .string t.b, .int .i64 t.n, .int .i64 t.m, .int .i64 t.k, .slice p t.l.length c] 24)).alloc (.cells #[.bool x.quoted, .string x.text] 82)).alloc (.cells #[.int .i64 0, .string ⟨#[]⟩, .string ⟨#[]⟩, .int .i64 0, .int .i64 0, .int .i64 0, .slice none 0 0] 24)) (.int .i64 n) 3)
    rw [World.size_alloc, World.size_alloc, World.size_alloc] at HON
    have HO3 := Hid.mk' (own_grow HO.out HK3.out)
    have S0 := Hid.mk' True.intro
    go_enter Tryz.func42, Tryz.ntmps42
    go_wp2_with (first
      | (clear S0; at_builtin; go_must (refine wpList_append_own_at _ rfl _ _ 22 rfl base 3 i0 (.int .i64 0) 1 8 Tryz.underlying22 hi0 hz0 hz1 hz2 rfl (by decide) (.slice p t.l.length c) t.l.length (ints t.l) (by rfl) (HO3.out.alloc _) ⟨w.heap.size + 1 + 1 + 1, 0, none⟩ 1 1 [.int .i64 n] (by rfl) rfl HON.out (by simp [Value.oneCell']) (by unfold maxLen; omega) (by omega) (by rw [World.size_alloc, World.size_alloc, World.size_alloc, World.size_alloc]; omega) ?_)
         intro v2 W2 hown hgr _ _
         obtain ⟨ra, rc, hr2, _⟩ := Row.of_own hown
         subst hr2
         have k1 : Keeps (fun k => (Value.slice p t.l.length c).ownBlock = some k) _ W2 := Keeps.of hgr (fun k hk => Or.inl hk)
         have hne : ∀ g, w.heap.size ≤ g → ¬ (Value.slice p t.l.length c).ownBlock = some g := fun g hg he => by have := (HO.out.lt g he).2; omega
         have b1 := k1.at HB4.out.1 (hne _ (Nat.le_refl _))
         have b2 := k1.at HB4.out.2 (hne _ (by omega))
         have hown2 : W2.ownsRow base 3 1 (.slice ra (t.l.length + 1) rc) (t.l ++ [n]).length (ints (t.l ++ [n])) := by
           rw [List.length_append, List.length_singleton, show ints (t.l ++ [n]) = ints t.l ++ [.int .i64 n] by simp [ints]]; exact hown
         have hkw : Keeps (fun k => base ≤ k) w W2 := ((HK3.out.mono (fun _ _ h => h.elim)).alloc _).trans (k1.mono (fun g _ hg => (HO.out.lt g hg).1))
         have HE := Hid.mk' (ld_end b1 b2 hown2 _ hkw)
         have c2 : W2.cell? ⟨w.heap.size, 6, none⟩ = some (.slice p t.l.length c) := by simp only [World.cell?, b1]; rfl
         have f2 : W2.frozen? ⟨w.heap.size, 6, none⟩ = false := by simp only [World.frozen?, b1]; simp
         clear hown hgr k1 hne b1 b2 hown2 hkw
         have S2 := Hid.mk' True.intro)
      | (clear S2; refine wpList_load_row rfl 24 (.tmp 4) rfl w.heap.size (by rfl) 24 #[.int .i64 t.kind, .string t.a, .string t.b, .int .i64 t.n, .int .i64 t.m, .int .i64 t.k, .slice ra (t.l.length + 1) rc] (0, 0) _ HE.out.1 Tryz.underlying24 rfl size24 ?_; have S3 := Hid.mk' True.intro)
      | (clear S3; refine wpList_store_row rfl 24 (.tmp 8) _ rfl (w.heap.size + 1 + 1) #[.int .i64 t.kind, .string t.a, .string t.b, .int .i64 t.n, .int .i64 t.m, .int .i64 t.k, .slice ra (t.l.length + 1) rc] (by rfl) (by rfl) 24 szero HE.out.2.1 size24 rfl (by simp [Value.oneCell']) ?_; have S4 := Hid.mk' True.intro))
    exact bodyPost_ret (results_cell_row rfl _ _ (w.heap.size + 1 + 1) 24 #[.int .i64 t.kind, .string t.a, .string t.b, .int .i64 t.n, .int .i64 t.m, .int .i64 t.k, .slice ra (t.l.length + 1) rc] (0, 0) _ rfl (setRow_heap _ _ _ _ _ _ HE.out.2.1) Tryz.underlying24 rfl size24) rfl ⟨.slice ra (t.l.length + 1) rc, rfl, HE.out.2.2 _⟩
end Go.Proofs.YtdlhdompemkjfaaGreatDoor
