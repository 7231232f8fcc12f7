import Derived.Test.YtngoifbflpeapaaDoorQ3
namespace Go.Proofs.YtngoifbflpeapaaDoor
open Go.RowKit Go.Maps
set_option maxRecDepth 100000

/-! A step that shares no list. -/
set_option maxHeartbeats 4000000 in
theorem copyStep_any (w : World) (t : St) (v : Value) (hr : Row w v t.l.length (ints t.l)) (hl : t.l.length ≤ 17592186044416) :
    Calls Tryd.prog 8 #[.agg (scell t v)] w fun e w' => ∃ v', e = .returned (.agg (scell t v')) ∧ Hid (w'.ownsRow w.heap.size 3 1 v' t.l.length (ints t.l) ∧ Keeps (fun _ => False) w w') := by
  obtain ⟨p, c, rfl, _, _⟩ := id hr
  have HR := Hid.mk' hr
  have HL := Hid.mk' hl
  clear hr hl
  unfold scell
  have HK3 := Hid.mk' ((((Keeps.refl (fun _ => False) w).alloc (.cells #[.int .i64 t.kind, .string t.a, .string t.b, .int .i64 t.n, .int .i64 t.m, .int .i64 t.k, .slice p t.l.length c] 24)).alloc (.cells #[.int .i64 0, .string ⟨#[]⟩, .string ⟨#[]⟩, .int .i64 0, .int .i64 0, .int .i64 0, .slice none 0 0] 24)).alloc (.cells #[.int .i64 t.kind, .string t.a, .string t.b, .int .i64 t.n, .int .i64 t.m, .int .i64 t.k, .slice none 0 0] 24))
  have HB3 := Hid.mk' (three_blocks w (.cells #[.int .i64 t.kind, .string t.a, .string t.b, .int .i64 t.n, .int .i64 t.m, .int .i64 t.k, .slice p t.l.length c] 24) (.cells #[.int .i64 0, .string ⟨#[]⟩, .string ⟨#[]⟩, .int .i64 0, .int .i64 0, .int .i64 0, .slice none 0 0] 24) (.cells #[.int .i64 t.kind, .string t.a, .string t.b, .int .i64 t.n, .int .i64 t.m, .int .i64 t.k, .slice none 0 0] 24))
  go_enter Tryd.func8, Tryd.ntmps8
  have S0 := Hid.mk' True.intro
  go_wp2_with (first
    | (clear S0; refine wpList_alloc_st rfl rfl ?_; have S1 := Hid.mk' True.intro)
    | (clear S1; at_builtin; go_must (refine wpList_appi rfl _ _ rfl w.heap.size _ (by rfl) HK3.out.size _ t.l (by rfl) (HR.out.keep HK3.out) HL.out ?_)
       intro v2 W2 hown hk2
       obtain ⟨ra, rc, hr2, _⟩ := Row.of_own hown
       subst hr2
       have b3 := hk2.at HB3.out.2.2.1 id
       have HE := Hid.mk' (sh_end (hk2.at HB3.out.2.1 id) b3 hown (HK3.out.trans hk2))
       have c2 : W2.cell? ⟨w.heap.size + 1 + 1, 6, none⟩ = some (.slice none 0 0) := by simp only [World.cell?, b3]; rfl
       have f2 : W2.frozen? ⟨w.heap.size + 1 + 1, 6, none⟩ = false := by simp only [World.frozen?, b3]; simp
       clear hown hk2 b3
       have S2 := Hid.mk' True.intro)
    | (clear S2; refine wpList_load_row rfl 24 (.tmp 3) rfl (w.heap.size + 1 + 1) (by rfl) 24 #[.int .i64 t.kind, .string t.a, .string t.b, .int .i64 t.n, .int .i64 t.m, .int .i64 t.k, .slice ra t.l.length rc] (0, 0) _ HE.out.1 Tryd.underlying24 rfl size24 ?_; have S3 := Hid.mk' True.intro)
    | (clear S3; refine wpList_store_row rfl 24 (.tmp 2) _ rfl (w.heap.size + 1) #[.int .i64 t.kind, .string t.a, .string t.b, .int .i64 t.n, .int .i64 t.m, .int .i64 t.k, .slice ra t.l.length rc] (by rfl) (by rfl) 24 szero HE.out.2.1 size24 rfl (by simp [Value.oneCell']) ?_; have S4 := Hid.mk' True.intro))
  exact bodyPost_ret (results_cell_row rfl _ _ (w.heap.size + 1) 24 #[.int .i64 t.kind, .string t.a, .string t.b, .int .i64 t.n, .int .i64 t.m, .int .i64 t.k, .slice ra t.l.length rc] (0, 0) _ rfl (setRow_heap _ _ _ _ _ _ HE.out.2.1) Tryd.underlying24 rfl size24) rfl ⟨.slice ra t.l.length rc, rfl, HE.out.2.2 _⟩
end Go.Proofs.YtngoifbflpeapaaDoor

