import Derived.Test.YtfekgfimbkgkfabD1
namespace Go.Proofs.Ytfekgfimbkgkfab
open Go.RowKit Go.Maps

theorem info40 : (Try.prog.info? 40).map (fun i => (i.zero, i.size, i.bytes)) = some (some (.agg #[.int .i64 0, .string ⟨#[]⟩, .int .i64 0, .bool false]), 4, 40) := by kernel_rfl
theorem fE_ok : ∀ e ∈ fE, EdOk e := by
  intro e he
  simp only [fE, List.mem_cons, List.not_mem_nil, or_false] at he
  rcases he with rfl | rfl
  · exact ⟨by decide, by decide, by decide⟩
  · exact ⟨by decide, by decide, by decide⟩
theorem f_sizes : ∀ s ∈ [fA, fB], s.size ≤ 281474976710656 := by
  intro s hs
  simp only [List.mem_cons, List.not_mem_nil, or_false] at hs
  rcases hs with rfl | rfl <;> decide
theorem ecells_fE : ecells fE = [.int .i64 1, .string fA, .int .i64 2, .bool true, .int .i64 2, .string fB, .int .i64 3, .bool true] := rfl

set_option maxHeartbeats 4000000 in
set_option maxRecDepth 100000 in
theorem first_any (w : World) : Calls Try.prog 10 #[] w fun e w' => e = .returned (.bool true) ∧ Keeps (fun _ => False) w w' := by
  obtain ⟨i0, hi, hz0, hz1, hz2⟩ := info_parts info40
  have h18 : Calls Try.prog 18 #[.string ⟨#[47, 97, 47, 47, 98, 47]⟩] w fun e w' => ∃ r, e = .returned (.tuple #[.agg #[r, .bool true], .int .i64 0]) ∧ Hid (w'.ownsRow w.heap.size 9 1 r 2 (strs [fA, fB]) ∧ Keeps (fun _ => False) w w') := by
    have := parse_any w ⟨#[47, 97, 47, 47, 98, 47]⟩ (by decide)
    have e : (⟨#[47, 97, 47, 47, 98, 47]⟩ : ByteArray).data.toList = [47, 97, 47, 47, 98, 47] := rfl
    rw [e, f_prsE, f_prsS, f_prsP] at this
    exact this
  have hfb : fB.toList = [98] := by rw [ByteArray.toList_eq]; rfl
  go_enter Try.func10, Try.ntmps10
  go_wp2_with (first
    | (go_at_call 18; refine h18.mono ?_; clear h18; rintro e w1 ⟨r, rfl, H1⟩
       obtain ⟨b, o, cap, e, hb, hc⟩ := (Row.of_own H1.out.1).pos (by omega)
       subst e
       have hA := (Keeps.refl (fun _ => False) w1).alloc (.cells #[.slice (some ⟨b, o, none⟩) 2 cap, .bool true] 25)
       have c0 : (w1.alloc (.cells #[.slice (some ⟨b, o, none⟩) 2 cap, .bool true] 25)).cell? ⟨b, o, none⟩ = some (.string ⟨#[97]⟩) := hA.cell (hc 0 _ rfl) id
       have c1 : (w1.alloc (.cells #[.slice (some ⟨b, o, none⟩) 2 cap, .bool true] 25)).cell? ⟨b, o + 1, none⟩ = some (.string ⟨#[98]⟩) := hA.cell (hc 1 _ rfl) id
       have HR : Hid (Row (w1.alloc (.cells #[.slice (some ⟨b, o, none⟩) 2 cap, .bool true] 25)) (.slice (some ⟨b, o, none⟩) 2 cap) 2 (strs [fA, fB])) := (Row.of_own H1.out.1).keep hA
       have h21 := text_any (w1.alloc (.cells #[.slice (some ⟨b, o, none⟩) 2 cap, .bool true] 25)) (.slice (some ⟨b, o, none⟩) 2 cap) [fA, fB] true HR.out (by decide) f_sizes
       rw [f_txt] at h21
       have HK1 : Hid (Keeps (fun _ => False) w (w1.alloc (.cells #[.slice (some ⟨b, o, none⟩) 2 cap, .bool true] 25)) ∧ (w1.alloc (.cells #[.slice (some ⟨b, o, none⟩) 2 cap, .bool true] 25)).heap[w1.heap.size]? = some (.cells #[.slice (some ⟨b, o, none⟩) 2 cap, .bool true] 25)) := ⟨H1.out.2.trans hA, heap_last _ _⟩
       clear hA hc)
    | (go_at_call 21; refine h21.mono ?_; clear h21; rintro e w2 ⟨rfl, hk2⟩
       have HK2 : Hid (Keeps (fun _ => False) w w2 ∧ w2.heap[w1.heap.size]? = some (.cells #[.slice (some ⟨b, o, none⟩) 2 cap, .bool true] 25) ∧ Row w2 (.slice (some ⟨b, o, none⟩) 2 cap) 2 (strs [fA, fB])) := ⟨HK1.out.1.trans hk2, hk2.at HK1.out.2 id, HR.out.keep hk2⟩
       clear hk2)
    | (at_builtin; go_must (refine wpList_append_own_at _ rfl _ _ 22 rfl w2.heap.size 40 i0 (.agg #[.int .i64 0, .string ⟨#[]⟩, .int .i64 0, .bool false]) 4 40 Try.underlying22 hi hz0 hz1 hz2 rfl (by decide) (.slice none 0 0) 0 [] rfl (World.ownsRow_nil _ _ _ _) ⟨w2.heap.size, 0, none⟩ 2 2 (ecells fE) rfl rfl (World.news_of_block (heap_last _ _)) (by simp [ecells_fE, Value.oneCell']) (by unfold maxLen; omega) (by omega) (by rw [World.size_alloc]; omega) ?_); intro v3 w3 hown hgr _ _
       have hk3 : Keeps (fun _ => False) w2 w3 := ((Keeps.refl _ w2).alloc _).step hgr (fun k hk => by cases hk)
       have HK3 : Hid (Keeps (fun _ => False) w w3 ∧ w3.heap[w1.heap.size]? = some (.cells #[.slice (some ⟨b, o, none⟩) 2 cap, .bool true] 25) ∧ Row w3 (.slice (some ⟨b, o, none⟩) 2 cap) 2 (strs [fA, fB])) := ⟨HK2.out.1.trans hk3, hk3.at HK2.out.2.1 id, HK2.out.2.2.keep hk3⟩
       have h9 := newTable_any w3 v3 fE (Row.of_own hown) (by decide) fE_ok
       clear hgr hk3)
    | (go_at_call 9; refine h9.mono ?_; clear h9; rintro e w4 ⟨rfl, H4⟩
       have HK4 : Hid (Keeps (fun _ => False) w w4 ∧ w4.heap[w1.heap.size]? = some (.cells #[.slice (some ⟨b, o, none⟩) 2 cap, .bool true] 25) ∧ Row w4 (.slice (some ⟨b, o, none⟩) 2 cap) 2 (strs [fA, fB])) := ⟨HK3.out.1.trans H4.out.2, H4.out.2.at HK3.out.2.1 id, HK3.out.2.2.keep H4.out.2⟩
       obtain ⟨x0, x1, _⟩ := cells2 HK4.out.2.1
       have h14 := resolve_any w4 _ _ _ _ H4.out.1 (wfF_tab fE_ok) _ [fA, fB] true HK4.out.2.2 (by decide) f_sizes
       rw [f_rsv] at h14)
    | (go_at_call 14; refine h14.mono ?_; clear h14; rintro e w5 ⟨rfl, hk5⟩
       have HK5 : Hid (Keeps (fun _ => False) w w5) := HK4.out.1.trans hk5
       obtain ⟨y0, y1, _⟩ := cells2 (hk5.at HK4.out.2.1 id)
       have h22 := parent_any w5 _ _ _ _ (H4.out.1.grow hk5) (wfF_tab fE_ok) _ [fA, fB] true (HK4.out.2.2.keep hk5) (by decide) f_sizes
       rw [f_prn] at h22
       clear hk5)
    | (go_at_call 22; refine h22.mono ?_; clear h22; rintro e w6 ⟨rfl, hk6⟩))
  go_ret
  exact ⟨rfl, HK5.out.trans hk6⟩
end Go.Proofs.Ytfekgfimbkgkfab
