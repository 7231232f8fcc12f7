import Derived.Test.YtnafocbgapianabZ2
namespace Go.Proofs.Ytnafocbgapianab
open Go.RowKit

theorem area_end {s : Sh} (hg : s.Good) (c : Int) : areaF s c + areaC s c ≤ s.pages := by
  by_cases hc : 0 ≤ c ∧ c < s.cores
  · obtain ⟨n, rfl⟩ := Int.eq_ofNat_of_zero_le hc.1
    rw [(area_in (show n < s.cores by omega)).1, (area_in (show n < s.cores by omega)).2]
    have := bord_le hg (show n + 1 ≤ s.cores by omega)
    have := bord_lt hg n
    omega
  · rw [(area_out hc).1, (area_out hc).2]; omega

set_option maxHeartbeats 4000000 in
theorem rcore_any (w : World) (e : Nat) (v : Value) (s : Sh) (S : Nat → Bool) (h : RpAt w e v s S) (c : Int) :
    Calls Try.prog 78 #[.pointer (some ⟨e, 0, none⟩), .int .i64 c] w fun r w' => ∃ x, r = .returned x ∧ SpAt w' w.heap.size x (sp S (areaF s c) (areaC s c)) ∧ Keeps (fun k => w.heap.size ≤ k) w w' := by
  obtain ⟨i0, hi0, hz0, hz1, hz2⟩ := info_parts info4'
  have hle : s.pages ≤ 1024 := h.good.2.1
  have hae := area_end h.good c
  have har := rarea_any w e v s S h c
  have HSW : Hid (sp (fun j => (S j && decide ((areaF s c : Int) ≤ (j : Int))) && decide ((j : Int) < (areaF s c : Int) + (areaC s c : Int))) 0 s.pages = sp S (areaF s c) (areaC s c)) := by
    show _ = _
    have e1 : clamp s.pages (areaF s c : Int) = areaF s c := by unfold clamp; omega
    have e2 : clamp s.pages ((areaF s c : Int) + (areaC s c : Int)) = areaF s c + areaC s c := by unfold clamp; omega
    rw [sp_window, e1, e2, Nat.add_sub_cancel_left]
  generalize areaF s c = F at *
  generalize areaC s c = C at *
  have HR := Hid.mk' h
  have hel := heap_lt h.at_
  obtain ⟨g, cap, rfl, hg, _, _, _⟩ := h.form
  clear h
  have hfc : IntKind.i64.wrap ((F : Int) + (C : Int)) = (F : Int) + (C : Int) := i64_id (by omega) (by omega)
  go_enter Try.func78, Try.ntmps78
  go_wp2_with (first
    | (go_at_call 74; refine har.mono ?_; clear har; rintro r w1 ⟨rfl, hk⟩
       have HK1 := Hid.mk' (hk.then (X := fun k => w.heap.size ≤ k) (Keeps.of (X := fun k => w.heap.size ≤ k) (World.grownBy_alloc w1 (.cells #[.int .i64 (F : Int), .int .i64 (C : Int)] 46) none) (by simp)) (fun k hk => Or.inl hk))
       have hRa := (MapKept.heap_alloc w1 (.cells #[.int .i64 (F : Int), .int .i64 (C : Int)] 46)).1
       have hsz := hk.size
       have hs2 : (w1.alloc (.cells #[.int .i64 (F : Int), .int .i64 (C : Int)] 46)).heap.size = w1.heap.size + 1 := by simp
       clear hk))
  obtain ⟨w2, hw2⟩ : ∃ w2, w2 = w1.alloc (.cells #[.int .i64 (F : Int), .int .i64 (C : Int)] 46) := ⟨_, rfl⟩
  rw [← hw2] at HK1 hRa hs2 ⊢
  have HRA := Hid.mk' hRa
  have HS2 := Hid.mk' (And.intro hs2 hsz)
  have HR2 := Hid.mk' (HR.out.grown HK1.out)
  clear hw2 hRa hs2 hsz HR
  generalize hn : s.pages = n at *
  go_loopw [6, 7] (fun ov iv wr => ∃ i : Nat, i ≤ n ∧ iv = .int .i64 i ∧ wr.ownsRow w2.heap.size 4 1 ov i (boolCells (fun j => (S j && decide ((F : Int) ≤ (j : Int))) && decide ((j : Int) < (F : Int) + (C : Int))) i) ∧ Hid (Keeps (fun j => w2.heap.size ≤ j) w2 wr)) (fun _ iv _ => n - (intOf iv).toNat)
  case atStart => exact ⟨0, by omega, rfl, World.ownsRow_nil _ _ _ _, Keeps.refl _ _⟩
  case round =>
    obtain ⟨i, hin, rfl, hown, hrel⟩ := hrel
    have hRb := HR2.out.grown hrel.out
    have hf := hRb.cells.2.2.2.2
    have hAr := hrel.out.at HRA.out (by have := HS2.out; omega)
    obtain ⟨a0, a1, af⟩ := cells2 hAr
    by_cases hlt : i < n
    · have hlt' : (i : Int) < (n : Int) := by omega
      have hi1 : (0 : Int) ≤ (i : Int) := by omega
      obtain ⟨g', cap', hv, hg', hc, _, _⟩ := hRb.form
      cases hv
      have hb := hc i (by omega)
      have HS := Hid.mk' (boolCells_succ (fun j => (S j && decide ((F : Int) ≤ (j : Int))) && decide ((j : Int) < (F : Int) + (C : Int))) i)
      have HK := hrel
      have hws := hrel.out.size
      have HOW := Hid.mk' hown
      clear hc hrel hRb hAr af
      cases hx : S i with
      | false =>
        rw [hx] at hb
        simp only [hx, Bool.false_and] at HS
        clear hx
        go_wp2_with (first
          | (at_builtin; refine wpList_append_lies _ rfl _ _ 33 rfl w2.heap.size 4 i0 (.bool false) 1 1 Try.underlying33 hi0 hz0 hz1 hz2 rfl (by decide) _ i (boolCells (fun j => (S j && decide ((F : Int) ≤ (j : Int))) && decide ((j : Int) < (F : Int) + (C : Int))) i) rfl (World.ownsRow.alloc HOW.out _) ⟨wr.heap.size, 0, none⟩ 1 1 [.bool false] rfl rfl (World.news_of_block (MapKept.heap_alloc wr _).1) (by simp [Value.oneCell']) (by decide) (by unfold maxLen; omega) (by omega) (by simp; omega) (wr.heap.size + 1) (by simp) ?_; intro g2 c2 w6 hown2 hgrow2 hloc2 hlt2))
        go_roundw
        case rel =>
          refine ⟨i + 1, by omega, by go_num, ?_, ?_⟩
          · rw [HS.out]; exact hown2
          · exact (HK.out.step (World.grownBy_alloc wr _ none) (by simp)).step hgrow2 (fun k hk => Or.inl (HOW.out.lt k hk).1)
        case measure => simp [intOf]; omega
      | true =>
        rw [hx] at hb
        by_cases h1 : (F : Int) ≤ (i : Int)
        · by_cases h2 : (i : Int) < (F : Int) + (C : Int)
          · simp only [hx, h1, h2, decide_true, Bool.and_self] at HS
            clear hx
            go_wp2_with (first
              | (at_builtin; refine wpList_append_lies _ rfl _ _ 33 rfl w2.heap.size 4 i0 (.bool false) 1 1 Try.underlying33 hi0 hz0 hz1 hz2 rfl (by decide) _ i (boolCells (fun j => (S j && decide ((F : Int) ≤ (j : Int))) && decide ((j : Int) < (F : Int) + (C : Int))) i) rfl (World.ownsRow.alloc HOW.out _) ⟨wr.heap.size, 0, none⟩ 1 1 [.bool true] rfl rfl (World.news_of_block (MapKept.heap_alloc wr _).1) (by simp [Value.oneCell']) (by decide) (by unfold maxLen; omega) (by omega) (by simp; omega) (wr.heap.size + 1) (by simp) ?_; intro g2 c2 w6 hown2 hgrow2 hloc2 hlt2))
            go_roundw
            case rel =>
              refine ⟨i + 1, by omega, by go_num, ?_, ?_⟩
              · rw [HS.out]; exact hown2
              · exact (HK.out.step (World.grownBy_alloc wr _ none) (by simp)).step hgrow2 (fun k hk => Or.inl (HOW.out.lt k hk).1)
            case measure => simp [intOf]; omega
          · simp only [hx, h1, h2, decide_true, decide_false, Bool.and_self, Bool.and_false] at HS
            clear hx
            go_wp2_with (first
              | (at_builtin; refine wpList_append_lies _ rfl _ _ 33 rfl w2.heap.size 4 i0 (.bool false) 1 1 Try.underlying33 hi0 hz0 hz1 hz2 rfl (by decide) _ i (boolCells (fun j => (S j && decide ((F : Int) ≤ (j : Int))) && decide ((j : Int) < (F : Int) + (C : Int))) i) rfl (World.ownsRow.alloc HOW.out _) ⟨wr.heap.size, 0, none⟩ 1 1 [.bool false] rfl rfl (World.news_of_block (MapKept.heap_alloc wr _).1) (by simp [Value.oneCell']) (by decide) (by unfold maxLen; omega) (by omega) (by simp; omega) (wr.heap.size + 1) (by simp) ?_; intro g2 c2 w6 hown2 hgrow2 hloc2 hlt2))
            go_roundw
            case rel =>
              refine ⟨i + 1, by omega, by go_num, ?_, ?_⟩
              · rw [HS.out]; exact hown2
              · exact (HK.out.step (World.grownBy_alloc wr _ none) (by simp)).step hgrow2 (fun k hk => Or.inl (HOW.out.lt k hk).1)
            case measure => simp [intOf]; omega
        · simp only [hx, h1, decide_false, Bool.and_false, Bool.false_and] at HS
          clear hx
          go_wp2_with (first
            | (at_builtin; refine wpList_append_lies _ rfl _ _ 33 rfl w2.heap.size 4 i0 (.bool false) 1 1 Try.underlying33 hi0 hz0 hz1 hz2 rfl (by decide) _ i (boolCells (fun j => (S j && decide ((F : Int) ≤ (j : Int))) && decide ((j : Int) < (F : Int) + (C : Int))) i) rfl (World.ownsRow.alloc HOW.out _) ⟨wr.heap.size, 0, none⟩ 1 1 [.bool false] rfl rfl (World.news_of_block (MapKept.heap_alloc wr _).1) (by simp [Value.oneCell']) (by decide) (by unfold maxLen; omega) (by omega) (by simp; omega) (wr.heap.size + 1) (by simp) ?_; intro g2 c2 w6 hown2 hgrow2 hloc2 hlt2))
          go_roundw
          case rel =>
            refine ⟨i + 1, by omega, by go_num, ?_, ?_⟩
            · rw [HS.out]; exact hown2
            · exact (HK.out.step (World.grownBy_alloc wr _ none) (by simp)).step hgrow2 (fun k hk => Or.inl (HOW.out.lt k hk).1)
          case measure => simp [intOf]; omega
    · have hlt' : ¬ (i : Int) < (n : Int) := by omega
      have HI := Hid.mk' (show i = n by omega)
      have hown' := hown
      rw [HI.out] at hown'
      obtain ⟨q, qcap, hq, hqin⟩ := boolIn_row hown'
      have hsp := rspans_any wr q qcap n _ hqin hle
      rw [HSW.out] at hsp
      have HK := hrel
      have hws := hrel.out.size
      clear hrel hown hown' hRb hqin hAr af
      subst hq
      go_wp2_with (first
        | (go_at_call 70; refine hsp.mono ?_; clear hsp; rintro r w7 ⟨x7, rfl, hx⟩; have HX := Hid.mk' hx; clear hx))
      go_ret
      have h2 := HS2.out
      exact ⟨_, rfl, HX.out.1.mono (by omega), (HK1.out.then HK.out (fun j hj => by left; omega)).then HX.out.2 (fun j hj => by left; omega)⟩

end Go.Proofs.Ytnafocbgapianab
