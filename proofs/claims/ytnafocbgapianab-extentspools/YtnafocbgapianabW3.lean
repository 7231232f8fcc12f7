import Derived.Test.YtnafocbgapianabW2
namespace Go.Proofs.Ytnafocbgapianab
open Go.RowKit

theorem keep_set' (w : World) (g i : Nat) (v : Value) : Keeps (fun j => j = g) w (w.setCell ⟨g, i, none⟩ v) := Keeps.of (grownBy_setCell w ⟨g, i, none⟩ v) (by rintro j hj; cases hj; exact Or.inl rfl)

set_option maxHeartbeats 2000000 in
theorem rnew_any (N : Int) (w : World) :
    Calls Try.prog 52 #[.int .i64 N] w fun r w' => ∃ e, r = .returned (.pointer (some ⟨e, 0, none⟩)) ∧ w.heap.size ≤ e ∧ ∃ v, (∀ g, v.ownBlock = some g → w.heap.size ≤ g) ∧ RbAt w' e v (bmLen N) (fun _ => false) ∧ Keeps (fun k => w.heap.size ≤ k) w w' := by
  obtain ⟨i0, hi0, hz0, hz1, hz2⟩ := info_parts info4'
  have hLe : bmLen N ≤ 1024 := by unfold bmLen; omega
  have HLN : Hid ((bmLen N : Int) = max 0 (min N 1024)) := by show _ = _; unfold bmLen; omega
  generalize bmLen N = L at *
  have g0 : Keeps (fun k => w.heap.size ≤ k) w (w.alloc (.cells #[.slice none 0 0] 113)) := Keeps.of (World.grownBy_alloc w _ none) (by simp)
  have hR := (MapKept.heap_alloc w (.cells #[.slice none 0 0] 113)).1
  have hsz : (w.alloc (.cells #[.slice none 0 0] 113)).heap.size = w.heap.size + 1 := by simp
  obtain ⟨e, he⟩ : ∃ e, e = w.heap.size := ⟨_, rfl⟩
  rw [← he] at hR hsz
  go_enter Try.func52, Try.ntmps52
  go_wp2
  rw [← he]
  have HE := Hid.mk' he
  have HG0 := Hid.mk' (And.intro g0 (And.intro hR hsz))
  generalize w.alloc (.cells #[.slice none 0 0] 113) = w1 at *
  clear he g0 hR hsz
  go_loopw [4] (fun iv wr => ∃ (i : Nat) (v : Value), i ≤ L ∧ iv = .int .i64 i ∧ Hid (wr.heap[e]? = some (.cells #[v] 113 (0, 0)) ∧ wr.ownsRow (e + 1) 4 1 v i (boolCells (fun _ => false) i) ∧ Keeps (fun j => e ≤ j) w wr ∧ e < wr.heap.size)) (fun iv _ => L - (intOf iv).toNat)
  case atStart =>
    have h1 := HG0.out
    have h2 := HE.out
    exact ⟨0, .slice none 0 0, by omega, rfl, h1.2.1, World.ownsRow_nil _ _ _ _, by rw [h2]; exact h1.1, by omega⟩
  case round =>
    obtain ⟨i, v, hi, rfl, hrel⟩ := hrel
    have hln := HLN.out
    by_cases hlt : i < L
    · have h1 : (i : Int) < N := by omega
      have h2 : (i : Int) < 1024 := by omega
      have hv : wr.cell? ⟨e, 0, none⟩ = some v := by simp [World.cell?, hrel.out.1]
      have HOW := Hid.mk' hrel.out.2.1
      have HK := Hid.mk' hrel.out.2.2.1
      have HAT := Hid.mk' hrel.out.1
      have hew := hrel.out.2.2.2
      clear hrel hln
      go_wp2_with (first
        | (at_builtin; refine wpList_append_lies _ rfl _ _ 33 rfl (e + 1) 4 i0 (.bool false) 1 1 Try.underlying33 hi0 hz0 hz1 hz2 rfl (by decide) v i (boolCells (fun _ => false) i) rfl (World.ownsRow.alloc HOW.out _) ⟨wr.heap.size, 0, none⟩ 1 1 [.bool false] rfl rfl (World.news_of_block (MapKept.heap_alloc wr _).1) (by simp [Value.oneCell']) (by decide) (by unfold maxLen; omega) (by omega) (by simp; omega) (wr.heap.size + 1) (by simp) ?_; intro g2 c2 w6 hown2 hgrow2 hloc2 hlt2
           have hk6 : Keeps (fun j => v.ownBlock = some j) wr w6 := (Keeps.of (X := fun j => v.ownBlock = some j) (World.grownBy_alloc wr (.cells #[.bool false] 4) none) (by simp)).step hgrow2 (fun k hk => Or.inl hk)
           have hat6 := hk6.at HAT.out (fun hx => by have := (HOW.out.lt e hx).1; omega)
           have c6 : w6.cell? ⟨e, 0, none⟩ = some v := by simp [World.cell?, hat6]
           have f6 : w6.frozen? ⟨e, 0, none⟩ = false := by simp [World.frozen?, hat6]
           have HX := Hid.mk' (And.intro hk6 (And.intro hat6 hown2))
           clear hgrow2 hloc2 hlt2 hk6 hat6 hown2))
      go_roundw
      case rel =>
        have hset := setCell_block (a := ⟨e, 0, none⟩) (v := .slice (some ⟨g2, 0, none⟩) (i + 1) c2) HX.out.2.1 rfl
        have hkp := keep_set' w6 e 0 (.slice (some ⟨g2, 0, none⟩) (i + 1) c2)
        have hge : g2 ≠ e := by have := (HX.out.2.2.lt g2 rfl).1; omega
        refine ⟨i + 1, _, by omega, by go_num, by simpa using hset, ?_, ?_, ?_⟩
        · rw [boolCells_succ]
          exact own_kept' HX.out.2.2 hkp (fun g hg => by cases hg; exact hge)
        · exact (HK.out.then HX.out.1 (fun j hj => by left; have := (HOW.out.lt j hj).1; omega)).then hkp (fun j hj => by left; omega)
        · have h1 := HX.out.1.size
          have h2 := hkp.size
          omega
      case measure => simp [intOf]; omega
    · have HI := Hid.mk' (show i = L by omega)
      have HREL := hrel
      have hor : ¬ (i : Int) < N ∨ ¬ (i : Int) < 1024 := by omega
      by_cases h1 : (i : Int) < N
      · have h2 : ¬ (i : Int) < 1024 := by omega
        clear hrel hln hor
        go_wp2
        go_ret
        refine ⟨e, rfl, by rw [HE.out]; exact Nat.le_refl _, v, fun g hg => by have := (HREL.out.2.1.lt g hg).1; have := HE.out; omega, ⟨HREL.out.1, ?_, hLe⟩, by rw [← HE.out]; exact HREL.out.2.2.1⟩
        have := HREL.out.2.1
        rw [HI.out] at this
        obtain ⟨a1, a2⟩ := this
        refine ⟨a1, ?_⟩
        rcases a2 with a2 | ⟨g, cap, cur, q1, _, q3⟩
        · exact Or.inl a2
        · exact Or.inr ⟨g, cap, cur, q1, Nat.zero_le _, q3⟩
      · clear hrel hln hor
        go_wp2
        go_ret
        refine ⟨e, rfl, by rw [HE.out]; exact Nat.le_refl _, v, fun g hg => by have := (HREL.out.2.1.lt g hg).1; have := HE.out; omega, ⟨HREL.out.1, ?_, hLe⟩, by rw [← HE.out]; exact HREL.out.2.2.1⟩
        have := HREL.out.2.1
        rw [HI.out] at this
        obtain ⟨a1, a2⟩ := this
        refine ⟨a1, ?_⟩
        rcases a2 with a2 | ⟨g, cap, cur, q1, _, q3⟩
        · exact Or.inl a2
        · exact Or.inr ⟨g, cap, cur, q1, Nat.zero_le _, q3⟩

set_option maxHeartbeats 2000000 in
theorem rholes_any (w : World) (e n : Nat) (v : Value) (S : Nat → Bool) (h : RbAt w e v n S) (lo hi : Int) :
    Calls Try.prog 57 #[.pointer (some ⟨e, 0, none⟩), .int .i64 lo, .int .i64 hi] w fun r w' => ∃ x, r = .returned x ∧ SpAt w' w.heap.size x (sp (fun j => !S j) (clamp n lo) (clamp n hi - clamp n lo)) ∧ Keeps (fun k => w.heap.size ≤ k) w w' := by
  obtain ⟨i0, hi0, hz0, hz1, hz2⟩ := info_parts info4'
  have hle := h.le
  have HR := Hid.mk' h
  obtain ⟨p, cap, rfl⟩ := h.slice
  have HSW := Hid.mk' (sp_window (fun j => !S j) n lo hi)
  have hel := heap_lt h.at_
  clear h
  go_enter Try.func57, Try.ntmps57
  go_wp2
  go_loopw [7, 8] (fun ov iv wr => ∃ i : Nat, i ≤ n ∧ iv = .int .i64 i ∧ wr.ownsRow w.heap.size 4 1 ov i (boolCells (fun j => (!S j && decide (lo ≤ (j : Int))) && decide ((j : Int) < hi)) i) ∧ Hid (Keeps (fun j => w.heap.size ≤ j) w wr)) (fun _ iv _ => n - (intOf iv).toNat)
  case atStart => exact ⟨0, by omega, rfl, World.ownsRow_nil _ _ _ _, Keeps.refl _ _⟩
  case round =>
    obtain ⟨i, hin, rfl, hown, hrel⟩ := hrel
    have hRb := HR.out.kept hrel.out (by omega) (fun g hg => by have := (HR.out.row.lt g hg).2; omega)
    have hf := hRb.field
    by_cases hlt : i < n
    · have hlt' : (i : Int) < (n : Int) := by omega
      have hi1 : (0 : Int) ≤ (i : Int) := by omega
      obtain ⟨g, cap', hv, hg, hc, _, _⟩ := hRb.form (by omega)
      cases hv
      have hb := hc i hlt
      have HS := Hid.mk' (boolCells_succ (fun j => (!S j && decide (lo ≤ (j : Int))) && decide ((j : Int) < hi)) i)
      have HK := hrel
      have hws := hrel.out.size
      have HOW := Hid.mk' hown
      clear hc hrel hRb
      cases hx : S i with
      | true =>
        rw [hx] at hb
        simp only [hx, Bool.not_true, Bool.false_and] at HS
        clear hx
        go_wp2_with (first
          | (at_builtin; refine wpList_append_lies _ rfl _ _ 33 rfl w.heap.size 4 i0 (.bool false) 1 1 Try.underlying33 hi0 hz0 hz1 hz2 rfl (by decide) _ i (boolCells (fun j => (!S j && decide (lo ≤ (j : Int))) && decide ((j : Int) < hi)) i) rfl (World.ownsRow.alloc HOW.out _) ⟨wr.heap.size, 0, none⟩ 1 1 [.bool false] rfl rfl (World.news_of_block (MapKept.heap_alloc wr _).1) (by simp [Value.oneCell']) (by decide) (by unfold maxLen; omega) (by omega) (by simp; omega) (wr.heap.size + 1) (by simp) ?_; intro g2 c2 w6 hown2 hgrow2 hloc2 hlt2))
        go_roundw
        case rel =>
          refine ⟨i + 1, by omega, by go_num, ?_, ?_⟩
          · rw [HS.out]; exact hown2
          · exact (HK.out.step (World.grownBy_alloc wr _ none) (by simp)).step hgrow2 (fun k hk => Or.inl (HOW.out.lt k hk).1)
        case measure => simp [intOf]; omega
      | false =>
        rw [hx] at hb
        by_cases h1 : lo ≤ (i : Int)
        · by_cases h2 : (i : Int) < hi
          · simp only [hx, h1, h2, Bool.not_false, decide_true, Bool.and_self] at HS
            clear hx
            go_wp2_with (first
              | (at_builtin; refine wpList_append_lies _ rfl _ _ 33 rfl w.heap.size 4 i0 (.bool false) 1 1 Try.underlying33 hi0 hz0 hz1 hz2 rfl (by decide) _ i (boolCells (fun j => (!S j && decide (lo ≤ (j : Int))) && decide ((j : Int) < hi)) i) rfl (World.ownsRow.alloc HOW.out _) ⟨wr.heap.size, 0, none⟩ 1 1 [.bool true] rfl rfl (World.news_of_block (MapKept.heap_alloc wr _).1) (by simp [Value.oneCell']) (by decide) (by unfold maxLen; omega) (by omega) (by simp; omega) (wr.heap.size + 1) (by simp) ?_; intro g2 c2 w6 hown2 hgrow2 hloc2 hlt2))
            go_roundw
            case rel =>
              refine ⟨i + 1, by omega, by go_num, ?_, ?_⟩
              · rw [HS.out]; exact hown2
              · exact (HK.out.step (World.grownBy_alloc wr _ none) (by simp)).step hgrow2 (fun k hk => Or.inl (HOW.out.lt k hk).1)
            case measure => simp [intOf]; omega
          · simp only [hx, h1, h2, Bool.not_false, decide_true, decide_false, Bool.and_self, Bool.and_false] at HS
            clear hx
            go_wp2_with (first
              | (at_builtin; refine wpList_append_lies _ rfl _ _ 33 rfl w.heap.size 4 i0 (.bool false) 1 1 Try.underlying33 hi0 hz0 hz1 hz2 rfl (by decide) _ i (boolCells (fun j => (!S j && decide (lo ≤ (j : Int))) && decide ((j : Int) < hi)) i) rfl (World.ownsRow.alloc HOW.out _) ⟨wr.heap.size, 0, none⟩ 1 1 [.bool false] rfl rfl (World.news_of_block (MapKept.heap_alloc wr _).1) (by simp [Value.oneCell']) (by decide) (by unfold maxLen; omega) (by omega) (by simp; omega) (wr.heap.size + 1) (by simp) ?_; intro g2 c2 w6 hown2 hgrow2 hloc2 hlt2))
            go_roundw
            case rel =>
              refine ⟨i + 1, by omega, by go_num, ?_, ?_⟩
              · rw [HS.out]; exact hown2
              · exact (HK.out.step (World.grownBy_alloc wr _ none) (by simp)).step hgrow2 (fun k hk => Or.inl (HOW.out.lt k hk).1)
            case measure => simp [intOf]; omega
        · simp only [hx, h1, Bool.not_false, decide_false, Bool.and_false, Bool.false_and] at HS
          clear hx
          go_wp2_with (first
            | (at_builtin; refine wpList_append_lies _ rfl _ _ 33 rfl w.heap.size 4 i0 (.bool false) 1 1 Try.underlying33 hi0 hz0 hz1 hz2 rfl (by decide) _ i (boolCells (fun j => (!S j && decide (lo ≤ (j : Int))) && decide ((j : Int) < hi)) i) rfl (World.ownsRow.alloc HOW.out _) ⟨wr.heap.size, 0, none⟩ 1 1 [.bool false] rfl rfl (World.news_of_block (MapKept.heap_alloc wr _).1) (by simp [Value.oneCell']) (by decide) (by unfold maxLen; omega) (by omega) (by simp; omega) (wr.heap.size + 1) (by simp) ?_; intro g2 c2 w6 hown2 hgrow2 hloc2 hlt2))
          go_roundw
          case rel =>
            refine ⟨i + 1, by omega, by go_num, ?_, ?_⟩
            · rw [HS.out]; exact hown2
            · exact (HK.out.step (World.grownBy_alloc wr _ none) (by simp)).step hgrow2 (fun k hk => Or.inl (HOW.out.lt k hk).1)
          case measure => simp [intOf]; omega
    · have hlt' : ¬ (i : Int) < (n : Int) := by omega
      have HI := Hid.mk' (show i = n by omega)
      have hown' := hown
      rw [HI.out] at hown'
      obtain ⟨q, qcap, hq, hqin⟩ := boolIn_row hown'
      have hsp := rspans_any wr q qcap n _ hqin hle
      rw [HSW.out] at hsp
      have HK := hrel
      have hws := hrel.out.size
      clear hrel hown hown' hRb hqin
      subst hq
      go_wp2_with (first
        | (go_at_call 70; refine hsp.mono ?_; clear hsp; rintro r w7 ⟨x7, rfl, hx⟩; have HX := Hid.mk' hx; clear hx))
      go_ret
      exact ⟨_, rfl, HX.out.1.mono hws, HK.out.then HX.out.2 (fun j hj => by left; omega)⟩

end Go.Proofs.Ytnafocbgapianab
