import Derived.Test.YtfiekdgpdboolabQ3
namespace Go.Proofs.Ytfiekdgpdboolab
open Go.RowKit Go.Maps

/-- What is durable of a line by its last flush ahead of the fence. -/
def Rf.settled (R : Rf) (i : Nat) : Int := lastB R.fenced (R.fls i)
def Rf.old (R : Rf) (i k : Nat) : Int := oldOf k (R.settled i) (R.first i k) (R.puts i)
def Rf.news (R : Rf) (i k : Nat) : List Int := newsOf k (R.settled i) (R.puts i)

set_option maxHeartbeats 2000000 in
set_option maxRecDepth 20000 in
theorem rword_any (w : World) (F : Nat → Prop) (r : Nat) (R : Rf) (M : RLay) (a i k : Nat) (h : RefAt w F r R M) (hi : i = a / 64) (hin : i < R.n) (hk : k = a / 8 % 8) (hn : R.now ≤ 1000000000) :
    Calls Try.prog 95 #[.pointer (some ⟨r, 0, none⟩), .int .i64 a] w fun e w' => ∃ v, e = .returned (.tuple #[.int .u64 (R.old i k), v]) ∧ w'.ownsRow w.heap.size 47 1 v (R.news i k).length (u64s (R.news i k)) ∧ Keeps (fun _ => False) w w' := by
  obtain ⟨c0, c1, c2, c3, c4⟩ := h.cells
  have hnn := h.nn
  have cf := h.fst i hin k (by omega)
  have cp := h.pcl i hin
  have hrow := h.prow i hin
  have hlen := h.plen i hin
  have hse := rsettled_any w F r R M i h hin hn
  obtain ⟨p, c, hv, hp⟩ := row_form hrow
  rw [hv] at cp hrow
  obtain ⟨t, ht⟩ : ∃ t : Nat, t = a / 8 := ⟨_, rfl⟩
  have hq1 : (a : Int).tdiv 64 = (i : Int) := by rw [Int.tdiv_eq_ediv_of_nonneg (by omega)]; omega
  have hq2 : (a : Int).tdiv 8 = (t : Int) := by rw [Int.tdiv_eq_ediv_of_nonneg (by omega)]; omega
  have hq3 : (t : Int).tmod 8 = (k : Int) := by rw [Int.tmod_eq_emod_of_nonneg (by omega)]; omega
  have hw1 : IntKind.i64.wrap (i : Int) = (i : Int) := wrap_id (by omega) (by omega)
  have hw2 : IntKind.i64.wrap (t : Int) = (t : Int) := wrap_id (by omega) (by omega)
  have hi0 : (0 : Int) ≤ (i : Int) := by omega
  have hi1 : (i : Int) < (R.n : Int) := by omega
  have hk0 : (0 : Int) ≤ (k : Int) := by omega
  have hk8 : (k : Int) < 8 := by omega
  unfold Rf.old Rf.news Rf.settled
  clear h hv
  generalize lastB R.fenced (R.fls i) = st at *
  generalize R.puts i = pl at *
  generalize R.first i k = f0 at *
  have hlb : (pl.length : Int) ≤ 1000000000 := by omega
  have HRW := Hid.mk' hrow
  have HP := Hid.mk' hp
  obtain ⟨i0, hi', hz0, hz1, hz2⟩ := info_parts info30
  clear c1 c2 c3 c4 hrow hp hi hk ht hlen hn
  by_cases hp0 : pl.length = 0
  · have hz : ((pl.length : Int) == 0) = true := by simp [hp0]
    have e0 : pl = [] := List.length_eq_zero_iff.1 hp0
    have HE := Hid.mk' e0
    clear hp0 e0
    go_enter Try.func95, Try.ntmps95
    go_wp2
    go_ret2
    rw [HE.out]
    exact ⟨.slice none 0 0, rfl, World.ownsRow_nil _ _ _ _, Keeps.refl _ _⟩
  · have hz : ((pl.length : Int) == 0) = false := by simp [hp0]
    obtain ⟨g, rfl⟩ := HP.out (by omega)
    clear hp0
    go_enter Try.func95, Try.ntmps95
    go_wp2_with (first | (go_at_call 113; refine hse.mono ?_; rintro e w1 ⟨rfl, q, hw1'⟩; have HQ := Hid.mk' hw1'; clear hw1' hse))
    go_loopw [7, 10, 11] (fun o v j wr => ∃ m : Nat, m ≤ pl.length ∧ j = .int .i64 m ∧ o = .int .u64 (oldOf k st f0 (pl.take m)) ∧ wr.ownsRow w.heap.size 47 1 v (newsOf k st (pl.take m)).length (u64s (newsOf k st (pl.take m))) ∧ Keeps (fun _ => False) w wr)
      (fun _ _ j _ => pl.length - (intOf j).toNat)
    case atStart => exact ⟨0, by omega, rfl, rfl, World.ownsRow_nil _ _ _ _, keeps_drewN' _ _ _ _ HQ.out⟩
    case round =>
      obtain ⟨m, hm, rfl, rfl, hown, hkp⟩ := hrel
      have hsz := hkp.size
      by_cases hlt : m < pl.length
      · obtain ⟨g1, g2, g3⟩ := putCells_get pl m hlt
        have d1 := hkp.cell ((HRW.out.cellAt (m * 3) (by omega)).trans g1) (by simp)
        have d2 := hkp.cell ((HRW.out.cellAt (m * 3 + 1) (by omega)).trans g2) (by simp)
        have d3 := hkp.cell ((HRW.out.cellAt (m * 3 + 2) (by omega)).trans g3) (by simp)
        have HT := Hid.mk' (take_snoc' ((0, 0, 0) : Note3) hlt)
        have hnl : (newsOf k st (pl.take m)).length ≤ 1000000000 := by have := newsOf_len k st (pl.take m); rw [List.length_take] at this; omega
        have h3 : (0 : Int) ≤ (m : Int) := by omega
        have h4 : (m : Int) < (pl.length : Int) := by omega
        have HKP := Hid.mk' hkp
        generalize pl.getD m (0, 0, 0) = x at *
        clear g1 g2 g3 hkp
        by_cases hx : x.1 = (k : Int)
        · have hd : (x.1 == (k : Int)) = true := by simp [hx]
          have HX := Hid.mk' hx
          clear hx
          by_cases hy : x.2.2 < st
          · go_wp2
            go_roundw
            case rel => exact ⟨m + 1, by omega, by go_num, by rw [HT.out, oldOf_snoc, if_pos ⟨HX.out, hy⟩], by rw [HT.out, newsOf_snoc, if_neg (fun h => h.2 hy)]; exact hown, HKP.out⟩
            case measure => simp [intOf]; omega
          · go_wp2_with (first
              | (at_builtin; go_must (refine wpList_append_lies _ rfl _ _ 22 rfl w.heap.size 47 i0 (.int .u64 0) 1 8 Try.underlying22 hi' hz0 hz1 hz2 rfl (by decide) u10 (newsOf k st (pl.take m)).length (u64s (newsOf k st (pl.take m))) rfl (hown.alloc _) ⟨wr.heap.size, 0, none⟩ 1 1 [.int .u64 x.2.1] rfl rfl (cell_one_new _ _ _) (by simp [Value.oneCell']) (by decide) (by unfold maxLen; omega) (by omega) (by simp; omega) (wr.heap.size + 1) (by simp) ?_); intro g2 c2 w2 hown2 hgrow2 hloc2 hlt2))
            go_roundw
            case rel =>
              refine ⟨m + 1, by omega, by go_num, by rw [HT.out, oldOf_snoc, if_neg (fun h => by have := h.2; omega)], ?_, ?_⟩
              · rw [HT.out, newsOf_snoc, if_pos ⟨HX.out, by omega⟩]
                have e5 : u64s (newsOf k st (pl.take m) ++ [x.2.1]) = u64s (newsOf k st (pl.take m)) ++ [.int .u64 x.2.1] := by simp [u64s]
                rw [e5, List.length_append]
                exact hown2
              · refine (HKP.out.step (World.grownBy_alloc wr _ none) (by simp)).step hgrow2 ?_
                intro j hj
                exact Or.inr (hown.lt j hj).1
            case measure => simp [intOf]; omega
        · have hd : (x.1 == (k : Int)) = false := by simp [hx]
          have HX := Hid.mk' hx
          clear hx
          go_wp2
          go_roundw
          case rel => exact ⟨m + 1, by omega, by go_num, by rw [HT.out, oldOf_snoc, if_neg (fun h => HX.out h.1)], by rw [HT.out, newsOf_snoc, if_neg (fun h => HX.out h.1)]; exact hown, HKP.out⟩
          case measure => simp [intOf]; omega
      · obtain rfl : m = pl.length := by omega
        rw [List.take_length] at hown ⊢
        have HKP := Hid.mk' hkp
        clear hkp
        go_wp2
        go_ret2
        exact ⟨u10, rfl, hown, HKP.out⟩

end Go.Proofs.Ytfiekdgpdboolab
