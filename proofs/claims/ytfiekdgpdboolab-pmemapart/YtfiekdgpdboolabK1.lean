import Derived.Test.YtfiekdgpdboolabI1
namespace Go.Proofs.Ytfiekdgpdboolab
open Go.RowKit Go.Maps

theorem rising_unique {S : St} {ks js : List Int} (h : Rising S ks) (g : Rising S js) : ks = js := by
  have n1 : ks.Nodup := h.1.imp (fun {a b} hab => by omega)
  have n2 : js.Nodup := g.1.imp (fun {a b} hab => by omega)
  have hp : ks.Perm js := (List.perm_ext_iff_of_nodup n1 n2).2 fun a => (h.2 a).trans (g.2 a).symm
  exact List.Perm.eq_of_pairwise (le := fun a b => a < b) (fun a b _ _ h1 h2 => by omega) h.1 g.1 hp

set_option maxHeartbeats 400000 in
theorem sizeDev_any (d n cap : Nat) (ob : Option Addr) (w : World) (h : w.cell? ⟨d, 0, none⟩ = some (.slice ob n cap)) :
    Calls Try.prog 75 #[.pointer (some ⟨d, 0, none⟩)] w fun e w' => e = .returned (.int .i64 n) ∧ w' = w := by
  go_enter Try.func75, Try.ntmps75
  go_wp2
  go_ret
  exact ⟨rfl, rfl⟩

set_option maxHeartbeats 400000 in
set_option maxRecDepth 20000 in
theorem copyBytes_any (g n cap : Nat) (bs : List Int) (w : World) (hn : bs.length = n) (hn0 : 0 < n) (hn' : n ≤ 1000000) (hc : ∀ i, i < n → w.cell? ⟨g, i, none⟩ = some (.int .u8 (bs.getD i 0))) :
    Calls Try.prog 73 #[.slice (some ⟨g, 0, none⟩) n cap] w fun e w' => ∃ g' c', e = .returned (.slice (some ⟨g', 0, none⟩) n c') ∧ w.heap.size ≤ g' ∧ (∀ i, i < n → w'.cell? ⟨g', i, none⟩ = some (.int .u8 (bs.getD i 0))) ∧ g' < w'.heap.size ∧ Keeps (fun _ => False) w w' := by
  obtain ⟨i0, hi, hz0, hz1, hz2⟩ := info_parts info5
  have HC := Hid.mk' hc
  have HN := Hid.mk' hn
  clear hc hn
  go_enter Try.func73, Try.ntmps73
  go_wp2
  go_loopw [3, 4] (fun v i wr => ∃ k : Nat, k ≤ n ∧ i = .int .i64 k ∧ wr.ownsRow w.heap.size 5 1 v k (u8s (bs.take k)) ∧ Keeps (fun _ => False) w wr)
    (fun _ i _ => n - (intOf i).toNat)
  case atStart => exact ⟨0, by omega, rfl, by simpa [u8s] using World.ownsRow_nil w w.heap.size 5 1, Keeps.refl _ _⟩
  case round =>
    obtain ⟨k, hk, rfl, hown, hkp⟩ := hrel
    by_cases hlt : k < n
    · have hcc := hkp.cell (HC.out k hlt) (by simp)
      have HS : Hid (u8s (bs.take (k + 1)) = u8s (bs.take k) ++ [.int .u8 (bs.getD k 0)]) := by
        have h1 : k < bs.length := by have := HN.out; omega
        show u8s (bs.take (k + 1)) = _
        rw [List.take_succ_eq_append_getElem h1]
        simp only [u8s, List.map_append, List.map_cons, List.map_nil]
        rw [List.getD_eq_getElem?_getD, List.getElem?_eq_getElem h1]
        rfl
      have hsz := hkp.size
      have HKP := Hid.mk' hkp
      generalize bs.getD k 0 = x at *
      clear hkp
      go_wp2_with (first
        | (at_builtin; go_must (refine wpList_append_lies _ rfl _ _ 33 rfl w.heap.size 5 i0 (.int .u8 0) 1 1 Try.underlying33 hi hz0 hz1 hz2 rfl (by decide) u3 k (u8s (bs.take k)) rfl (hown.alloc _) ⟨wr.heap.size, 0, none⟩ 1 1 [.int .u8 x] rfl rfl (cell_one_new _ _ _) (by simp [Value.oneCell']) (by decide) (by unfold maxLen; omega) (by omega) (by simp; omega) (wr.heap.size + 1) (by simp) ?_); intro g2 c2 w2 hown2 hgrow2 hloc2 hlt2))
      go_roundw
      case rel =>
        refine ⟨k + 1, by omega, by go_num, by rw [HS.out]; exact hown2, ?_⟩
        refine (HKP.out.step (World.grownBy_alloc wr _ none) (by simp)).step hgrow2 ?_
        intro j hj
        exact Or.inr (hown.lt j hj).1
      case measure => simp [intOf]; omega
    · obtain rfl : k = n := by omega
      have hnl := HN.out
      rw [List.take_of_length_le (by omega)] at hown
      rcases hown.2 with ⟨_, e2⟩ | ⟨g', c', cur, rfl, hg, hh, q1, q2, q3, q4⟩
      · omega
      · have HO := Hid.mk' (show w.heap.size ≤ g' ∧ (∀ i, i < k → wr.cell? ⟨g', i, none⟩ = some (.int .u8 (bs.getD i 0))) ∧ g' < wr.heap.size from ⟨hg, fun i hi' => by
          rw [hown.cellAt i (by omega)]
          simp [u8s, List.getD_eq_getElem?_getD, show i < bs.length by omega], heap_lt hh⟩)
        have HKP := Hid.mk' hkp
        clear hown hkp hh q1 q2 q3 q4 hg hnl
        go_wp2
        go_ret
        exact ⟨g', c', rfl, HO.out.1, HO.out.2.1, HO.out.2.2, HKP.out⟩

end Go.Proofs.Ytfiekdgpdboolab
