import Derived.Test.YtfiekdgpdboolabY2
namespace Go.Proofs.Ytfiekdgpdboolab
open Go.RowKit Go.Maps

def extra (k : Nat) : List Int := (List.range k).map fun (i : Nat) => 200 + (i : Int)
theorem extra_len (k : Nat) : (extra k).length = k := by simp [extra]
theorem extra_succ (k : Nat) : extra (k + 1) = extra k ++ [200 + (k : Int)] := by simp [extra, List.range_succ]

set_option maxHeartbeats 1000000 in
set_option maxRecDepth 20000 in
/-- roomy: the bytes, with others behind them. -/
theorem roomy_any (w : World) (g n cap : Nat) (bs : List Int) (hn : bs.length = n) (hn0 : 0 < n) (hn1 : n ≤ 1000000) (hc : ∀ i, i < n → w.cell? ⟨g, i, none⟩ = some (.int .u8 (bs.getD i 0))) :
    Calls Try.prog 51 #[.slice (some ⟨g, 0, none⟩) n cap] w fun e w' => ∃ g' c', e = .returned (.slice (some ⟨g', 0, none⟩) (n + 24 : Nat) c') ∧ n + 24 ≤ c' ∧ w.heap.size ≤ g' ∧ g' < w'.heap.size ∧
      (∀ i, i < n + 24 → w'.cell? ⟨g', i, none⟩ = some (.int .u8 ((bs ++ extra 24).getD i 0))) ∧ Keeps (fun _ => False) w w' := by
  obtain ⟨i0, hi, hz0, hz1, hz2⟩ := info_parts info5
  have hsrc : ∀ j u, (u8s bs)[j]? = some u → w.cell? ((⟨g, 0, none⟩ : Addr).add j) = some u := fun j u hj => by
    have hjl : j < n := by have := (List.getElem?_eq_some_iff.1 hj).1; simp [u8s] at this; omega
    have hadd : (⟨g, 0, none⟩ : Addr).add j = ⟨g, j, none⟩ := by unfold Addr.add; split <;> simp_all
    rw [hadd, hc j hjl, ← hj]
    have : j < bs.length := by omega
    simp [u8s, List.getD_eq_getElem?_getD, this]
  have hone : ∀ u ∈ u8s bs, u.oneCell' = true := fun u hu => by simp only [u8s, List.mem_map] at hu; obtain ⟨_, _, rfl⟩ := hu; rfl
  have HS := Hid.mk' hsrc
  have HO := Hid.mk' hone
  have HN := Hid.mk' hn
  have hul : (u8s bs).length = n * 1 := by simp [u8s, hn]
  clear hsrc hone hc hn
  go_enter Try.func51, Try.ntmps51
  go_upto_region 2 with fail
  go_wp2_with (first
    | (at_builtin; go_must (refine wpList_append_lies _ rfl _ _ 33 rfl w.heap.size 5 i0 (.int .u8 0) 1 1 Try.underlying33 hi hz0 hz1 hz2 rfl (by decide) (.slice none 0 0) 0 [] rfl (World.ownsRow_nil _ _ _ _) ⟨g, 0, none⟩ n cap (u8s bs) rfl hul HS.out HO.out hn0 (by unfold maxLen; omega) (by omega) (Nat.le_refl _) w.heap.size rfl ?_); intro g1 c1 w1 hown1 hgrow1 hloc1 hlt1))
  have HR1 := Hid.mk' (show w1.ownsRow w.heap.size 5 1 (.slice (some ⟨g1, 0, none⟩) n c1) (n + 0) (u8s (bs ++ extra 0)) ∧ Keeps (fun _ => False) w w1 from ⟨by simpa [extra] using hown1, Keeps.of hgrow1 (by intro k hk; cases hk)⟩)
  clear hown1 hgrow1 hloc1 hlt1
  go_loopw [3, 4] (fun v i wr => ∃ k : Nat, k ≤ 24 ∧ i = .int .i64 k ∧ wr.ownsRow w.heap.size 5 1 v (n + k) (u8s (bs ++ extra k)) ∧ Hid (Keeps (fun _ => False) w wr)) (fun _ i _ => 24 - (intOf i).toNat)
  case atStart => exact ⟨0, by omega, rfl, HR1.out.1, HR1.out.2⟩
  case round =>
    obtain ⟨k, hk, rfl, hown, hrel⟩ := hrel
    by_cases hlk : k < 24
    · have h6 : (k : Int) < 24 := by omega
      have hw : IntKind.u8.wrap (200 + (k : Int)) = 200 + (k : Int) := by simp [IntKind.wrap, IntKind.signed, IntKind.bits]; omega
      have hsz := hrel.out.size
      clear HR1
      go_wp2_with (first
        | (at_builtin; go_must (refine wpList_append_lies _ rfl _ _ 33 rfl w.heap.size 5 i0 (.int .u8 0) 1 1 Try.underlying33 hi hz0 hz1 hz2 rfl (by decide) u3 (n + k) (u8s (bs ++ extra k)) rfl (hown.alloc _) ⟨wr.heap.size, 0, none⟩ 1 1 [.int .u8 (200 + (k : Int))] rfl rfl (cell_one_new _ _ _) (by simp [Value.oneCell']) (by decide) (by unfold maxLen; omega) (by omega) (by simp; omega) (wr.heap.size + 1) (by simp) ?_); intro g2 c2 w2 hown2 hgrow2 hloc2 hlt2))
      go_roundw
      case rel =>
        refine ⟨k + 1, by omega, by go_num, ?_, (hrel.out.step (World.grownBy_alloc wr _ none) (by simp)).step hgrow2 (fun i hi => Or.inr (hown.lt i hi).1)⟩
        rw [extra_succ, ← List.append_assoc]
        have e : u8s (bs ++ extra k ++ [200 + (k : Int)]) = u8s (bs ++ extra k) ++ [.int .u8 (200 + (k : Int))] := by simp [u8s]
        rw [e]
        exact hown2
      case measure => simp [intOf]; omega
    · obtain rfl : k = 24 := by omega
      obtain ⟨g', c', rfl, hb, hgl⟩ := hown.form (by omega)
      have HE := Hid.mk' hown
      have hcc : n + 24 ≤ c' := by
        rcases hown.2 with ⟨e1, _⟩ | ⟨_, _, _, e1, _, _, q, _⟩
        · cases e1
        · cases e1; exact q
      clear hown HR1
      go_wp2
      go_ret
      refine ⟨g', c', rfl, hcc, hb, hgl, fun i hi => ?_, hrel.out⟩
      rw [HE.out.cellAt i (by omega)]
      have hl : i < (bs ++ extra 24).length := by rw [List.length_append, HN.out, extra_len]; omega
      unfold u8s
      rw [List.getElem?_map, List.getElem?_eq_getElem hl, List.getD_eq_getElem?_getD, List.getElem?_eq_getElem hl]
      rfl

end Go.Proofs.Ytfiekdgpdboolab
