import Derived.Test.YtfiekdgpdboolacM2
namespace Go.Proofs.Ytfiekdgpdboolac
open Go.RowKit Go.Maps

set_option maxHeartbeats 400000 in
theorem sameWords_yes (ga gb n ca cb : Nat) (bs : List Int) (w : World) (ha : ∀ i, i < n → w.cell? ⟨ga, i, none⟩ = some (.int .u64 (bs.getD i 0))) (hb : ∀ i, i < n → w.cell? ⟨gb, i, none⟩ = some (.int .u64 (bs.getD i 0))) (_hn : n ≤ 1000000000) :
    Calls Try.prog 69 #[.slice (some ⟨ga, 0, none⟩) n ca, .slice (some ⟨gb, 0, none⟩) n cb] w fun e w' => e = .returned (.bool true) ∧ ∃ q, w' = w.drewN q := by
  have HA := Hid.mk' ha
  have HB := Hid.mk' hb
  clear ha hb
  go_enter Try.func69, Try.ntmps69
  go_wp2
  go_loopw [5] (fun i wr => ∃ k : Nat, k ≤ n ∧ i = .int .i64 k ∧ ∃ q, wr = w.drewN q) (fun i _ => n - (intOf i).toNat)
  case atStart => exact ⟨0, by omega, rfl, 0, rfl⟩
  case round =>
    obtain ⟨k, hk, rfl, q, rfl⟩ := hrel
    by_cases hlt : k < n
    · have h1 := HA.out k hlt
      have h2 := HB.out k hlt
      have h3 : (0 : Int) ≤ (k : Int) := by omega
      have h4 : (k : Int) < (n : Int) := by omega
      generalize bs.getD k 0 = x at h1 h2
      go_upto_region 6 with fail
      go_quiet (fail)
      go_wp2
      go_roundw
      case rel => exact ⟨k + 1, by omega, by go_num, _, rfl⟩
      case measure => simp [intOf]; omega
    · obtain rfl : k = n := by omega
      go_wp2
      go_ret
      exact ⟨rfl, q, rfl⟩

theorem cells_u64 {w : World} {g : Nat} {bs : List Int} (h : w.heap[g]? = some (.cells (u64s bs).toArray 28 (0, 0))) : ∀ i, i < bs.length → w.cell? ⟨g, i, none⟩ = some (.int .u64 (bs.getD i 0)) := by
  intro i hi
  simp [World.cell?, h, u64s, List.getD_eq_getElem?_getD, hi]

theorem keeps_drewN' (X : Nat → Prop) (w w' : World) (q : Nat) (h : w' = w.drewN q) : Keeps X w w' := by
  subst h
  exact ⟨rfl, rfl, rfl, Nat.le_refl _, fun _ _ _ => rfl⟩

theorem doubtCells_get (S : St) (ng : Int → Nat) (ks : List Int) (i : Nat) (hi : i < ks.length) :
    (doubtCells S ng ks)[i * 3]? = some (.int .i64 (ks.getD i 0)) ∧ (doubtCells S ng ks)[i * 3 + 1]? = some (.int .u64 (wordAt S.old (ks.getD i 0).toNat)) ∧
    (doubtCells S ng ks)[i * 3 + 2]? = some (.slice (some ⟨ng (ks.getD i 0), 0, none⟩) (S.pd (ks.getD i 0)).length (S.pd (ks.getD i 0)).length) := by
  induction ks generalizing i with
  | nil => simp at hi
  | cons a l ih =>
    have e : doubtCells S ng (a :: l) = [.int .i64 a, .int .u64 (wordAt S.old a.toNat), .slice (some ⟨ng a, 0, none⟩) (S.pd a).length (S.pd a).length] ++ doubtCells S ng l := by simp [doubtCells]
    rw [e]
    cases i with
    | zero => simp
    | succ i =>
      have hi' : i < l.length := by simpa using hi
      obtain ⟨h1, h2, h3⟩ := ih i hi'
      have e1 : (a :: l).getD (i + 1) 0 = l.getD i 0 := by simp [List.getD_eq_getElem?_getD]
      rw [e1]
      refine ⟨?_, ?_, ?_⟩
      · rw [List.getElem?_append_right (by simp; omega), ← h1]; congr 1; simp; omega
      · rw [List.getElem?_append_right (by simp; omega), ← h2]; congr 1; simp; omega
      · rw [List.getElem?_append_right (by simp; omega), ← h3]; congr 1; simp; omega

end Go.Proofs.Ytfiekdgpdboolac
