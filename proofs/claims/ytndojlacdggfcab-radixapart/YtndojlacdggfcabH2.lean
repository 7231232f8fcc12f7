import Derived.Test.YtndojlacdggfcabH1
namespace Go.Proofs.Ytndojlacdggfcab
open Go.RowKit

theorem els_snoc (g : Nat → Int) (lo : Int) (k : Nat) (hk : k < 512) : els g lo 0 (k + 1) = els g lo 0 k ++ (if lo ≤ (k : Int) ∧ g k ≠ 0 then [(⟨k, hk⟩, g k)] else []) := by
  rw [els_add, Nat.zero_add]
  congr 1
  split
  · rename_i h
    exact els_one hk h.1 h.2
  · rename_i h
    refine els_none fun o h1 h2 => ?_
    obtain rfl : o = k := by omega
    by_cases h3 : lo ≤ (o : Int)
    · right
      by_cases h4 : g o = 0
      · exact h4
      · exact absurd ⟨h3, h4⟩ h
    · left; omega

def pcells (x : El) : List Value := [.int .i64 (x.1.val : Int), .int .i64 x.2]
def pflat (l : List El) : List Value := l.flatMap pcells
theorem pflat_len (l : List El) : (pflat l).length = l.length * 2 := by
  induction l with
  | nil => rfl
  | cons r l ih => simp [pflat, pcells] at ih ⊢; omega
theorem pflat_snoc (l : List El) (x : El) : pflat (l ++ [x]) = pflat l ++ [.int .i64 (x.1.val : Int), .int .i64 x.2] := by simp [pflat, pcells]
theorem cells_two_new (W : World) (a b : Value) (t : TypeId) : ∀ j u, [a, b][j]? = some u → (W.alloc (.cells #[a, b] t)).cell? ((⟨W.heap.size, 0, none⟩ : Addr).add j) = some u := by
  intro j u hj
  have hadd : (⟨W.heap.size, 0, none⟩ : Addr).add j = ⟨W.heap.size, j, none⟩ := by unfold Addr.add; split <;> simp_all
  rw [hadd, cell_of_row _ _ j _ t (0, 0) (MapKept.heap_alloc W _).1]
  simpa using hj
theorem info90 : (Try.prog.info? 90).map (fun i => (i.zero, i.size, i.bytes)) = some (some (.agg #[.int .i64 0, .int .i64 0]), 2, 16) := by kernel_rfl
/-- An append to a row of the call's own turns nothing that lay in w. -/
theorem keeps_append {w A B : World} {e : TypeId} {size : Nat} {v : Value} {k : Nat} {xs : List Value} {o : Obj} (hk : Keeps (fun _ => False) w A) (hr : A.ownsRow w.heap.size e size v k xs) (hg : (A.alloc o).grownBy B v.ownBlock) : Keeps (fun _ => False) w B :=
  (hk.trans (Keeps.new A o)).step hg (fun c hc => .inr (hr.lt c hc).1)

set_option maxRecDepth 100000 in
set_option maxHeartbeats 2000000 in
theorem ref_from (w : World) (b : Nat) (f : Nat → Int) (lo : Int) (h : RefAt w b f) : Calls Try.prog 49 #[.pointer (some ⟨b, 0, none⟩), .int .i64 lo] w fun e w' =>
    ∃ s, e = .returned s ∧ Hid (Keeps (fun _ => False) w w' ∧ w'.ownsRow w.heap.size 90 2 s (els f lo 0 512).length (pflat (els f lo 0 512))) := by
  obtain ⟨i0, hi, hz0, hz1, hz2⟩ := info_parts info90
  have HR := Hid.mk' h
  clear h
  go_enter Try.func49, Try.ntmps49
  go_wp2
  go_loopw [5, 6] (fun v i wr => ∃ k : Nat, k ≤ 512 ∧ i = .int .i64 k ∧ Hid (Keeps (fun _ => False) w wr ∧ wr.ownsRow w.heap.size 90 2 v (els f lo 0 k).length (pflat (els f lo 0 k)))) (fun _ i _ => 512 - (intOf i).toNat)
  case atStart => exact ⟨0, by omega, rfl, Keeps.refl _ _, World.ownsRow_nil _ _ _ _⟩
  case round =>
    obtain ⟨k, hk, rfl, hrel⟩ := hrel
    by_cases h1 : k < 512
    · have h1' : (k : Int) < 512 := by omega
      have hsn := els_snoc f lo k h1
      have hln := els_len f lo 0 k
      have hc := ref_cell (show RefAt _ b f from hrel.out.1.at HR.out id) k h1
      by_cases h2 : lo ≤ (k : Int)
      · by_cases h3 : f k = 0
        · rw [if_neg (by simp [h3]), List.append_nil] at hsn
          rw [h3] at hc
          have HS := Hid.mk' hsn
          clear hsn
          go_wp2
          go_roundw
          case rel => exact ⟨k + 1, by omega, by go_num, by rw [HS.out]; exact hrel⟩
          case measure => simp [intOf]; omega
        · rw [if_pos ⟨h2, h3⟩] at hsn
          have h3b : (f k == 0) = false := by simpa using h3
          have HS := Hid.mk' hsn
          have hrow := hrel.out.2
          have hle := hrel.out.1.size
          clear hsn
          generalize els f lo 0 k = L at *
          go_wp2_with (at_builtin; refine wpList_append_own _ rfl _ _ 87 rfl w.heap.size 90 i0 (.agg #[.int .i64 0, .int .i64 0]) 2 16 Try.underlying87 hi hz0 hz1 hz2 rfl (by decide) _ _ _ rfl (hrow.alloc _) ⟨wr.heap.size, 0, none⟩ 1 1 [.int .i64 (k : Int), .int .i64 (f k)] rfl rfl (cells_two_new _ _ _ _) (by simp [Value.oneCell']) (by simp [maxLen]; omega) (by omega) (by simp; omega) ?_; intro v' w1 hown' hgrow _; have HA := Hid.mk' (And.intro hown' hgrow); clear hown' hgrow)
          go_roundw
          case rel => exact ⟨k + 1, by omega, by go_num, keeps_append hrel.out.1 hrow HA.out.2, by rw [HS.out, pflat_snoc]; simpa using HA.out.1⟩
          case measure => simp [intOf]; omega
      · rw [if_neg (by simp [h2])] at hsn
        rw [List.append_nil] at hsn
        have h2' : (k : Int) < lo := by omega
        have HS := Hid.mk' hsn
        clear hsn
        go_wp2
        go_roundw
        case rel => exact ⟨k + 1, by omega, by go_num, by rw [HS.out]; exact hrel⟩
        case measure => simp [intOf]; omega
    · obtain rfl : k = 512 := by omega
      go_wp2
      go_ret
      exact ⟨_, rfl, hrel⟩

end Go.Proofs.Ytndojlacdggfcab
