import Derived.Test.YtndojlacdggfcabP5
namespace Go.Proofs.Ytndojlacdggfcab
open Go.RowKit

theorem info51 : (Try.prog.info? 51).map (fun i => (i.zero, i.size, i.bytes)) = some (some (.agg #[.bool false, .int .i64 0, .int .i64 0]), 3, 24) := by kernel_rfl

def qcells (q : Put) : List Value := [.bool q.1, .int .i64 q.2.1, .int .i64 q.2.2]
def qflat (l : List Put) : List Value := l.flatMap qcells
theorem qflat_snoc (l : List Put) (q : Put) : qflat (l ++ [q]) = qflat l ++ qcells q := by simp [qflat]
theorem qflat_get (L : List Put) (k : Nat) (hk : k < L.length) : (qflat L)[k * 3]? = some (.bool (L.getD k d0).1) ∧ (qflat L)[k * 3 + 1]? = some (.int .i64 (L.getD k d0).2.1) ∧ (qflat L)[k * 3 + 2]? = some (.int .i64 (L.getD k d0).2.2) := by
  induction L generalizing k with
  | nil => simp at hk
  | cons x L ih =>
    cases k with
    | zero => exact ⟨rfl, rfl, rfl⟩
    | succ k =>
      have := ih k (by simpa using hk)
      have e : qflat (x :: L) = .bool x.1 :: .int .i64 x.2.1 :: .int .i64 x.2.2 :: qflat L := rfl
      rw [e, show (k + 1) * 3 = k * 3 + 1 + 1 + 1 by omega, show k * 3 + 1 + 1 + 1 + 1 = (k * 3 + 1) + 1 + 1 + 1 by omega, show k * 3 + 1 + 1 + 1 + 2 = (k * 3 + 2) + 1 + 1 + 1 by omega]
      simpa using this
theorem PutsIn.of_own {W : World} {base : Nat} {a : Option Addr} {l : List Put} {cap : Nat} (h : W.ownsRow base 51 3 (.slice a l.length cap) l.length (qflat l)) : PutsIn W a l := by
  intro h0
  rcases h.2 with ⟨h1, h2⟩ | ⟨gb, c, cur, h1, _⟩
  · omega
  · cases h1
    have hc := h.cells (g := gb) rfl
    refine ⟨gb, 0, rfl, (h.lt gb rfl).2, fun i hi => ?_⟩
    obtain ⟨q0, q1, q2⟩ := qflat_get l i hi
    have hadd : ∀ j, (⟨gb, 0, none⟩ : Addr).add j = ⟨gb, j, none⟩ := by intro j; unfold Addr.add; split <;> simp_all
    refine ⟨?_, ?_, ?_⟩
    · have := hc _ _ q0; rw [hadd] at this; rwa [Nat.zero_add]
    · have := hc _ _ q1; rw [hadd] at this; rwa [Nat.zero_add]
    · have := hc _ _ q2; rw [hadd] at this; rwa [Nat.zero_add]

theorem cells_next (W : World) (o : Obj) (a b c : Value) (t : TypeId) : ∀ j u, [a, b, c][j]? = some u → ((W.alloc o).alloc (.cells #[a, b, c] t)).cell? ((⟨W.heap.size + 1, 0, none⟩ : Addr).add j) = some u := by
  intro j u hj
  have := cells_three_new (W.alloc o) a b c t j u hj
  simpa using this

set_option maxRecDepth 100000 in
set_option maxHeartbeats 2000000 in
theorem good_any (w : World) (p : Option Addr) (l : List Put) (cap : Nat) (hp : PutsIn w p l) (hl : l.length * 24 ≤ 140737488355328) :
    Calls Try.prog 9 #[.slice p l.length cap] w fun e w' => ∃ a c, e = .returned (.slice a l.length c) ∧ Hid (Keeps (fun _ => False) w w' ∧ PutsIn w' a (goodL l)) := by
  obtain ⟨i0, hi, hz0, hz1, hz2⟩ := info_parts info51
  have hml : l.length ≤ 9223372036854775807 := by omega
  have HP := Hid.mk' hp
  clear hp
  go_enter Try.func9, Try.ntmps9
  go_wp2
  go_loopw [3, 4] (fun v i wr => ∃ k : Nat, k ≤ l.length ∧ i = .int .i64 k ∧ Hid (Keeps (fun _ => False) w wr ∧ wr.ownsRow w.heap.size 51 3 v k (qflat (goodL (l.take k))))) (fun _ i _ => l.length - (intOf i).toNat)
  case atStart => exact ⟨0, by omega, rfl, Keeps.refl _ _, World.ownsRow_nil _ _ _ _⟩
  case round =>
    obtain ⟨k, hk, rfl, hrel⟩ := hrel
    by_cases h1 : k < l.length
    · obtain ⟨b, o, rfl, hb, hc⟩ := HP.out (by omega)
      have c0 := hrel.out.1.cell (hc k h1).1 id
      have c1 := hrel.out.1.cell (hc k h1).2.1 id
      have c2 := hrel.out.1.cell (hc k h1).2.2 id
      have hrow := hrel.out.2
      have hle := hrel.out.1.size
      have ht : goodL (l.take (k + 1)) = goodL (l.take k) ++ [goodS (l.getD k d0)] := by rw [take_getD d0 h1]; simp [goodL]
      generalize l.getD k d0 = q at *
      obtain ⟨qc, x, y⟩ := q
      simp only at c0 c1 c2
      have HT := Hid.mk' ht
      have h1' : (k : Int) < (l.length : Int) := by omega
      have hpl := fun W => (place3_any y 1000000 W (by omega) (by omega)).mono (R' := fun e w' => e = .returned (.int .i64 (plc y 1000000)) ∧ W = w') (fun e w' ⟨h1, h2⟩ => ⟨h1, h2.symm⟩)
      clear hc ht
      go_wp2_with (first
        | (go_at_call 17; refine (hpl _).mono ?_; rintro e w2 ⟨rfl, hw2⟩; subst hw2)
        | (at_builtin; refine wpList_append_own _ rfl _ _ 22 rfl w.heap.size 51 i0 (.agg #[.bool false, .int .i64 0, .int .i64 0]) 3 24 Try.underlying22 hi hz0 hz1 hz2 rfl (by decide) _ _ _ rfl (World.ownsRow.alloc (World.ownsRow.alloc hrow _) _) ⟨wr.heap.size + 1, 0, none⟩ 1 1 [.bool qc, .int .i64 x, .int .i64 (plc y 1000000)] rfl rfl (cells_next wr _ _ _ _ 51) (by simp [Value.oneCell']) (by simp [maxLen]; omega) (by omega) (by simp; omega) ?_; intro v' w1 hown' hgrow _; have HA := Hid.mk' (And.intro hown' hgrow); clear hown' hgrow))
      go_roundw
      case rel => exact ⟨k + 1, by omega, by go_num, keeps_append (A := wr.alloc _) (hrel.out.1.trans (Keeps.new _ _)) (World.ownsRow.alloc hrow _) HA.out.2, by rw [HT.out, qflat_snoc]; exact HA.out.1⟩
      case measure => simp [intOf]; omega
    · have h1' : ¬ (k : Int) < (l.length : Int) := by omega
      obtain rfl : k = l.length := by omega
      obtain ⟨a, c, rfl⟩ : ∃ a c, u3 = .slice a l.length c := by
        rcases hrel.out.2.2 with ⟨h1, h2⟩ | ⟨gb, c, _, h1, _⟩
        · exact ⟨none, 0, by rw [h1, h2]⟩
        · exact ⟨_, c, h1⟩
      have HE := Hid.mk' (show goodL (l.take l.length) = goodL l by rw [List.take_length])
      go_wp2
      go_ret
      refine ⟨a, ⟨c, rfl⟩, hrel.out.1, ?_⟩
      have h := hrel.out.2
      rw [HE.out] at h
      have e := goodL_len l
      rw [← e] at h
      exact PutsIn.of_own h

end Go.Proofs.Ytndojlacdggfcab
