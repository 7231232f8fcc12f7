import Derived.Test.YtfekgfimbkgkfabC8
import Derived.Test.YtfekgfimbkgkfabA5
namespace Go.Proofs.Ytfekgfimbkgkfab
open Go.RowKit Go.Maps

theorem dotty_take (p : List ByteArray) (k : Nat) (hk : k < p.length) (h : dotty (p.take k) = false) : dotty (p.take (k + 1)) = (isDot (p.getD k bz) || isUp (p.getD k bz)) := by
  unfold dotty at h ⊢
  rw [take_getD bz hk, List.any_append, h]; simp
theorem dotty_hit (p : List ByteArray) (k : Nat) (hk : k < p.length) (h : (isDot (p.getD k bz) || isUp (p.getD k bz)) = true) : dotty p = true := by
  unfold dotty
  rw [List.any_eq_true]
  exact ⟨p.getD k bz, getD_mem bz hk, h⟩

set_option maxHeartbeats 1000000 in
set_option maxRecDepth 100000 in
theorem dots_any (w : World) (v : Value) (p : List ByteArray) (sl : Bool) (h : Row w v p.length (strs p)) (hn : p.length < 8796093022000) :
    Calls Try.prog 12 #[.agg #[v, .bool sl]] w fun e w' => e = .returned (.bool (dotty p)) ∧ Keeps (fun _ => False) w w' := by
  have HR : Hid (Row w v p.length (strs p)) := h
  obtain ⟨a, cap, rfl, _⟩ := h
  have hK0 : Keeps (fun _ => False) w (w.alloc (.cells #[.slice a p.length cap, .bool sl] 25)) := (Keeps.refl _ w).alloc _
  have hB0 := heap_last w (.cells #[.slice a p.length cap, .bool sl] 25)
  have HB : Hid (Keeps (fun _ => False) w (w.alloc (.cells #[.slice a p.length cap, .bool sl] 25)) ∧ (w.alloc (.cells #[.slice a p.length cap, .bool sl] 25)).heap[w.heap.size]? = some (.cells #[.slice a p.length cap, .bool sl] 25)) := ⟨hK0, hB0⟩
  clear hK0 hB0
  go_enter Try.func12, Try.ntmps12
  go_wp2
  obtain ⟨W0, hW0⟩ : ∃ W0, W0 = w.alloc (.cells #[.slice a p.length cap, .bool sl] 25) := ⟨_, rfl⟩
  rw [← hW0] at HB
  go_loopw [3] (fun i wr => ∃ k : Nat, k ≤ p.length ∧ i = .int .i64 k ∧ wr = W0 ∧ Hid (dotty (p.take k) = false)) (fun i _ => p.length - (intOf i).toNat)
  case atStart => exact ⟨0, Nat.zero_le _, rfl, hW0.symm, rfl⟩
  case round =>
    obtain ⟨k, hk, rfl, rfl, HL⟩ := hrel
    clear hW0
    obtain ⟨c0, c1, _⟩ := cells2 HB.out.2
    by_cases h1 : k < p.length
    · obtain ⟨b, o, cap', e, hb, hc⟩ := HR.out.pos (by omega)
      cases e
      have c2 := HB.out.1.cell (hc k _ (strs_get h1)) id
      have HS := Hid.mk' (dotty_take p k h1 HL.out)
      have HT := Hid.mk' (dotty_hit p k h1)
      generalize p.getD k bz = s at c2 HS HT
      clear hc
      have h1' : (k : Int) < (p.length : Int) := by omega
      rcases Bool.eq_false_or_eq_true (isDot s) with hD | hD
      · have hD' : (s.toList == [46]) = true := hD
        have hT := HT.out (by rw [hD]; rfl)
        clear hD
        go_wp2
        go_ret
        exact ⟨ret_bool hT.symm, HB.out.1⟩
      · have hD' : (s.toList == [46]) = false := hD
        rcases Bool.eq_false_or_eq_true (isUp s) with hU | hU
        · have hU' : (s.toList == [46, 46]) = true := hU
          have hT := HT.out (by rw [hU, Bool.or_true])
          clear hD hU
          go_wp2
          go_ret
          exact ⟨ret_bool hT.symm, HB.out.1⟩
        · have hU' : (s.toList == [46, 46]) = false := hU
          have HN : Hid (dotty (p.take (k + 1)) = false) := HS.out.trans (by rw [hD, hU]; rfl)
          clear hD hU
          go_wp2
          go_roundw
          case rel => exact ⟨k + 1, by omega, by go_num, trivial, HN⟩
          case measure => simp [intOf]; omega
    · have h1' : ¬ (k : Int) < (p.length : Int) := by omega
      go_wp2
      go_ret
      have := HL.out
      rw [List.take_of_length_le (by omega)] at this
      exact ⟨ret_bool this.symm, HB.out.1⟩

theorem take_eq_step {α : Type} (z : α) {la lb : List α} {k : Nat} (h1 : k < la.length) (h2 : k < lb.length) (h : la.take k = lb.take k) (e : la.getD k z = lb.getD k z) : la.take (k + 1) = lb.take (k + 1) := by
  rw [take_getD z h1, take_getD z h2, h, e]
theorem bytes_eq {a b : ByteArray} : (a.toList == b.toList) = decide (a = b) := by
  rw [ByteArray.toList_eq, ByteArray.toList_eq, Bool.eq_iff_iff]
  simp only [beq_iff_eq, decide_eq_true_eq]
  constructor
  · intro h; rw [← mkB_data a, h, mkB_data]
  · rintro rfl; rfl

set_option maxHeartbeats 2000000 in
set_option maxRecDepth 100000 in
theorem same_any (w : World) (va vb : Value) (pa pb : List ByteArray) (sa sb : Bool) (ha : Row w va pa.length (strs pa)) (hb : Row w vb pb.length (strs pb)) (hn : pa.length < 8796093022000) :
    Calls Try.prog 13 #[.agg #[va, .bool sa], .agg #[vb, .bool sb]] w fun e w' => e = .returned (.bool (decide (pa = pb ∧ sa = sb))) ∧ Keeps (fun _ => False) w w' := by
  have HA : Hid (Row w va pa.length (strs pa)) := ha
  have HB : Hid (Row w vb pb.length (strs pb)) := hb
  obtain ⟨aa, ca, rfl, _⟩ := ha
  obtain ⟨ab, cb, rfl, _⟩ := hb
  obtain ⟨n1, n2, n3, n4⟩ := two_blocks w (.cells #[.slice aa pa.length ca, .bool sa] 25) (.cells #[.slice ab pb.length cb, .bool sb] 25)
  have H0 := Hid.mk' (And.intro n1 (And.intro n2 n3))
  clear n1 n2 n3 n4
  by_cases hl : pa.length = pb.length
  · by_cases hs : sa = sb
    · subst hs
      have hd : decide (pa = pb ∧ sa = sa) = decide (pa = pb) := by simp
      rw [hd]
      obtain ⟨m, hm⟩ : ∃ m, m = pa.length := ⟨_, rfl⟩
      have HL : Hid (pa.length = m ∧ pb.length = m) := ⟨hm.symm, (hm.trans hl).symm⟩
      rw [← hm] at hn HA
      rw [show pb.length = m from HL.out.2] at HB
      rw [show pa.length = m from HL.out.1, show pb.length = m from HL.out.2] at H0 ⊢
      clear hl hd hm
      go_enter Try.func13, Try.ntmps13
      go_wp2
      obtain ⟨W0, hW0⟩ : ∃ W0, W0 = (w.alloc (.cells #[.slice aa m ca, .bool sa] 25)).alloc (.cells #[.slice ab m cb, .bool sa] 25) := ⟨_, rfl⟩
      rw [← hW0] at H0
      go_loopw [5] (fun i wr => ∃ k : Nat, k ≤ m ∧ i = .int .i64 k ∧ Hid (pa.take k = pb.take k ∧ Keeps (fun _ => False) W0 wr)) (fun i _ => m - (intOf i).toNat)
      case atStart => exact ⟨0, Nat.zero_le _, rfl, rfl, by rw [← hW0]; exact Keeps.refl _ _⟩
      case round =>
        obtain ⟨k, hk, rfl, HI⟩ := hrel
        clear hW0
        obtain ⟨c0, c1, _⟩ := cells2 (HI.out.2.at H0.out.1 id)
        obtain ⟨e0, e1, _⟩ := cells2 (HI.out.2.at H0.out.2.1 id)
        by_cases h1 : k < m
        · obtain ⟨b, o, cap', e, hb, hc⟩ := HA.out.pos (by omega)
          cases e
          obtain ⟨b2, o2, cap2, e, hb2, hc2⟩ := HB.out.pos (by omega)
          cases e
          have g0 := (H0.out.2.2.trans HI.out.2).cell (hc k _ (strs_get (by rw [HL.out.1]; exact h1))) id
          have g1 := (H0.out.2.2.trans HI.out.2).cell (hc2 k _ (strs_get (by rw [HL.out.2]; exact h1))) id
          have h1' : (k : Int) < (m : Int) := by omega
          by_cases he : pa.getD k bz = pb.getD k bz
          · have HT : Hid (pa.take (k + 1) = pb.take (k + 1)) := take_eq_step bz (by rw [HL.out.1]; exact h1) (by rw [HL.out.2]; exact h1) HI.out.1 he
            rw [← he] at g1
            generalize pa.getD k bz = s at g0 g1
            have hss : (s.toList == s.toList) = true := by simp
            clear hc hc2 he
            go_wp2
            go_quiet (fail)
            go_wp2
            go_roundw
            case rel => exact ⟨k + 1, by omega, by go_num, HT.out, HI.out.2.trans (Keeps.drewN _ _ _)⟩
            case measure => simp [intOf]; omega
          · have HT : Hid (pa ≠ pb) := fun e => he (by rw [e])
            have hss : ((pa.getD k bz).toList == (pb.getD k bz).toList) = false := by rw [bytes_eq, decide_eq_false he]
            generalize pa.getD k bz = s at g0 hss
            generalize pb.getD k bz = t at g1 hss
            clear hc hc2 he
            go_wp2
            go_quiet (fail)
            go_wp2
            go_ret
            exact ⟨ret_bool (by simp [HT.out]), (H0.out.2.2.trans HI.out.2).trans (Keeps.drewN _ _ _)⟩
        · have h1' : ¬ (k : Int) < (m : Int) := by omega
          go_wp2
          go_ret
          have := HI.out.1
          rw [List.take_of_length_le (by rw [HL.out.1]; omega), List.take_of_length_le (by rw [HL.out.2]; omega)] at this
          exact ⟨ret_bool (by simp [this]), H0.out.2.2.trans HI.out.2⟩
    · have hd : decide (pa = pb ∧ sa = sb) = false := by simp [hs]
      rw [hd]
      have hl2 : ((pa.length : Int) != (pb.length : Int)) = false := by simp [hl]
      have hl3 : ((pa.length : Int) == (pb.length : Int)) = true := by simp [hl]
      obtain ⟨c0, c1, _⟩ := cells2 H0.out.1
      obtain ⟨e0, e1, _⟩ := cells2 H0.out.2.1
      have hs' : sb = !sa := by cases sa <;> cases sb <;> simp_all
      subst hs'
      cases sa
      all_goals
        go_enter Try.func13, Try.ntmps13
        go_wp2
        go_ret
        exact ⟨rfl, ((Keeps.refl _ w).alloc _).alloc _⟩
  · have hd : decide (pa = pb ∧ sa = sb) = false := decide_eq_false (fun h => hl (by rw [h.1]))
    rw [hd]
    have hl2 : ((pa.length : Int) != (pb.length : Int)) = true := by simp; omega
    have hl3 : ((pa.length : Int) == (pb.length : Int)) = false := by simp; omega
    obtain ⟨c0, c1, _⟩ := cells2 H0.out.1
    obtain ⟨e0, e1, _⟩ := cells2 H0.out.2.1
    go_enter Try.func13, Try.ntmps13
    go_wp2
    go_ret
    exact ⟨rfl, ((Keeps.refl _ w).alloc _).alloc _⟩

theorem own_row0 (b o : Nat) : (⟨b, o, none⟩ : Addr).add 0 = ⟨b, o, none⟩ := addr_zero _
def fA : ByteArray := ⟨#[97]⟩
def fB : ByteArray := ⟨#[98]⟩
def fE : List Ed := [(1, fA, 2, true), (2, fB, 3, true)]
theorem f_prsE : prsE [47, 97, 47, 47, 98, 47] = 0 := by decide +kernel
theorem f_prsS : prsS [47, 97, 47, 47, 98, 47] = true := by decide +kernel
theorem f_prsP : prsP [47, 97, 47, 47, 98, 47] = [fA, fB] := by decide +kernel
theorem f_txt : txtF [fA, fB] true = ⟨#[47, 97, 47, 98, 47]⟩ := by decide +kernel
theorem f_rsv : rsv (tabF fE) [fA, fB] true = (3, true, 0) := by decide +kernel
theorem f_prn : prn (tabF fE) [fA, fB] = (2, fB, 0) := by decide +kernel
end Go.Proofs.Ytfekgfimbkgkfab
