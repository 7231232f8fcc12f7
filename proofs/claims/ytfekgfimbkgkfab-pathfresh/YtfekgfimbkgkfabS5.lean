import Derived.Test.YtfekgfimbkgkfabD1
namespace Go.Proofs.Ytfekgfimbkgkfab
open Go.RowKit Go.Maps
set_option maxHeartbeats 2000000 in
set_option maxRecDepth 100000 in
theorem rsame_any (w : World) (va vb : Value) (pa pb : List ByteArray) (sa sb : Bool) (ha : Row w va pa.length (strs pa)) (hb : Row w vb pb.length (strs pb)) (hn : pa.length < 8796093022000) :
    Calls Try.prog 37 #[.agg #[va, .bool sa], .agg #[vb, .bool sb]] w fun e w' => e = .returned (.bool (decide (pa = pb ∧ sa = sb))) ∧ Keeps (fun _ => False) w w' := by
  have HA : Hid (Row w va pa.length (strs pa)) := ha
  have HB : Hid (Row w vb pb.length (strs pb)) := hb
  obtain ⟨aa, ca, rfl, _⟩ := ha
  obtain ⟨ab, cb, rfl, _⟩ := hb
  obtain ⟨n1, n2, n3, n4⟩ := two_blocks w (.cells #[.slice aa pa.length ca, .bool sa] 25) (.cells #[.slice ab pb.length cb, .bool sb] 25)
  have H0 := Hid.mk' (And.intro n1 (And.intro n2 n3))
  clear n1 n2 n3 n4
  by_cases hl : pa.length = pb.length
  · by_cases hs : sa = sb
    · subst hs
      have hd : decide (pa = pb ∧ sa = sa) = decide (pa = pb) := by simp
      rw [hd]
      obtain ⟨m, hm⟩ : ∃ m, m = pa.length := ⟨_, rfl⟩
      have HL : Hid (pa.length = m ∧ pb.length = m) := ⟨hm.symm, (hm.trans hl).symm⟩
      rw [← hm] at hn HA
      rw [show pb.length = m from HL.out.2] at HB
      rw [show pa.length = m from HL.out.1, show pb.length = m from HL.out.2] at H0 ⊢
      clear hl hd hm
      go_enter Try.func37, Try.ntmps37
      go_wp2
      obtain ⟨W0, hW0⟩ : ∃ W0, W0 = (w.alloc (.cells #[.slice aa m ca, .bool sa] 25)).alloc (.cells #[.slice ab m cb, .bool sa] 25) := ⟨_, rfl⟩
      rw [← hW0] at H0
      go_loopw [5] (fun i wr => ∃ k : Nat, k ≤ m ∧ i = .int .i64 k ∧ Hid (pa.take k = pb.take k ∧ Keeps (fun _ => False) W0 wr)) (fun i _ => m - (intOf i).toNat)
      case atStart => exact ⟨0, Nat.zero_le _, rfl, rfl, by rw [← hW0]; exact Keeps.refl _ _⟩
      case round =>
        obtain ⟨k, hk, rfl, HI⟩ := hrel
        clear hW0
        obtain ⟨c0, c1, _⟩ := cells2 (HI.out.2.at H0.out.1 id)
        obtain ⟨e0, e1, _⟩ := cells2 (HI.out.2.at H0.out.2.1 id)
        by_cases h1 : k < m
        · obtain ⟨b, o, cap', e, hb, hc⟩ := HA.out.pos (by omega)
          cases e
          obtain ⟨b2, o2, cap2, e, hb2, hc2⟩ := HB.out.pos (by omega)
          cases e
          have g0 := (H0.out.2.2.trans HI.out.2).cell (hc k _ (strs_get (by rw [HL.out.1]; exact h1))) id
          have g1 := (H0.out.2.2.trans HI.out.2).cell (hc2 k _ (strs_get (by rw [HL.out.2]; exact h1))) id
          have h1' : (k : Int) < (m : Int) := by omega
          by_cases he : pa.getD k bz = pb.getD k bz
          · have HT : Hid (pa.take (k + 1) = pb.take (k + 1)) := take_eq_step bz (by rw [HL.out.1]; exact h1) (by rw [HL.out.2]; exact h1) HI.out.1 he
            rw [← he] at g1
            generalize pa.getD k bz = s at g0 g1
            have hss : (s.toList == s.toList) = true := by simp
            clear hc hc2 he
            go_wp2
            go_quiet (fail)
            go_wp2
            go_roundw
            case rel => exact ⟨k + 1, by omega, by go_num, HT.out, HI.out.2.trans (Keeps.drewN _ _ _)⟩
            case measure => simp [intOf]; omega
          · have HT : Hid (pa ≠ pb) := fun e => he (by rw [e])
            have hss : ((pa.getD k bz).toList == (pb.getD k bz).toList) = false := by rw [bytes_eq, decide_eq_false he]
            generalize pa.getD k bz = s at g0 hss
            generalize pb.getD k bz = t at g1 hss
            clear hc hc2 he
            go_wp2
            go_quiet (fail)
            go_wp2
            go_ret
            exact ⟨ret_bool (by simp [HT.out]), (H0.out.2.2.trans HI.out.2).trans (Keeps.drewN _ _ _)⟩
        · have h1' : ¬ (k : Int) < (m : Int) := by omega
          go_wp2
          go_ret
          have := HI.out.1
          rw [List.take_of_length_le (by rw [HL.out.1]; omega), List.take_of_length_le (by rw [HL.out.2]; omega)] at this
          exact ⟨ret_bool (by simp [this]), H0.out.2.2.trans HI.out.2⟩
    · have hd : decide (pa = pb ∧ sa = sb) = false := by simp [hs]
      rw [hd]
      have hl2 : ((pa.length : Int) != (pb.length : Int)) = false := by simp [hl]
      have hl3 : ((pa.length : Int) == (pb.length : Int)) = true := by simp [hl]
      obtain ⟨c0, c1, _⟩ := cells2 H0.out.1
      obtain ⟨e0, e1, _⟩ := cells2 H0.out.2.1
      have hs' : sb = !sa := by cases sa <;> cases sb <;> simp_all
      subst hs'
      cases sa
      all_goals
        go_enter Try.func37, Try.ntmps37
        go_wp2
        go_ret
        exact ⟨rfl, ((Keeps.refl _ w).alloc _).alloc _⟩
  · have hd : decide (pa = pb ∧ sa = sb) = false := decide_eq_false (fun h => hl (by rw [h.1]))
    rw [hd]
    have hl2 : ((pa.length : Int) != (pb.length : Int)) = true := by simp; omega
    have hl3 : ((pa.length : Int) == (pb.length : Int)) = false := by simp; omega
    obtain ⟨c0, c1, _⟩ := cells2 H0.out.1
    obtain ⟨e0, e1, _⟩ := cells2 H0.out.2.1
    go_enter Try.func37, Try.ntmps37
    go_wp2
    go_ret
    exact ⟨rfl, ((Keeps.refl _ w).alloc _).alloc _⟩

end Go.Proofs.Ytfekgfimbkgkfab
