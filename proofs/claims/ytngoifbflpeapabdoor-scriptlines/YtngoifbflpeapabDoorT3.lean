import Derived.Test.YtngoifbflpeapabDoorT2
namespace Go.Proofs.YtngoifbflpeapabDoor
open Go.RowKit Go.Maps
set_option maxRecDepth 100000

theorem byte_at (s : ByteArray) (k : Nat) (hk : k < s.size) : s.data.toList[k]? = some s[k] := by
  have : k < s.data.toList.length := by rw [← size_len]; exact hk
  rw [List.getElem?_eq_getElem this]
  rfl
set_option maxHeartbeats 8000000 in
theorem rnumber_any (w : World) (s : ByteArray) :
    Calls Tryd.prog 27 #[.string s] w fun e w' => ∃ n, e = .returned (.tuple #[.int .i64 n, .bool (num s.data.toList).isSome]) ∧ Hid ((∀ v, num s.data.toList = some v → n = v) ∧ Keeps (fun _ => False) w w') := by
  have HS := Hid.mk' (size_len s)
  by_cases hz : s.size = 0
  · have hx : s.data.toList = [] := List.length_eq_zero_iff.1 (by rw [← HS.out]; exact hz)
    have hi : s.toList.isEmpty = true := by rw [ByteArray.toList_eq, hx]; rfl
    have HN : Hid (num s.data.toList = none) := by show _ = _; rw [hx]; exact num_nil
    clear hx
    go_enter Tryd.func27, Tryd.ntmps27
    go_wp2
    try rw [Exit.noGoto_ret]
    refine bodyPost_ret (v := .tuple #[.int .i64 0, .bool false]) (by simp [results, Tryd.results27, go_sem]) rfl ?_
    exact ⟨0, by rw [HN.out]; rfl, And.intro (fun v h => absurd h (by rw [HN.out]; simp)) (Keeps.refl _ _)⟩
  have hi : s.toList.isEmpty = false := by rw [List.isEmpty_eq_false_iff, Ne, empty_iff]; exact hz
  by_cases hbig : 20 < s.size
  · have hbig' : (20 : Int) < (s.size : Int) := by omega
    have HN : Hid (num s.data.toList = none) := by
      show _ = _
      cases hv : num s.data.toList with
      | none => rfl
      | some v =>
        have ht := num_text hv
        have := itoa_len20 ht.2
        rw [← ht.1, ← HS.out] at this
        omega
    go_enter Tryd.func27, Tryd.ntmps27
    go_wp2
    try rw [Exit.noGoto_ret]
    refine bodyPost_ret (v := .tuple #[.int .i64 0, .bool false]) (by simp [results, Tryd.results27, go_sem]) rfl ?_
    exact ⟨0, by rw [HN.out]; rfl, And.intro (fun v h => absurd h (by rw [HN.out]; simp)) (Keeps.refl _ _)⟩
  have hbig' : ¬ (20 : Int) < (s.size : Int) := by omega
  go_enter Tryd.func27, Tryd.ntmps27
  go_wp2
  go_loopw [4, 5] (fun vm vi wr => ∃ (k : Nat) (m : Int), k ≤ s.size ∧ vi = .int .i64 k ∧ vm = .int .i64 m ∧ Hid (NK s.data.toList k m) ∧ Hid (Keeps (fun _ => False) w wr)) (fun _ vi _ => s.size - (intOf vi).toNat)
  case atStart => exact ⟨0, 0, Nat.zero_le _, rfl, rfl, ⟨by decide, fun _ _ => rfl⟩, Keeps.refl _ _⟩
  case round =>
    obtain ⟨k, m, hk, rfl, rfl, HN, HK⟩ := hrel
    by_cases h1 : k < s.size
    · have h1' : (k : Int) < (s.size : Int) := by omega
      have hby := byte_at s k h1
      generalize hbb : s[k] = b at *
      have hbl : b.toNat < 256 := b.toNat_lt
      by_cases hd : 48 ≤ b.toNat ∧ b.toNat ≤ 57
      · have d1 : (48 : Int) ≤ (b.toNat : Int) := by omega
        have d2 : (b.toNat : Int) ≤ 57 := by omega
        have HN2 := Hid.mk' (HN.out.digit hby hd)
        clear hby hd
        go_wp2
        go_roundw
        case rel => exact ⟨k + 1, _, by omega, by go_num, rfl, HN2.out, HK.out⟩
        case measure => simp [intOf]; omega
      · by_cases h0 : k = 0 ∧ b = 45
        · obtain ⟨rfl, rfl⟩ := h0
          have HN2 := Hid.mk' (HN.out.minus hby)
          clear hby hd
          go_wp2
          go_roundw
          case rel => exact ⟨1, m, by omega, by go_num, rfl, HN2.out, HK.out⟩
          case measure => simp [intOf]; omega
        · have HNo := Hid.mk' (NK.bad hby hd h0)
          have hg : (0 < k) ∨ (k = 0 ∧ ¬ b = 45) := by
            rcases Nat.eq_zero_or_pos k with h | h
            · exact Or.inr ⟨h, fun e => h0 ⟨h, e⟩⟩
            · exact Or.inl h
          clear hby h0
          have hdd : (b.toNat < 48) ∨ (48 ≤ b.toNat ∧ 57 < b.toNat) := by omega
          clear hd
          have fin45 : ¬ b = 45 → (((b.toNat : Nat) : Int) != 45) = true := by
            intro h
            refine bne_iff_ne.2 (fun e => h ?_)
            have : b.toNat = 45 := by omega
            exact UInt8.toNat_inj.1 (by rw [this]; rfl)
          rcases hdd with hdd | ⟨hda, hdb⟩
          · have d1 : ¬ (48 : Int) ≤ (b.toNat : Int) := by omega
            rcases hg with hg | ⟨rfl, hg⟩
            · have g1 : (0 : Int) < (k : Int) := by omega
              clear fin45
              go_wp2
              try rw [Exit.noGoto_ret]
              refine bodyPost_ret (v := .tuple #[.int .i64 0, .bool false]) (by simp [results, Tryd.results27, go_sem]) rfl ?_
              exact ⟨0, by rw [HNo.out]; rfl, And.intro (fun v h => absurd h (by rw [HNo.out]; simp)) HK.out⟩
            · have g1 := fin45 hg
              clear fin45
              go_wp2
              try rw [Exit.noGoto_ret]
              refine bodyPost_ret (v := .tuple #[.int .i64 0, .bool false]) (by simp [results, Tryd.results27, go_sem]) rfl ?_
              exact ⟨0, by rw [HNo.out]; rfl, And.intro (fun v h => absurd h (by rw [HNo.out]; simp)) HK.out⟩
          · have d1 : (48 : Int) ≤ (b.toNat : Int) := by omega
            have d2 : ¬ (b.toNat : Int) ≤ 57 := by omega
            rcases hg with hg | ⟨rfl, hg⟩
            · have g1 : (0 : Int) < (k : Int) := by omega
              clear fin45
              go_wp2
              try rw [Exit.noGoto_ret]
              refine bodyPost_ret (v := .tuple #[.int .i64 0, .bool false]) (by simp [results, Tryd.results27, go_sem]) rfl ?_
              exact ⟨0, by rw [HNo.out]; rfl, And.intro (fun v h => absurd h (by rw [HNo.out]; simp)) HK.out⟩
            · have g1 := fin45 hg
              clear fin45
              go_wp2
              try rw [Exit.noGoto_ret]
              refine bodyPost_ret (v := .tuple #[.int .i64 0, .bool false]) (by simp [results, Tryd.results27, go_sem]) rfl ?_
              exact ⟨0, by rw [HNo.out]; rfl, And.intro (fun v h => absurd h (by rw [HNo.out]; simp)) HK.out⟩
    · have h1' : ¬ (k : Int) < (s.size : Int) := by omega
      obtain rfl : k = s.size := by omega
      have hby := byte_at s 0 (by omega)
      have hpos : (0 : Int) < (s.size : Int) := by omega
      have hps : 0 < s.size := by omega
      have HX := Hid.mk' HN.out
      rw [HS.out] at HX
      generalize hbb : s[0] = b at *
      by_cases h45 : b = 45
      · subst h45
        have hf := HX.out.fin hby m (by rw [if_pos rfl])
        have hsh := fun W => show_any W m hf.2.2
        have HF := Hid.mk' hf
        have HQ : Hid (((mkB (Lib.itoa m)).toList == s.toList) = (num s.data.toList).isSome) := by
          show _ = _
          rcases Bool.eq_false_or_eq_true ((mkB (Lib.itoa m)).toList == s.toList) with h | h
          · rw [h]
            have e := toList_inj (beq_iff_eq.1 h)
            have e2 : Lib.itoa m = s.data.toList := by rw [← e, data_mkB]
            exact (HF.out.2.1.1 e2).symm
          · rw [h]
            cases hv : (num s.data.toList).isSome with
            | false => rfl
            | true =>
              have e := HF.out.2.1.2 hv
              rw [e, mkB_data] at h
              simp at h
        clear hf hby
        generalize hBB : ((mkB (Lib.itoa m)).toList == s.toList) = BB at *
        go_wp2_with (first | (go_at_call 38; refine (hsh _).mono ?_; clear hsh; rintro e w3 ⟨rfl, hk3⟩; have HK3 := Hid.mk' hk3; clear hk3))
        try rw [Exit.noGoto_ret]
        refine bodyPost_ret (v := .tuple #[.int .i64 m, .bool BB]) (by simp [results, Tryd.results27, go_sem]) rfl ?_
        exact ⟨_, by rw [HQ.out], And.intro HF.out.1 (HK.out.trans HK3.out)⟩
      · have hf := HX.out.fin hby (wrap64 (-m)) (by rw [if_neg h45])
        have hsh := fun W => show_any W (wrap64 (-m)) hf.2.2
        have g1 : (((b.toNat : Nat) : Int) != 45) = true := by
          refine bne_iff_ne.2 (fun e => h45 ?_)
          have : b.toNat = 45 := by omega
          exact UInt8.toNat_inj.1 (by rw [this]; rfl)
        have HF := Hid.mk' hf
        have HQ : Hid (((mkB (Lib.itoa (wrap64 (-m)))).toList == s.toList) = (num s.data.toList).isSome) := by
          show _ = _
          rcases Bool.eq_false_or_eq_true ((mkB (Lib.itoa (wrap64 (-m)))).toList == s.toList) with h | h
          · rw [h]
            have e := toList_inj (beq_iff_eq.1 h)
            have e2 : Lib.itoa (wrap64 (-m)) = s.data.toList := by rw [← e, data_mkB]
            exact (HF.out.2.1.1 e2).symm
          · rw [h]
            cases hv : (num s.data.toList).isSome with
            | false => rfl
            | true =>
              have e := HF.out.2.1.2 hv
              rw [e, mkB_data] at h
              simp at h
        clear hf hby
        generalize hBB : ((mkB (Lib.itoa (wrap64 (-m)))).toList == s.toList) = BB at *
        go_wp2_with (first | (go_at_call 38; refine (hsh _).mono ?_; clear hsh; rintro e w3 ⟨rfl, hk3⟩; have HK3 := Hid.mk' hk3; clear hk3))
        try rw [Exit.noGoto_ret]
        refine bodyPost_ret (v := .tuple #[.int .i64 (wrap64 (-m)), .bool BB]) (by simp [results, Tryd.results27, go_sem]) rfl ?_
        exact ⟨_, by rw [HQ.out], And.intro HF.out.1 (HK.out.trans HK3.out)⟩
end Go.Proofs.YtngoifbflpeapabDoor

