import Derived.Test.YtfekgfimbkgkfabB1
namespace Go.Proofs.Ytfekgfimbkgkfab
open Go.RowKit Go.Maps

theorem okPart_iff {s : ByteArray} : okPart s = true ↔ s.size ≠ 0 ∧ s.size ≤ 28 ∧ ∀ j, j < s.data.toList.length → s.data.toList.getD j 0 ≠ 47 ∧ s.data.toList.getD j 0 ≠ 0 := by
  unfold okPart
  rw [Bool.and_eq_true, Bool.and_eq_true]
  constructor
  · rintro ⟨⟨h1, h2⟩, h3⟩
    refine ⟨fun h => ?_, by simpa using h2, fun j hj => ?_⟩
    · rw [empty_iff.2 h] at h1; cases h1
    · rw [List.all_eq_true] at h3
      have := h3 (s.data.toList.getD j 0) (getD_mem 0 hj)
      rw [Bool.and_eq_true] at this
      exact ⟨bne_iff_ne.1 this.1, bne_iff_ne.1 this.2⟩
  · rintro ⟨h1, h2, h3⟩
    refine ⟨⟨?_, by simpa using h2⟩, ?_⟩
    · cases h : s.toList with
      | nil => exact absurd (empty_iff.1 h) h1
      | cons _ _ => rfl
    · rw [List.all_eq_true]
      intro b hb
      obtain ⟨j, hj, rfl⟩ := List.getElem_of_mem hb
      have := h3 j hj
      rw [getD_eq 0 hj] at this
      rw [Bool.and_eq_true]
      exact ⟨bne_iff_ne.2 this.1, bne_iff_ne.2 this.2⟩

/-- How many bytes parts take, a slash ahead of each. -/
def wide (ps : List ByteArray) : Nat := (bare ps).length
theorem bare_snoc (ps : List ByteArray) (s : ByteArray) : bare (ps ++ [s]) = bare ps ++ 47 :: s.data.toList := by simp [bare]
theorem wide_snoc (ps : List ByteArray) (s : ByteArray) : wide (ps ++ [s]) = wide ps + (1 + s.size) := by
  unfold wide
  rw [bare_snoc, List.length_append, List.length_cons, size_len]; omega
theorem wide_take (ps : List ByteArray) (k : Nat) : wide (ps.take k) ≤ wide ps := by
  have h2 : wide ps = wide (ps.take k) + wide (ps.drop k) := by
    have e : bare ps = bare (ps.take k) ++ bare (ps.drop k) := by
      unfold bare
      rw [← List.flatMap_append, List.take_append_drop]
    unfold wide
    rw [e, List.length_append]
  omega
def slN (sl : Bool) : Nat := if sl = true then 1 else 0
theorem tells_iff {ps : List ByteArray} {sl : Bool} (h0 : ps ≠ []) : tells ps sl = (ps.all okPart && decide (wide ps + slN sl ≤ 200)) := by
  have e : ps.isEmpty = false := by cases ps with | nil => exact absurd rfl h0 | cons _ _ => rfl
  unfold tells txt wide slN
  rw [e]
  cases sl <;> simp
theorem tells_nil {sl : Bool} : tells [] sl = !sl := by cases sl <;> rfl

/-- What telling's loop holds: all parts so far are good, and the room is what they leave. -/
def TlI (ps : List ByteArray) (sl : Bool) (k : Nat) : Prop := (ps.take k).all okPart = true ∧ wide (ps.take k) + slN sl ≤ 200
theorem tl_bad {ps : List ByteArray} {sl : Bool} {k : Nat} (hk : k < ps.length) (h : okPart (ps.getD k bz) = false ∨ 200 < wide (ps.take (k + 1)) + slN sl) : tells ps sl = false := by
  have h0 : ps ≠ [] := by rintro rfl; simp at hk
  rw [tells_iff h0]
  rcases h with h | h
  · have : ps.all okPart = false := by
      rw [List.all_eq_false]
      exact ⟨ps.getD k bz, getD_mem bz hk, by rw [h]; simp⟩
    rw [this]; rfl
  · have := wide_take ps (k + 1)
    have h2 : ¬ wide ps + slN sl ≤ 200 := by omega
    simp [h2]
theorem tl_step {ps : List ByteArray} {sl : Bool} {k : Nat} (hk : k < ps.length) (h : TlI ps sl k) (h1 : okPart (ps.getD k bz) = true) (h2 : wide (ps.take k) + (1 + (ps.getD k bz).size) + slN sl ≤ 200) : TlI ps sl (k + 1) := by
  refine ⟨?_, ?_⟩
  · rw [take_getD bz hk, List.all_append, h.1, List.all_cons, h1]; rfl
  · rw [take_getD bz hk, wide_snoc]; exact h2
theorem tl_end {ps : List ByteArray} {sl : Bool} (h0 : ps ≠ []) (h : TlI ps sl ps.length) : tells ps sl = true := by
  obtain ⟨h1, h2⟩ := h
  rw [List.take_length] at h1 h2
  rw [tells_iff h0, h1]; simp [h2]

set_option maxHeartbeats 2000000 in
set_option maxRecDepth 100000 in
theorem telling_any (w : World) (v : Value) (ps : List ByteArray) (sl : Bool) (h : Row w v ps.length (strs ps)) (hn : ps.length < 10000000000000) (hz : ∀ s ∈ ps, s.size ≤ 281474976710656) :
    Calls Try.prog 32 #[.agg #[v, .bool sl]] w fun e w' => e = .returned (.bool (tells ps sl)) ∧ Keeps (fun _ => False) w w' := by
  by_cases h0 : ps = []
  · subst h0
    obtain ⟨a, cap, rfl, _⟩ := h
    rw [tells_nil]
    simp only [List.length_nil]
    go_enter Try.func32, Try.ntmps32
    go_wp2
    go_step3
    go_wp2
    try rw [Exit.noGoto_ret]
    go_ret
    exact ⟨rfl, (Keeps.refl _ w).alloc _⟩
  · obtain ⟨b, o, cap, rfl, hb, hc⟩ := h.pos (by cases ps with | nil => exact absurd rfl h0 | cons _ _ => simp)
    have h1 : ¬ ((ps.length : Int) = 0) := by cases ps with | nil => exact absurd rfl h0 | cons _ _ => simp; omega
    have HZ : Hid (ps ≠ [] ∧ ∀ s ∈ ps, s.size ≤ 281474976710656) := ⟨h0, hz⟩
    have HC : Hid (∀ (j : Nat) (u : Value), (strs ps)[j]? = some u → w.cell? ⟨b, o + j, none⟩ = some u) := hc
    have HT0 : Hid (TlI ps sl 0) := ⟨rfl, by cases sl <;> simp [wide, bare, slN]⟩
    clear h h0 hz hc
    cases sl
    · go_enter Try.func32, Try.ntmps32
      go_wp2
      go_step3
      go_wp2
      go_step3
      go_wp2
      go_loopw [3, 4, 22] (fun r f i wr => f = .bool true ∧ ∃ k : Nat, k ≤ ps.length ∧ i = .int .i64 k ∧ ∃ R : Nat, r = .int .i64 R ∧ R ≤ 200 ∧ Hid (TlI ps false k ∧ R + wide (ps.take k) + slN false = 200 ∧ Keeps (fun _ => False) w wr)) (fun _ _ i _ => ps.length - (intOf i).toNat)
      case atStart => exact ⟨rfl, 0, Nat.zero_le _, rfl, 200, rfl, by decide, HT0.out, by simp [wide, bare, slN], (Keeps.refl _ w).alloc _⟩
      case round =>
        obtain ⟨rfl, k, hk, rfl, R, rfl, hR2, HR⟩ := hrel
        by_cases h2 : k < ps.length
        · have h2' : (k : Int) < (ps.length : Int) := by omega
          have c0 := HR.out.2.2.cell (HC.out k _ (strs_get h2)) (fun h => h)
          have hsz := HZ.out.2 _ (getD_mem bz h2)
          have HB : Hid ((okPart (ps.getD k bz) = false ∨ R < 1 + (ps.getD k bz).size) → tells ps false = false) := by
            intro h
            refine tl_bad h2 (h.imp id (fun h => ?_))
            have := HR.out.2.1
            rw [take_getD bz h2, wide_snoc]; omega
          have HS : Hid (okPart (ps.getD k bz) = true → 1 + (ps.getD k bz).size ≤ R → TlI ps false (k + 1) ∧ (R - (1 + (ps.getD k bz).size)) + wide (ps.take (k + 1)) + slN false = 200) := by
            intro h1 h3
            have := HR.out.2.1
            exact ⟨tl_step h2 HR.out.1 h1 (by omega), by rw [take_getD bz h2, wide_snoc]; omega⟩
          generalize ps.getD k bz = s at c0 hsz HB HS
          have HO : Hid (s.size = s.data.toList.length ∧ (okPart s = true ↔ s.size ≠ 0 ∧ s.size ≤ 28 ∧ ∀ j, j < s.data.toList.length → s.data.toList.getD j 0 ≠ 47 ∧ s.data.toList.getD j 0 ≠ 0)) := ⟨size_len s, okPart_iff⟩
          by_cases h3 : s.size = 0
          · have e0 := size0 h3
            subst e0
            have hB := HB.out (Or.inl (by
              cases ho : okPart ⟨#[]⟩ with
              | false => rfl
              | true => exact absurd rfl (HO.out.2.1 ho).1))
            go_wp2
            try rw [Exit.noGoto_ret]
            go_ret
            exact ⟨ret_bool hB.symm, HR.out.2.2⟩
          · have hne : s.toList.isEmpty = false := by
              cases hl : s.toList with
              | nil => exact absurd (empty_iff.1 hl) h3
              | cons _ _ => rfl
            by_cases h4 : s.size ≤ 28
            · have h4' : (s.size : Int) ≤ 28 := by omega
              by_cases h5 : 1 + s.size ≤ R
              · have h5' : 1 + (s.size : Int) ≤ (R : Int) := by omega
                have HH : Hid (1 + s.size ≤ R ∧ s.size ≤ 28 ∧ s.size ≠ 0) := ⟨h5, h4, h3⟩
                clear h5 h4 h3 hsz
                go_wp2
                go_loopw [4, 46] (fun f i wq => f = .bool true ∧ ∃ j : Nat, j ≤ s.size ∧ i = .int .i64 j ∧ wq = wr ∧ Hid (∀ i, i < j → s.data.toList.getD i 0 ≠ 47 ∧ s.data.toList.getD i 0 ≠ 0)) (fun _ i _ => s.size - (intOf i).toNat)
                case atStart => exact ⟨rfl, 0, Nat.zero_le _, rfl, rfl, fun i hi => absurd hi (by omega)⟩
                case round =>
                  obtain ⟨rfl, j, hj, rfl, rfl, HQ⟩ := hrel
                  by_cases h6 : j < s.size
                  · have h6' : (j : Int) < (s.size : Int) := by omega
                    have hg := byte_getD s j h6
                    by_cases h7 : s.data.toList.getD j 0 ≠ 47 ∧ s.data.toList.getD j 0 ≠ 0
                    · have HN : Hid (∀ i, i < j + 1 → s.data.toList.getD i 0 ≠ 47 ∧ s.data.toList.getD i 0 ≠ 0) := fun i hi => by
                        rcases Nat.lt_or_ge i j with hi' | hi'
                        · exact HQ.out i hi'
                        · rw [show i = j by omega]; exact h7
                      have b1 : ((s[j].toNat : Int) == 47) = false := by
                        rw [hg]
                        have : ¬ (s.data.toList.getD j 0).toNat = 47 := fun e => h7.1 (UInt8.toNat_inj.1 e)
                        exact beq_eq_false_iff_ne.2 (by omega)
                      have b2 : ((s[j].toNat : Int) == 0) = false := by
                        rw [hg]
                        have : ¬ (s.data.toList.getD j 0).toNat = 0 := fun e => h7.2 (UInt8.toNat_inj.1 e)
                        exact beq_eq_false_iff_ne.2 (by omega)
                      clear h7 hg
                      go_wp2
                      go_roundw
                      case rel => exact ⟨rfl, j + 1, by omega, by go_num, trivial, HN⟩
                      case measure => simp [intOf]; omega
                    · have hB := HB.out (Or.inl (by
                        cases ho : okPart s with
                        | false => rfl
                        | true => exact absurd ((HO.out.2.1 ho).2.2 j (by rw [← HO.out.1]; exact h6)) h7))
                      by_cases h8 : s.data.toList.getD j 0 = 47
                      · have b1 : ((s[j].toNat : Int) == 47) = true := by rw [hg, h8]; rfl
                        clear h8 h7 hg
                        go_wp2
                        try rw [Exit.noGoto_ret]
                        go_ret
                        exact ⟨ret_bool hB.symm, HR.out.2.2⟩
                      · have b1 : ((s[j].toNat : Int) == 47) = false := by
                          rw [hg]
                          have : ¬ (s.data.toList.getD j 0).toNat = 47 := fun e => h8 (UInt8.toNat_inj.1 e)
                          exact beq_eq_false_iff_ne.2 (by omega)
                        have h9 : s.data.toList.getD j 0 = 0 := Decidable.byContradiction fun h => h7 ⟨h8, h⟩
                        have b2 : ((s[j].toNat : Int) == 0) = true := by rw [hg, h9]; rfl
                        clear h8 h7 h9 hg
                        go_wp2
                        try rw [Exit.noGoto_ret]
                        go_ret
                        exact ⟨ret_bool hB.symm, HR.out.2.2⟩
                  · have h6' : ¬ (j : Int) < (s.size : Int) := by omega
                    have hS := HS.out (HO.out.2.2 ⟨HH.out.2.2, HH.out.2.1, fun i hi => HQ.out i (by rw [← HO.out.1] at hi; omega)⟩) HH.out.1
                    have HN : Hid (TlI ps false (k + 1) ∧ (R - (1 + s.size)) + wide (ps.take (k + 1)) + slN false = 200) := hS
                    clear hS
                    go_wp2
                    go_roundw
                    case rel =>
                      have e : ((R : Int) - (1 + (s.size : Int))) = ((R - (1 + s.size) : Nat) : Int) := by omega
                      exact ⟨rfl, k + 1, by omega, by go_num, R - (1 + s.size), congrArg (Value.int .i64) e, by omega, HN.out.1, HN.out.2, HR.out.2.2⟩
                    case measure => simp [intOf]; omega
              · have h5' : ¬ 1 + (s.size : Int) ≤ (R : Int) := by omega
                have hB := HB.out (Or.inr (by omega))
                go_wp2
                try rw [Exit.noGoto_ret]
                go_ret
                exact ⟨ret_bool hB.symm, HR.out.2.2⟩
            · have h4' : ¬ (s.size : Int) ≤ 28 := by omega
              have hB := HB.out (Or.inl (by
                cases ho : okPart s with
                | false => rfl
                | true => exact absurd (HO.out.2.1 ho).2.1 h4))
              go_wp2
              try rw [Exit.noGoto_ret]
              go_ret
              exact ⟨ret_bool hB.symm, HR.out.2.2⟩
        · have h2' : ¬ (k : Int) < (ps.length : Int) := by omega
          have e : k = ps.length := by omega
          have ht := HR.out.1
          rw [e] at ht
          have hB := tl_end HZ.out.1 ht
          clear ht e
          go_wp2
          try rw [Exit.noGoto_ret]
          go_ret
          exact ⟨ret_bool hB.symm, HR.out.2.2⟩
    · go_enter Try.func32, Try.ntmps32
      go_wp2
      go_step3
      go_wp2
      go_step3
      go_wp2
      go_loopw [3, 4, 22] (fun r f i wr => f = .bool true ∧ ∃ k : Nat, k ≤ ps.length ∧ i = .int .i64 k ∧ ∃ R : Nat, r = .int .i64 R ∧ R ≤ 200 ∧ Hid (TlI ps true k ∧ R + wide (ps.take k) + slN true = 200 ∧ Keeps (fun _ => False) w wr)) (fun _ _ i _ => ps.length - (intOf i).toNat)
      case atStart => exact ⟨rfl, 0, Nat.zero_le _, rfl, 199, rfl, by decide, HT0.out, by simp [wide, bare, slN], (Keeps.refl _ w).alloc _⟩
      case round =>
        obtain ⟨rfl, k, hk, rfl, R, rfl, hR2, HR⟩ := hrel
        by_cases h2 : k < ps.length
        · have h2' : (k : Int) < (ps.length : Int) := by omega
          have c0 := HR.out.2.2.cell (HC.out k _ (strs_get h2)) (fun h => h)
          have hsz := HZ.out.2 _ (getD_mem bz h2)
          have HB : Hid ((okPart (ps.getD k bz) = false ∨ R < 1 + (ps.getD k bz).size) → tells ps true = false) := by
            intro h
            refine tl_bad h2 (h.imp id (fun h => ?_))
            have := HR.out.2.1
            rw [take_getD bz h2, wide_snoc]; omega
          have HS : Hid (okPart (ps.getD k bz) = true → 1 + (ps.getD k bz).size ≤ R → TlI ps true (k + 1) ∧ (R - (1 + (ps.getD k bz).size)) + wide (ps.take (k + 1)) + slN true = 200) := by
            intro h1 h3
            have := HR.out.2.1
            exact ⟨tl_step h2 HR.out.1 h1 (by omega), by rw [take_getD bz h2, wide_snoc]; omega⟩
          generalize ps.getD k bz = s at c0 hsz HB HS
          have HO : Hid (s.size = s.data.toList.length ∧ (okPart s = true ↔ s.size ≠ 0 ∧ s.size ≤ 28 ∧ ∀ j, j < s.data.toList.length → s.data.toList.getD j 0 ≠ 47 ∧ s.data.toList.getD j 0 ≠ 0)) := ⟨size_len s, okPart_iff⟩
          by_cases h3 : s.size = 0
          · have e0 := size0 h3
            subst e0
            have hB := HB.out (Or.inl (by
              cases ho : okPart ⟨#[]⟩ with
              | false => rfl
              | true => exact absurd rfl (HO.out.2.1 ho).1))
            go_wp2
            try rw [Exit.noGoto_ret]
            go_ret
            exact ⟨ret_bool hB.symm, HR.out.2.2⟩
          · have hne : s.toList.isEmpty = false := by
              cases hl : s.toList with
              | nil => exact absurd (empty_iff.1 hl) h3
              | cons _ _ => rfl
            by_cases h4 : s.size ≤ 28
            · have h4' : (s.size : Int) ≤ 28 := by omega
              by_cases h5 : 1 + s.size ≤ R
              · have h5' : 1 + (s.size : Int) ≤ (R : Int) := by omega
                have HH : Hid (1 + s.size ≤ R ∧ s.size ≤ 28 ∧ s.size ≠ 0) := ⟨h5, h4, h3⟩
                clear h5 h4 h3 hsz
                go_wp2
                go_loopw [4, 46] (fun f i wq => f = .bool true ∧ ∃ j : Nat, j ≤ s.size ∧ i = .int .i64 j ∧ wq = wr ∧ Hid (∀ i, i < j → s.data.toList.getD i 0 ≠ 47 ∧ s.data.toList.getD i 0 ≠ 0)) (fun _ i _ => s.size - (intOf i).toNat)
                case atStart => exact ⟨rfl, 0, Nat.zero_le _, rfl, rfl, fun i hi => absurd hi (by omega)⟩
                case round =>
                  obtain ⟨rfl, j, hj, rfl, rfl, HQ⟩ := hrel
                  by_cases h6 : j < s.size
                  · have h6' : (j : Int) < (s.size : Int) := by omega
                    have hg := byte_getD s j h6
                    by_cases h7 : s.data.toList.getD j 0 ≠ 47 ∧ s.data.toList.getD j 0 ≠ 0
                    · have HN : Hid (∀ i, i < j + 1 → s.data.toList.getD i 0 ≠ 47 ∧ s.data.toList.getD i 0 ≠ 0) := fun i hi => by
                        rcases Nat.lt_or_ge i j with hi' | hi'
                        · exact HQ.out i hi'
                        · rw [show i = j by omega]; exact h7
                      have b1 : ((s[j].toNat : Int) == 47) = false := by
                        rw [hg]
                        have : ¬ (s.data.toList.getD j 0).toNat = 47 := fun e => h7.1 (UInt8.toNat_inj.1 e)
                        exact beq_eq_false_iff_ne.2 (by omega)
                      have b2 : ((s[j].toNat : Int) == 0) = false := by
                        rw [hg]
                        have : ¬ (s.data.toList.getD j 0).toNat = 0 := fun e => h7.2 (UInt8.toNat_inj.1 e)
                        exact beq_eq_false_iff_ne.2 (by omega)
                      clear h7 hg
                      go_wp2
                      go_roundw
                      case rel => exact ⟨rfl, j + 1, by omega, by go_num, trivial, HN⟩
                      case measure => simp [intOf]; omega
                    · have hB := HB.out (Or.inl (by
                        cases ho : okPart s with
                        | false => rfl
                        | true => exact absurd ((HO.out.2.1 ho).2.2 j (by rw [← HO.out.1]; exact h6)) h7))
                      by_cases h8 : s.data.toList.getD j 0 = 47
                      · have b1 : ((s[j].toNat : Int) == 47) = true := by rw [hg, h8]; rfl
                        clear h8 h7 hg
                        go_wp2
                        try rw [Exit.noGoto_ret]
                        go_ret
                        exact ⟨ret_bool hB.symm, HR.out.2.2⟩
                      · have b1 : ((s[j].toNat : Int) == 47) = false := by
                          rw [hg]
                          have : ¬ (s.data.toList.getD j 0).toNat = 47 := fun e => h8 (UInt8.toNat_inj.1 e)
                          exact beq_eq_false_iff_ne.2 (by omega)
                        have h9 : s.data.toList.getD j 0 = 0 := Decidable.byContradiction fun h => h7 ⟨h8, h⟩
                        have b2 : ((s[j].toNat : Int) == 0) = true := by rw [hg, h9]; rfl
                        clear h8 h7 h9 hg
                        go_wp2
                        try rw [Exit.noGoto_ret]
                        go_ret
                        exact ⟨ret_bool hB.symm, HR.out.2.2⟩
                  · have h6' : ¬ (j : Int) < (s.size : Int) := by omega
                    have hS := HS.out (HO.out.2.2 ⟨HH.out.2.2, HH.out.2.1, fun i hi => HQ.out i (by rw [← HO.out.1] at hi; omega)⟩) HH.out.1
                    have HN : Hid (TlI ps true (k + 1) ∧ (R - (1 + s.size)) + wide (ps.take (k + 1)) + slN true = 200) := hS
                    clear hS
                    go_wp2
                    go_roundw
                    case rel =>
                      have e : ((R : Int) - (1 + (s.size : Int))) = ((R - (1 + s.size) : Nat) : Int) := by omega
                      exact ⟨rfl, k + 1, by omega, by go_num, R - (1 + s.size), congrArg (Value.int .i64) e, by omega, HN.out.1, HN.out.2, HR.out.2.2⟩
                    case measure => simp [intOf]; omega
              · have h5' : ¬ 1 + (s.size : Int) ≤ (R : Int) := by omega
                have hB := HB.out (Or.inr (by omega))
                go_wp2
                try rw [Exit.noGoto_ret]
                go_ret
                exact ⟨ret_bool hB.symm, HR.out.2.2⟩
            · have h4' : ¬ (s.size : Int) ≤ 28 := by omega
              have hB := HB.out (Or.inl (by
                cases ho : okPart s with
                | false => rfl
                | true => exact absurd (HO.out.2.1 ho).2.1 h4))
              go_wp2
              try rw [Exit.noGoto_ret]
              go_ret
              exact ⟨ret_bool hB.symm, HR.out.2.2⟩
        · have h2' : ¬ (k : Int) < (ps.length : Int) := by omega
          have e : k = ps.length := by omega
          have ht := HR.out.1
          rw [e] at ht
          have hB := tl_end HZ.out.1 ht
          clear ht e
          go_wp2
          try rw [Exit.noGoto_ret]
          go_ret
          exact ⟨ret_bool hB.symm, HR.out.2.2⟩
end Go.Proofs.Ytfekgfimbkgkfab
