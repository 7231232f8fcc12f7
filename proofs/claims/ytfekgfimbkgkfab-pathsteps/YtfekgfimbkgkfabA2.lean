import Derived.Test.YtfekgfimbkgkfabA1
import Derived.Maps.AppendAt
import Derived.Deep.AppendLies
import Derived.WalkMore
namespace Go.Proofs.Ytfekgfimbkgkfab
open Go.RowKit Go.Maps

def addL (l : List ByteArray) (s : ByteArray) : List ByteArray := if s.size = 0 then l else l ++ [s]
theorem size0 {s : ByteArray} (h : s.size = 0) : s = ⟨#[]⟩ := by
  rw [size_len] at h
  have := List.length_eq_zero_iff.1 h
  rw [← mkB_data s, this]; rfl
theorem empty_iff {s : ByteArray} : s.toList = [] ↔ s.size = 0 := by
  rw [ByteArray.toList_eq, size_len]; exact List.length_eq_zero_iff.symm

set_option maxHeartbeats 1000000 in
set_option maxRecDepth 100000 in
theorem addPart_any (w : World) (base : Nat) (v : Value) (l : List ByteArray) (s : ByteArray) (h : w.ownsRow base 9 1 v l.length (strs l)) (hb : base ≤ w.heap.size) (hn : l.length < 1000000000000) (hs : s.size ≤ 281474976710656) :
    Calls Try.prog 45 #[v, .string s] w fun e w' => ∃ v', e = .returned v' ∧ Hid (w'.ownsRow base 9 1 v' (addL l s).length (strs (addL l s)) ∧ Keeps (fun k => base ≤ k) w w') := by
  obtain ⟨i0, hi, hz0, hz1, hz2⟩ := info_parts info9
  by_cases h0 : s.size = 0
  · have e0 := size0 h0
    subst e0
    go_enter Try.func45, Try.ntmps45
    go_wp2
    go_ret
    have e : addL l ⟨#[]⟩ = l := if_pos rfl
    exact ⟨v, rfl, by rw [e]; exact h, Keeps.refl _ _⟩
  · have h26 := clone_any s w hs
    have hne : s.toList.isEmpty = false := by
      cases hl : s.toList with
      | nil => exact absurd (empty_iff.1 hl) h0
      | cons _ _ => rfl
    have HW : Hid (w.ownsRow base 9 1 v l.length (strs l)) := h
    have HN : Hid (¬ s.size = 0) := h0
    clear h h0 hs
    go_enter Try.func45, Try.ntmps45
    go_wp2_with (first
      | (go_at_call 26; refine h26.mono ?_; clear h26; rintro e w1 ⟨rfl, hk⟩; have HK : Hid (Keeps (fun _ => False) w w1) := hk; clear hk)
      | (at_builtin; go_must (refine wpList_append_own_at _ rfl _ _ 23 rfl base 9 i0 (.string ⟨#[]⟩) 1 16 Try.underlying23 hi hz0 hz1 hz2 rfl (by decide) _ l.length (strs l) rfl ((own_grow HW.out HK.out).alloc _) ⟨w1.heap.size, 0, none⟩ 1 1 [.string s] rfl rfl (cell_one_new _ _ _) (by simp [Value.oneCell']) (by unfold maxLen; omega) (by omega) (by rw [World.size_alloc]; have := HK.out.size; omega) ?_); intro v' w2 hown hgr _ _))
    go_ret
    refine ⟨v', rfl, ?_, ?_⟩
    · have e : addL l s = l ++ [s] := if_neg HN.out
      rw [e]; simpa [strs] using hown
    · refine (((HK.out.alloc _).mono (fun _ _ h => h.elim)).step hgr ?_)
      intro k hk
      exact Or.inl ((HW.out.lt k hk).1)

theorem parts_end {q : Bs} (h : q.all (· != 47) = true) : parts q = addL [] (mkB q) := by
  have h1 := pts_run q [] [] h
  simp only [List.append_nil, List.nil_append] at h1
  unfold parts
  rw [h1]
  unfold addL
  rw [mkB_size]
  cases q with
  | nil => rfl
  | cons b q => simp [pts]
theorem parts_slash {q r : Bs} (h : q.all (· != 47) = true) : parts (q ++ 47 :: r) = addL [] (mkB q) ++ parts r := by
  have h1 := pts_run q [] (47 :: r) h
  simp only [List.nil_append] at h1
  unfold parts
  rw [h1, pts_slash]
  unfold addL
  rw [mkB_size]
  cases q with
  | nil => rfl
  | cons b q => simp
theorem addL_nil (l : List ByteArray) (s : ByteArray) : addL l s = l ++ addL [] s := by
  unfold addL; split <;> simp

/-- What split holds: the parts so far, and those of the rest. -/
def SpI (t : Bs) (k : Nat) (l : List ByteArray) : Prop := l ++ parts (t.drop k) = parts t
theorem pts_len : ∀ (t acc : Bs), (pts acc t).length ≤ t.length + 1
  | [], acc => by unfold pts; split <;> simp
  | b :: t, acc => by
    unfold pts
    have h1 := pts_len t []
    have h2 := pts_len t (acc ++ [b])
    simp only [List.length_cons]
    split
    · split
      · omega
      · simp only [List.length_cons]; omega
    · omega
theorem SpI.len {t : Bs} {k : Nat} {l : List ByteArray} (h : SpI t k l) : l.length ≤ t.length + 1 := by
  have := congrArg List.length h
  simp only [List.length_append, parts, List.length_map] at this
  have h2 := pts_len t []
  omega
theorem drop_cons {t : Bs} {j : Nat} (h : j < t.length) : t.drop j = t.getD j 0 :: t.drop (j + 1) := by
  rw [List.drop_eq_getElem_cons h]; simp [List.getD_eq_getElem?_getD, h]
theorem seg_split {t : Bs} {k j : Nat} (h1 : k ≤ j) : t.drop k = (t.drop k).take (j - k) ++ t.drop j := by
  have := (List.take_append_drop (j - k) (t.drop k)).symm
  rwa [List.drop_drop, show k + (j - k) = j by omega] at this
theorem SpI.slash {t : Bs} {k j : Nat} {l : List ByteArray} (h : SpI t k l) (h1 : k ≤ j) (h2 : j < t.length) (hq : ((t.drop k).take (j - k)).all (· != 47) = true) (hb : t.getD j 0 = 47) : SpI t (j + 1) (addL l (mkB ((t.drop k).take (j - k)))) := by
  unfold SpI at h ⊢
  have e := seg_split (t := t) h1
  rw [drop_cons h2, hb] at e
  rw [e, parts_slash hq] at h
  rw [addL_nil, List.append_assoc]; exact h
theorem SpI.fin {t : Bs} {k : Nat} {l : List ByteArray} (h : SpI t k l) (hq : (t.drop k).all (· != 47) = true) : addL l (mkB (t.drop k)) = parts t := by
  unfold SpI at h
  rw [addL_nil, ← parts_end hq]; exact h
theorem seg_step {t : Bs} {k j : Nat} (h1 : k ≤ j) (h2 : j < t.length) (hq : ((t.drop k).take (j - k)).all (· != 47) = true) (hb : t.getD j 0 ≠ 47) : ((t.drop k).take (j + 1 - k)).all (· != 47) = true := by
  have hl : j - k < (t.drop k).length := by rw [List.length_drop]; omega
  rw [show j + 1 - k = (j - k) + 1 by omega, take_getD 0 hl, List.all_append, hq]
  have e : (t.drop k).getD (j - k) 0 = t.getD j 0 := by
    rw [List.getD_eq_getElem?_getD, List.getD_eq_getElem?_getD, List.getElem?_drop, show k + (j - k) = j by omega]
  rw [e]; simpa using hb
theorem byte_getD (s : ByteArray) (k : Nat) (hk : k < s.size) : s[k] = s.data.toList.getD k 0 := by
  obtain ⟨⟨l⟩⟩ := s
  have h' : k < l.length := hk
  show l[k] = l.getD k 0
  simp [List.getD_eq_getElem?_getD, h']

set_option maxHeartbeats 2000000 in
set_option maxRecDepth 100000 in
theorem split_any (w : World) (s : ByteArray) (hs : s.size ≤ 200) :
    Calls Try.prog 30 #[.string s] w fun e w' => ∃ v, e = .returned v ∧ Hid (w'.ownsRow w.heap.size 9 1 v (parts s.data.toList).length (strs (parts s.data.toList)) ∧ Keeps (fun _ => False) w w') := by
  have hsl := size_len s
  have HS : Hid (s.size = s.data.toList.length) := hsl
  clear hsl
  go_enter Try.func30, Try.ntmps30
  go_wp2
  go_step3
  go_wp2
  go_step3
  go_wp2
  go_loopw [3, 4] (fun v i wr => ∃ k : Nat, k ≤ s.size ∧ i = .int .i64 k ∧ Hid (∃ l, SpI s.data.toList k l ∧ wr.ownsRow w.heap.size 9 1 v l.length (strs l) ∧ Keeps (fun _ => False) w wr)) (fun _ i _ => s.size - (intOf i).toNat)
  case atStart => exact ⟨0, Nat.zero_le _, rfl, [], rfl, World.ownsRow_nil _ _ _ _, Keeps.refl _ _⟩
  case round =>
    obtain ⟨k, hk, rfl, HR⟩ := hrel
    by_cases h1 : k < s.size
    · have h1' : (k : Int) < (s.size : Int) := by omega
      go_wp2
      obtain ⟨l, hI, hW, hK⟩ := HR.out
      have HL : Hid (l.length ≤ 201) := by have := hI.len; rw [← HS.out] at this; show l.length ≤ 201; omega
      have HI : Hid (SpI s.data.toList k l ∧ wr.ownsRow w.heap.size 9 1 u3 l.length (strs l) ∧ Keeps (fun _ => False) w wr) := ⟨hI, hW, hK⟩
      clear hI hW hK HR
      go_loopw [3, 4, 5] (fun v i4 i wq => v = u3 ∧ i4 = .int .i64 k ∧ ∃ j : Nat, k ≤ j ∧ j ≤ s.size ∧ i = .int .i64 j ∧ wq = wr ∧ Hid (((s.data.toList.drop k).take (j - k)).all (· != 47) = true)) (fun _ _ i _ => s.size - (intOf i).toNat)
      case atStart => exact ⟨rfl, rfl, k, Nat.le_refl _, hk, rfl, rfl, by simp [Hid]⟩
      case round =>
        obtain ⟨rfl, rfl, j, hj1, hj2, rfl, rfl, HQ⟩ := hrel
        by_cases h2 : j < s.size
        · have h2' : (j : Int) < (s.size : Int) := by omega
          have hg := byte_getD s j h2
          have h45 := addPart_any wr w.heap.size u3 l (s.extract k j) HI.out.2.1 HI.out.2.2.size (by have := HL.out; omega) (by rw [mkB_extr, mkB_size]; simp; omega)
          by_cases hb : s.data.toList.getD j 0 = 47
          · have hb' : ((s[j].toNat : Int) == 47) = true := by rw [hg, hb]; rfl
            have HN : Hid (SpI s.data.toList (j + 1) (addL l (s.extract k j))) := by
              rw [mkB_extr]; exact HI.out.1.slash hj1 (by rw [← HS.out]; exact h2) HQ.out hb
            clear hb hg
            go_wp2_with (first | (go_at_call 45; refine h45.mono ?_; clear h45; rintro e w2 ⟨v', rfl, H2⟩))
            go_roundw
            case rel => exact ⟨j + 1, by omega, by go_num, _, HN.out, H2.out.1, HI.out.2.2.then H2.out.2 (fun k hk => Or.inr hk)⟩
            case measure => simp [intOf]; omega
          · have hb' : ((s[j].toNat : Int) == 47) = false := by
              rw [hg]
              have : ¬ (s.data.toList.getD j 0).toNat = 47 := fun e => hb (UInt8.toNat_inj.1 e)
              exact beq_eq_false_iff_ne.2 (by omega)
            have HN : Hid (((s.data.toList.drop k).take (j + 1 - k)).all (· != 47) = true) := seg_step hj1 (by rw [← HS.out]; exact h2) HQ.out hb
            clear hb hg h45
            go_wp2
            go_roundw
            case rel => exact ⟨rfl, rfl, j + 1, by omega, by omega, by go_num, trivial, HN⟩
            case measure => simp [intOf]; omega
        · have h2' : ¬ (j : Int) < (s.size : Int) := by omega
          have h45 := addPart_any wr w.heap.size u3 l (s.extract k s.size) HI.out.2.1 HI.out.2.2.size (by have := HL.out; omega) (by rw [mkB_extr, mkB_size]; simp; omega)
          have HN : Hid (addL l (s.extract k s.size) = parts s.data.toList) := by
            have e : j = s.size := by omega
            have hq := HQ.out
            rw [e, HS.out] at hq
            have e2 : (s.data.toList.drop k).take (s.data.toList.length - k) = s.data.toList.drop k := List.take_of_length_le (by rw [List.length_drop]; exact Nat.le_refl _)
            rw [e2] at hq
            show _ = _
            rw [mkB_extr, HS.out, e2]; exact HI.out.1.fin hq
          go_wp2_with (first | (go_at_call 45; refine h45.mono ?_; clear h45; rintro e w2 ⟨v', rfl, H2⟩))
          try rw [Exit.noGoto_ret]
          go_ret
          refine ⟨v', rfl, ?_, HI.out.2.2.then H2.out.2 (fun k hk => Or.inr hk)⟩
          rw [← HN.out]; exact H2.out.1
    · have h1' : ¬ (k : Int) < (s.size : Int) := by omega
      go_wp2
      try rw [Exit.noGoto_ret]
      go_ret
      obtain ⟨l, hI, hW, hK⟩ := HR.out
      have e : l = parts s.data.toList := by
        unfold SpI at hI
        rw [List.drop_of_length_le (by rw [← HS.out]; omega)] at hI
        rw [← hI]; simp [parts, pts]
      rw [← e]
      exact ⟨_, rfl, hW, hK⟩
end Go.Proofs.Ytfekgfimbkgkfab
