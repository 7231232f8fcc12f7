import Derived.Test.YtdlhdompemkjfaaGreatDoorK36
import Derived.Test.YtdlhdompemkjfaaGreatDoorK19
import Derived.Test.YtdlhdompemkjfaaGreatDoorK31
namespace Go.Proofs.YtdlhdompemkjfaaGreatDoor
open Go.RowKit Go.Maps
set_option maxRecDepth 100000

/-! script.Text. -/
/-- A list of steps that is read: each with its list. -/
structure StR (W : World) (v : Value) (l : List (St × Value)) : Prop where
  row : Row W v l.length (pcells l)
  ins : ∀ p ∈ l, Row W p.2 p.1.l.length (ints p.1.l)
theorem StR.keep {A B : World} {v : Value} {l : List (St × Value)} (h : StR A v l) (k : Keeps (fun _ => False) A B) : StR B v l := ⟨h.row.keep k, fun p hp => (h.ins p hp).keep k⟩
theorem StR.of_pr {w W : World} {v : Value} {l : List (St × Value)} (h : PR w W v l) : StR W v l := ⟨Row.of_own h.row, fun p hp => Row.of_own (h.ins p hp)⟩
theorem pcells_at : ∀ (l : List (St × Value)) (k : Nat) (p : St × Value), l[k]? = some p → ∀ (j : Nat) (u : Value), (scell p.1 p.2).toList[j]? = some u → (pcells l)[k * 7 + j]? = some u
  | [], k, p, h, _, _, _ => by simp at h
  | q :: l, 0, p, h, j, u, hj => by
    obtain rfl : q = p := by simpa using h
    have e : pcells (q :: l) = (scell q.1 q.2).toList ++ pcells l := by simp [pcells]
    rw [e, List.getElem?_append_left (by have := (List.getElem?_eq_some_iff.1 hj).1; omega), Nat.zero_mul, Nat.zero_add]
    exact hj
  | q :: l, k + 1, p, h, j, u, hj => by
    have e : pcells (q :: l) = (scell q.1 q.2).toList ++ pcells l := by simp [pcells]
    have h7 : (scell q.1 q.2).toList.length = 7 := rfl
    rw [e, List.getElem?_append_right (by omega), h7, show (k + 1) * 7 + j - 7 = k * 7 + j by omega]
    exact pcells_at l k p (by simpa using h) j u hj
/-- Its cells, with one of its steps. -/
theorem StR.get {W : World} {v : Value} {l : List (St × Value)} (h : StR W v l) {k : Nat} {p : St × Value} (hp : l[k]? = some p) : ∃ b o c, v = .slice (some ⟨b, o, none⟩) l.length c ∧ l.length ≤ c ∧ W.rangeAt b (o + k * 7) (scell p.1 p.2).toList := by
  obtain ⟨a, c, rfl, hc, hr⟩ := h.row
  have hk : k < l.length := (List.getElem?_eq_some_iff.1 hp).1
  obtain ⟨b, o, rfl, _, hcell⟩ := hr (by omega)
  refine ⟨b, o, c, rfl, hc, fun j u hj => ?_⟩
  have := hcell _ _ (pcells_at l k p hp j u hj)
  rw [Nat.add_assoc]; exact this
theorem wpList_load_step {ops : Array Oper} {rest : List Oper} {o : Oper} {a : Act} {W : World} {Q : Exit → Act → World → Prop} (hgd : o.guard = none) (x : Operand) (ho : o.op = .load 24 x) (b off : Nat) (t : St) (v : Value) (hx : a.eval x = .pointer (some ⟨b, off, none⟩)) (hc : W.rangeAt b off (scell t v).toList)
    (h : wpList Tryz.prog ops Q rest (a.put o.dst (.agg (scell t v))) W) : wpList Tryz.prog ops Q (o :: rest) a W :=
  wpList_load_mid hgd 24 x ho b off hx (scell t v).toList _ hc Tryz.underlying24 rfl size24 h

/-- Text's answer. -/
def txL (l : List St) : Bs := l.flatMap fun t => prF t ++ [10]
def txF (l : List St) : Bs := if l.all (fun t => !(prF t).isEmpty) then txL l else []
theorem prF_len (t : St) : (prF t).length ≤ 20000 := by
  unfold prF
  split
  · rename_i h
    unfold okF at h
    rw [Bool.and_eq_true, decide_eq_true_eq] at h
    have h1 := h.1
    unfold lnE at h1
    split at h1
    · cases h1
    · omega
  · simp
theorem txL_len (l : List St) : (txL l).length ≤ l.length * 20001 := by
  induction l with
  | nil => simp [txL]
  | cons t l ih =>
    have := prF_len t
    have e : txL (t :: l) = prF t ++ [10] ++ txL l := by simp [txL]
    rw [e, List.length_append, List.length_append]; simp only [List.length_cons, List.length_nil]; omega
theorem txL_take {l : List St} {k : Nat} {t : St} (h : l[k]? = some t) : txL (l.take (k + 1)) = txL (l.take k) ++ prF t ++ [10] := by
  unfold txL
  rw [List.take_add_one, h, List.flatMap_append]
  simp
theorem all_take {l : List St} {k : Nat} {t : St} {f : St → Bool} (h : l[k]? = some t) (ha : (l.take k).all f = true) (ht : f t = true) : (l.take (k + 1)).all f = true := by
  rw [List.take_add_one, h, List.all_append, ha]
  simp [ht]
theorem txF_no {l : List St} {k : Nat} {t : St} (h : l[k]? = some t) (ht : (prF t).isEmpty = true) : txF l = [] := by
  unfold txF
  rw [if_neg]
  intro ha
  have := List.all_eq_true.1 ha t (List.mem_of_getElem? h)
  simp [ht] at this
theorem st_at {l : List (St × Value)} {k : Nat} {p : St × Value} (h : l[k]? = some p) : (l.map (·.1))[k]? = some p.1 := by simp [h]

set_option maxHeartbeats 8000000 in
theorem text_any (w : World) (hv : Vars w) (v : Value) (l : List (St × Value)) (hl : StR w v l) (hn : l.length ≤ 1000000) (ok : ∀ p ∈ l, OkS p.1) :
    Calls Tryz.prog 12 #[v] w fun e w' => e = .returned (.string (mkB (txF (l.map (·.1))))) ∧ Keeps (fun _ => False) w w' := by
  obtain ⟨a, c, rfl, hc, _⟩ := id hl.row
  have HL := Hid.mk' hl
  have HV := Hid.mk' hv
  have HO := Hid.mk' ok
  have HN : Hid (BuAt w.heap.size w.heap.size [] (w.alloc (.cells #[.pointer none, .slice none 0 0] 49)) ∧ Keeps (fun _ => False) w (w.alloc (.cells #[.pointer none, .slice none 0 0] 49))) := ⟨BuAt.new w, (Keeps.refl _ w).alloc _⟩
  clear hl hv ok
  go_enter Tryz.func12, Tryz.ntmps12
  go_wp2
  go_loopw [9] (fun i wr => ∃ k : Nat, k ≤ l.length ∧ i = .int .i64 k ∧ Hid (BuAt w.heap.size w.heap.size (txL ((l.map (·.1)).take k)) wr ∧ Keeps (fun _ => False) w wr) ∧ Hid (((l.map (·.1)).take k).all (fun t => !(prF t).isEmpty) = true)) (fun i _ => l.length - (intOf i).toNat)
  case atStart => exact ⟨0, Nat.zero_le _, rfl, HN.out, rfl⟩
  case round =>
    obtain ⟨k, hk, rfl, HI, HA⟩ := hrel
    clear HN
    by_cases h1 : k < l.length
    · have h1' : (k : Int) < (l.length : Int) := by omega
      obtain ⟨⟨t, z⟩, hp⟩ : ∃ p, l[k]? = some p := ⟨l[k], by simp [h1]⟩
      obtain ⟨b, o, c', e, _, hrange⟩ := (HL.out.keep HI.out.2).get hp
      injection e with e1 e2 e3
      subst e1 e3
      obtain ⟨p1, c1, hz, _, _⟩ := id (HL.out.ins _ (List.mem_of_getElem? hp))
      dsimp only at hz
      subst hz
      have HR := Hid.mk' hrange
      have HO1 := Hid.mk' (HO.out _ (List.mem_of_getElem? hp))
      have HKA := Hid.mk' ((Keeps.refl (fun _ => False) wr).alloc (.cells (scell t (.slice p1 t.l.length c1)) 24))
      have HRow := Hid.mk' (((HL.out.ins _ (List.mem_of_getElem? hp)).keep HI.out.2).keep HKA.out)
      have HB := Hid.mk' (heap_last wr (.cells (scell t (.slice p1 t.l.length c1)) 24))
      have h9 := print_any _ (HV.out.keep (HI.out.2.trans HKA.out)) t _ HRow.out HO1.out (wrF_le HO1.out)
      have HPL := Hid.mk' (prF_len t)
      have HTL : Hid ((txL ((l.map (·.1)).take k)).length ≤ 100000000000) := by
        show _ ≤ _
        have := txL_len ((l.map (·.1)).take k)
        have h2 : ((l.map (·.1)).take k).length ≤ 1000000 := by simp; omega
        omega
      have HT := Hid.mk' (txL_take (st_at hp))
      have HNO := Hid.mk' (fun h => txF_no (st_at hp) h)
      have HAL := Hid.mk' (fun h => all_take (f := fun t => !(prF t).isEmpty) (st_at hp) HA.out h)
      clear hrange hp
      rcases Bool.eq_false_or_eq_true (mkB (prF t)).toList.isEmpty with hb | hb
      · have HZ : Hid (txF (l.map (·.1)) = []) := HNO.out (by rw [ByteArray.toList_eq, data_mkB] at hb; exact hb)
        clear HAL HNO HT HTL
        generalize mkB (prF t) = PR at *
        have S0 := Hid.mk' True.intro
        go_wp2_with (first
          | (clear S0; refine wpList_load_step rfl _ rfl b (o + k * 7) t _ (by rfl) HR.out ?_; have S1 := Hid.mk' True.intro)
          | (clear S1; refine wpList_alloc_st rfl rfl ?_; have S2 := Hid.mk' True.intro)
          | (clear S2; refine wpList_store_st rfl _ _ rfl t p1 t.l.length c1 (by rfl) (by rfl) ?_; have S3 := Hid.mk' True.intro)
          | (clear S3; refine wpList_load_row rfl 24 (.tmp 5) rfl wr.heap.size (by rfl) 24 (scell t (.slice p1 t.l.length c1)) (0, 0) _ HB.out Tryz.underlying24 rfl size24 ?_; have S4 := Hid.mk' True.intro)
          | (clear S4; go_at_call 9; refine h9.mono ?_; clear h9; rintro e w1 ⟨rfl, hk1⟩; have HK1 := Hid.mk' hk1; clear hk1; have S5 := Hid.mk' True.intro))
        go_ret
        exact ⟨by rw [HZ.out]; rfl, (HI.out.2.trans HKA.out).trans HK1.out⟩
      · have HA2 := Hid.mk' (HAL.out (by rw [ByteArray.toList_eq, data_mkB] at hb; rw [hb]; rfl))
        clear HAL HNO
        have hms : (mkB (prF t)).data.toList = prF t := data_mkB _
        have hmz : Hid ((mkB (prF t)).size ≤ 20000) := by show _ ≤ _; rw [mkB_size]; exact HPL.out
        have HMS := Hid.mk' hms
        clear hms
        generalize mkB (prF t) = PR at *
        have S0 := Hid.mk' True.intro
        go_wp2_with (first
          | (clear S0; refine wpList_load_step rfl _ rfl b (o + k * 7) t _ (by rfl) HR.out ?_; have S1 := Hid.mk' True.intro)
          | (clear S1; refine wpList_alloc_st rfl rfl ?_; have S2 := Hid.mk' True.intro)
          | (clear S2; refine wpList_store_st rfl _ _ rfl t p1 t.l.length c1 (by rfl) (by rfl) ?_; have S3 := Hid.mk' True.intro)
          | (clear S3; refine wpList_load_row rfl 24 (.tmp 5) rfl wr.heap.size (by rfl) 24 (scell t (.slice p1 t.l.length c1)) (0, 0) _ HB.out Tryz.underlying24 rfl size24 ?_; have S4 := Hid.mk' True.intro)
          | (clear S4; go_at_call 9; refine h9.mono ?_; clear h9; rintro e w1 ⟨rfl, hk1⟩; have HK1 := Hid.mk' ((HI.out.2.trans HKA.out).trans hk1); have HB1 := Hid.mk' (HI.out.1.keep (HKA.out.trans hk1)); clear hk1; have S5 := Hid.mk' True.intro)
          | (clear S5; go_at_call 25; refine (writeString w.heap.size w.heap.size _ PR _ HB1.out (by have := HTL.out; omega) (by have h : PR.size ≤ 20000 := hmz.out; omega) HK1.out.size).mono ?_; rintro e w2 ⟨rfl, h2⟩; have H2 := Hid.mk' h2.out; have HK2 := Hid.mk' (HK1.out.below_step h2.out.2); clear h2; have S6 := Hid.mk' True.intro)
          | (clear S6; go_at_call 25; refine (writeString w.heap.size w.heap.size _ ⟨#[10]⟩ _ H2.out.1 (by have := HTL.out; have h : PR.size ≤ 20000 := hmz.out; rw [size_len] at h; rw [List.length_append]; omega) (by decide) HK2.out.size).mono ?_; rintro e w3 ⟨rfl, h3⟩; have H3 := Hid.mk' h3.out; have HK3 := Hid.mk' (HK2.out.below_step h3.out.2); clear h3; have S7 := Hid.mk' True.intro))
        go_roundw
        case rel => exact ⟨k + 1, by omega, by go_num, ⟨by rw [HT.out]; have h := H3.out.1; rw [HMS.out] at h; exact h, HK3.out⟩, HA2.out⟩
        case measure => simp [intOf]; omega
    · have h1' : ¬ (k : Int) < (l.length : Int) := by omega
      have HE : Hid ((l.map (·.1)).take k = l.map (·.1)) := List.take_of_length_le (by simp; omega)
      have HF : Hid (txF (l.map (·.1)) = txL (l.map (·.1))) := by
        have h := HA.out
        rw [HE.out] at h
        show _ = _
        unfold txF
        rw [if_pos h]
      have h26 := buString w.heap.size w.heap.size _ wr HI.out.1 HI.out.2.size
      rw [HE.out] at h26
      go_wp2_with (first
        | (go_at_call 26; refine h26.mono ?_; clear h26; rintro e w2 ⟨rfl, h2⟩))
      go_ret
      exact ⟨by rw [HF.out]; first | done | rfl, HI.out.2.below_step h2.out⟩
end Go.Proofs.YtdlhdompemkjfaaGreatDoor

namespace Go.Proofs.YtdlhdompemkjfaaGreatDoor
open Go.RowKit Go.Maps
set_option maxRecDepth 100000

/-! The document's Text. -/
set_option maxHeartbeats 8000000 in
theorem rtext_any (w : World) (kv : KV w) (v : Value) (l : List (St × Value)) (hl : StR w v l) (hn : l.length ≤ 1000000) (ok : ∀ p ∈ l, OkS p.1) :
    Calls Tryz.prog 13 #[v] w fun e w' => e = .returned (.string (mkB (txF (l.map (·.1))))) ∧ Keeps (fun _ => False) w w' := by
  obtain ⟨a, c, rfl, hc, _⟩ := id hl.row
  have HL := Hid.mk' hl
  have HV := Hid.mk' kv
  have HO := Hid.mk' ok
  clear hl kv ok
  go_enter Tryz.func13, Tryz.ntmps13
  go_wp2
  go_loopw [3, 4] (fun v i wr => ∃ k : Nat, k ≤ l.length ∧ i = .int .i64 k ∧ Hid (OB w wr v (txL ((l.map (·.1)).take k))) ∧ Hid (((l.map (·.1)).take k).all (fun t => !(prF t).isEmpty) = true)) (fun _ i _ => l.length - (intOf i).toNat)
  case atStart => exact ⟨0, Nat.zero_le _, rfl, OB.nil w, rfl⟩
  case round =>
    obtain ⟨k, hk, rfl, HI, HA⟩ := hrel
    by_cases h1 : k < l.length
    · have h1' : (k : Int) < (l.length : Int) := by omega
      obtain ⟨⟨t, z⟩, hp⟩ : ∃ p, l[k]? = some p := ⟨l[k], by simp [h1]⟩
      obtain ⟨b, o, c', e, _, hrange⟩ := (HL.out.keep HI.out.2).get hp
      injection e with e1 e2 e3
      subst e1 e3
      obtain ⟨p1, c1, hz, _, _⟩ := id (HL.out.ins _ (List.mem_of_getElem? hp))
      dsimp only at hz
      subst hz
      have HR := Hid.mk' hrange
      have HO1 := Hid.mk' (HO.out _ (List.mem_of_getElem? hp))
      have h9 := rprint_any _ (HV.out.keep HI.out.2) t _ ((HL.out.ins _ (List.mem_of_getElem? hp)).keep HI.out.2) HO1.out
      have HPL := Hid.mk' (prF_len t)
      have HTL : Hid ((txL ((l.map (·.1)).take k)).length ≤ 100000000000) := by
        show _ ≤ _
        have := txL_len ((l.map (·.1)).take k)
        have h2 : ((l.map (·.1)).take k).length ≤ 1000000 := by simp; omega
        omega
      have HT := Hid.mk' (txL_take (st_at hp))
      have HNO := Hid.mk' (fun h => txF_no (st_at hp) h)
      have HAL := Hid.mk' (fun h => all_take (f := fun t => !(prF t).isEmpty) (st_at hp) HA.out h)
      clear hrange hp
      rcases Bool.eq_false_or_eq_true (mkB (prF t)).toList.isEmpty with hb | hb
      · have HZ : Hid (txF (l.map (·.1)) = []) := HNO.out (by rw [ByteArray.toList_eq, data_mkB] at hb; exact hb)
        clear HAL HNO HT HTL
        generalize mkB (prF t) = PR at *
        have S0 := Hid.mk' True.intro
        go_wp2_with (first
          | (clear S0; refine wpList_load_step rfl _ rfl b (o + k * 7) t _ (by rfl) HR.out ?_; have S1 := Hid.mk' True.intro)
          | (clear S1; go_at_call 11; refine h9.mono ?_; clear h9; rintro e w1 ⟨rfl, hk1⟩; have HK1 := Hid.mk' hk1; clear hk1; have S5 := Hid.mk' True.intro))
        go_ret
        exact ⟨by rw [HZ.out]; rfl, HI.out.2.trans HK1.out⟩
      · have HA2 := Hid.mk' (HAL.out (by rw [ByteArray.toList_eq, data_mkB] at hb; rw [hb]; rfl))
        clear HAL HNO
        have hms : (mkB (prF t)).data.toList = prF t := data_mkB _
        have hmz : Hid ((mkB (prF t)).size ≤ 20000) := by show _ ≤ _; rw [mkB_size]; exact HPL.out
        have HMS := Hid.mk' hms
        clear hms
        generalize mkB (prF t) = PR at *
        have S0 := Hid.mk' True.intro
        go_wp2_with (first
          | (clear S0; refine wpList_load_step rfl _ rfl b (o + k * 7) t _ (by rfl) HR.out ?_; have S1 := Hid.mk' True.intro)
          | (clear S1; go_at_call 11; refine h9.mono ?_; clear h9; rintro e w1 ⟨rfl, hk1⟩; have HB1 := Hid.mk' (HI.out.keep hk1); clear hk1; have S5 := Hid.mk' True.intro)
          | (clear S5; at_builtin; go_must (refine wpList_apt rfl _ _ rfl w w1 u3 _ (by rfl) HB1.out PR (by rfl) (by have := HTL.out; have h : PR.size ≤ 20000 := hmz.out; omega) ?_); intro v2 W2 hO2; have HO2 := Hid.mk' hO2; clear hO2; have S6 := Hid.mk' True.intro)
          | (clear S6; at_builtin; go_must (refine wpList_app rfl _ _ rfl w W2 v2 _ (by rfl) HO2.out [10] 1 rfl _ (by rfl) (by rfl) (by have := HTL.out; have h : PR.size ≤ 20000 := hmz.out; rw [size_len] at h; simp only [List.length_append, List.length_singleton] at *; omega) ?_); intro v3 W3 hO3; have HO3 := Hid.mk' hO3; clear hO3; have S7 := Hid.mk' True.intro))
        go_roundw
        case rel => exact ⟨k + 1, by omega, by go_num, by rw [HT.out]; have h := HO3.out; rw [HMS.out] at h; exact h, HA2.out⟩
        case measure => simp [intOf]; omega
    · have h1' : ¬ (k : Int) < (l.length : Int) := by omega
      have HE : Hid ((l.map (·.1)).take k = l.map (·.1)) := List.take_of_length_le (by simp; omega)
      have HF : Hid (txF (l.map (·.1)) = txL (l.map (·.1))) := by
        have h := HA.out
        rw [HE.out] at h
        show _ = _
        unfold txF
        rw [if_pos h]
      have hcv := conv_row _ _ _ HI.out.row
      rw [HE.out] at hcv
      go_wp2
      go_ret
      exact ⟨by rw [HF.out]; first | done | rfl, HI.out.2⟩
end Go.Proofs.YtdlhdompemkjfaaGreatDoor
