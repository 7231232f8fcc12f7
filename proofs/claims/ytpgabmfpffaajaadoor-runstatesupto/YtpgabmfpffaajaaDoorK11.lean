import Derived.Test.YtpgabmfpffaajaaDoorK10
namespace Go.Proofs.YtpgabmfpffaajaaDoor
open Go.RowKit Go.Maps
set_option maxRecDepth 100000

/-! The document's lines. -/
theorem flat_get {α : Type} (f : α → List Value) (c : Nat) (hf : ∀ a, (f a).length = c) : ∀ (l : List α) (i : Nat) (a : α), l[i]? = some a → ∀ (j : Nat) (u : Value), (f a)[j]? = some u → (l.flatMap f)[i * c + j]? = some u
  | [], i, a, h, _, _, _ => by simp at h
  | b :: l, 0, a, h, j, u, hj => by
    obtain rfl : b = a := by simpa using h
    rw [List.flatMap_cons, List.getElem?_append_left (by have := (List.getElem?_eq_some_iff.1 hj).1; omega), Nat.zero_mul, Nat.zero_add]
    exact hj
  | b :: l, i + 1, a, h, j, u, hj => by
    rw [List.flatMap_cons, List.getElem?_append_right (by rw [hf, Nat.add_mul]; omega), hf, show (i + 1) * c + j - c = i * c + j by rw [Nat.add_mul]; omega]
    exact flat_get f c hf l i a (by simpa using h) j u hj
/-- One of a row's structs. -/
theorem Row.gets {α : Type} {W : World} {v : Value} (f : α → List Value) (c : Nat) (hf : ∀ a, (f a).length = c) {l : List α} (h : Row W v l.length (l.flatMap f)) {i : Nat} {a : α} (hi : l[i]? = some a) : ∃ b o cap, v = .slice (some ⟨b, o, none⟩) l.length cap ∧ l.length ≤ cap ∧ ∀ (j : Nat) (u : Value), (f a)[j]? = some u → W.cell? ⟨b, o + i * c + j, none⟩ = some u := by
  obtain ⟨p, cap, rfl, hc, hr⟩ := h
  have hk : i < l.length := (List.getElem?_eq_some_iff.1 hi).1
  obtain ⟨b, o, rfl, _, hcell⟩ := hr (by omega)
  refine ⟨b, o, cap, rfl, hc, fun j u hj => ?_⟩
  rw [Nat.add_assoc]
  exact hcell _ _ (flat_get f c hf l i a hi j u hj)
def nmB (n : Int) : ByteArray := ⟨#[32]⟩ ++ iB n
def numB (l : List Int) : ByteArray := cat (l.map nmB)
theorem cat_le {α : Type} (f : α → ByteArray) (m : Nat) : ∀ l : List α, (∀ a ∈ l, (f a).size ≤ m) → (cat (l.map f)).size ≤ l.length * m
  | [], _ => Nat.zero_le _
  | a :: l, h => by
    have ih := cat_le f m l (fun x hx => h x (by simp [hx]))
    have h1 := h a (by simp)
    rw [cat_size] at ih ⊢
    simp only [List.map_cons, List.sum_cons, List.length_cons, Nat.add_mul]
    simp only [List.map_map] at ih ⊢
    omega
theorem nmB_size {n : Int} (h : In64 n) : (nmB n).size ≤ 40 := by
  unfold nmB
  rw [ByteArray.size_append]
  have := iB_size h
  have : (⟨#[32]⟩ : ByteArray).size = 1 := rfl
  omega
set_option maxHeartbeats 4000000 in
theorem numbers_any (w : World) (hv : Tab w) (v : Value) (l : List Int) (hr : Row w v l.length (ints l)) (hl : l.length ≤ 2000000) (ho : ∀ n ∈ l, In64 n) :
    Calls Tryd.prog 6 #[v] w fun e w' => e = .returned (.string (numB l)) ∧ Keeps (fun _ => False) w w' := by
  obtain ⟨p, c, rfl, hc, _⟩ := id hr
  have HR := Hid.mk' hr
  have HT := Hid.mk' hv
  have HO := Hid.mk' ho
  clear hr hv ho
  go_enter Tryd.func6, Tryd.ntmps6
  go_wp2
  go_loopw [3, 4] (fun s i wr => ∃ (k : Nat) (x : ByteArray), k ≤ l.length ∧ i = .int .i64 k ∧ s = .string x ∧ x.size ≤ 100000000 ∧ Hid (x = cat ((l.take k).map nmB)) ∧ Hid (Keeps (fun _ => False) w wr)) (fun _ i _ => l.length - (intOf i).toNat)
  case atStart => exact ⟨0, _, Nat.zero_le _, rfl, rfl, by decide, rfl, Keeps.refl _ _⟩
  case round =>
    obtain ⟨k, x, hk, rfl, rfl, hx, HX, HK⟩ := hrel
    by_cases h1 : k < l.length
    · have h1' : (k : Int) < (l.length : Int) := by omega
      obtain ⟨n, hn⟩ : ∃ n, l[k]? = some n := ⟨l[k], by simp [h1]⟩
      obtain ⟨p', c', hpc, _, hcell⟩ := HR.out.keep HK.out
      injection hpc with e1 e2 e3
      subst e1 e3
      obtain ⟨b, o, hp, _, hc2⟩ := hcell (by omega)
      subst hp
      have hld := hc2 k _ (ints_get hn)
      have hbn := HO.out n (List.mem_of_getElem? hn)
      have h8 := itoa_any wr (HT.out.keep HK.out) n hbn
      have hz := iB_size hbn
      have HX2 : Hid (x ++ ((⟨#[32]⟩ : ByteArray) ++ iB n) = cat ((l.take (k + 1)).map nmB)) := by show _ = _; rw [cat_take nmB hn, ← HX.out]; rfl
      have HS2 : Hid ((x ++ ((⟨#[32]⟩ : ByteArray) ++ iB n)).size ≤ 100000000) := by
        show _ ≤ _
        rw [HX2.out]
        have := cat_le nmB 40 (l.take (k + 1)) (fun a ha => nmB_size (HO.out a (List.mem_of_mem_take ha)))
        have h2 : (l.take (k + 1)).length ≤ 2000000 := by simp; omega
        omega
      clear hc2 hcell e2 hn hbn
      go_wp2_with (first | (go_at_call 8; refine h8.mono ?_; clear h8; rintro e w1 ⟨rfl, hk1⟩; have HK1 := Hid.mk' hk1; clear hk1))
      go_roundw
      case rel => exact ⟨k + 1, _, by omega, by go_num, rfl, HS2.out, HX2.out, HK.out.trans HK1.out⟩
      case measure => simp [intOf]; omega
    · have h1' : ¬ (k : Int) < (l.length : Int) := by omega
      have HE : Hid (x = numB l) := by have h := HX.out; rw [List.take_of_length_le (by omega)] at h; exact h
      go_wp2
      go_ret
      exact ⟨by rw [HE.out]; first | done | rfl, HK.out⟩
/-- A name. -/
def dcell (d : ByteArray × Int) : List Value := [.string d.1, .int .i64 d.2]
def dnB (d : ByteArray × Int) : ByteArray := (⟨#[32]⟩ : ByteArray) ++ mkB (quo d.1.data.toList) ++ ⟨#[32]⟩ ++ iB d.2
def dtsB (l : List (ByteArray × Int)) : ByteArray := cat (l.map dnB)
theorem quo_size (s : ByteArray) : (mkB (quo s.data.toList)).size ≤ 4 * s.size + 2 := by rw [mkB_size, size_len]; exact quo_le _
theorem dnB_size {d : ByteArray × Int} (h : In64 d.2) : (dnB d).size ≤ 4 * d.1.size + 40 := by
  unfold dnB
  simp only [ByteArray.size_append]
  have := iB_size h
  have := quo_size d.1
  have : (⟨#[32]⟩ : ByteArray).size = 1 := rfl
  omega
def dwt (l : List (ByteArray × Int)) : Nat := (l.map fun d => d.1.size + 1).sum
theorem dwt_take (l : List (ByteArray × Int)) (k : Nat) : dwt (l.take k) ≤ dwt l := by
  have e : dwt l = dwt (l.take k) + dwt (l.drop k) := by
    unfold dwt
    rw [← List.sum_append, ← List.map_append, List.take_append_drop]
  omega
theorem dwt_mem {l : List (ByteArray × Int)} {d : ByteArray × Int} (h : d ∈ l) : d.1.size + 1 ≤ dwt l := by
  induction l with
  | nil => cases h
  | cons x l ih =>
    have e : dwt (x :: l) = (x.1.size + 1) + dwt l := by simp [dwt]
    rw [e]
    rcases List.mem_cons.1 h with rfl | h
    · omega
    · have := ih h; omega
theorem dtsB_size {l : List (ByteArray × Int)} (h : ∀ d ∈ l, In64 d.2) : (dtsB l).size ≤ 40 * dwt l := by
  induction l with
  | nil => exact Nat.zero_le _
  | cons x l ih =>
    have h1 := ih (fun d hd => h d (by simp [hd]))
    have h2 := dnB_size (h x (by simp))
    have e : dwt (x :: l) = (x.1.size + 1) + dwt l := by simp [dwt]
    unfold dtsB at h1 ⊢
    rw [cat_size] at h1 ⊢
    simp only [List.map_cons, List.sum_cons]
    omega
set_option maxHeartbeats 8000000 in
theorem dents_any (w : World) (hv : Tab w) (v : Value) (l : List (ByteArray × Int)) (hr : Row w v l.length (l.flatMap dcell)) (hl : dwt l ≤ 1200000) (hn : l.length ≤ 2000000) (ho : ∀ d ∈ l, In64 d.2) :
    Calls Tryd.prog 15 #[v] w fun e w' => e = .returned (.string (dtsB l)) ∧ Keeps (fun _ => False) w w' := by
  obtain ⟨p, c, rfl, hc, _⟩ := id hr
  have HR := Hid.mk' hr
  have HT := Hid.mk' hv
  have HO := Hid.mk' ho
  clear hr hv ho
  go_enter Tryd.func15, Tryd.ntmps15
  go_wp2
  go_loopw [3, 4] (fun s i wr => ∃ (k : Nat) (x : ByteArray), k ≤ l.length ∧ i = .int .i64 k ∧ s = .string x ∧ x.size ≤ 100000000 ∧ Hid (x = cat ((l.take k).map dnB)) ∧ Hid (Keeps (fun _ => False) w wr)) (fun _ i _ => l.length - (intOf i).toNat)
  case atStart => exact ⟨0, _, Nat.zero_le _, rfl, rfl, by decide, rfl, Keeps.refl _ _⟩
  case round =>
    obtain ⟨k, x, hk, rfl, rfl, hx, HX, HK⟩ := hrel
    by_cases h1 : k < l.length
    · have h1' : (k : Int) < (l.length : Int) := by omega
      obtain ⟨⟨dn, di⟩, hd⟩ : ∃ n, l[k]? = some n := ⟨l[k], by simp [h1]⟩
      obtain ⟨b, o, c', e, _, hcell⟩ := (HR.out.keep HK.out).gets dcell 2 (fun _ => rfl) hd
      injection e with e1 _ e3
      subst e1 e3
      have q0 := hcell 0 (.string dn) rfl
      have q1 := hcell 1 (.int .i64 di) rfl
      have hbn : In64 di := HO.out _ (List.mem_of_getElem? hd)
      have hqs : dn.size ≤ 2000000 := by have h := dwt_mem (List.mem_of_getElem? hd); dsimp only at h; omega
      have hz := iB_size hbn
      have hzq := quo_size dn
      have HX2 : Hid (x ++ ((⟨#[32]⟩ : ByteArray) ++ mkB (quo dn.data.toList) ++ (⟨#[32]⟩ : ByteArray) ++ iB di) = cat ((l.take (k + 1)).map dnB)) := by show _ = _; rw [cat_take dnB hd, ← HX.out]; rfl
      have HS2 : Hid ((x ++ ((⟨#[32]⟩ : ByteArray) ++ mkB (quo dn.data.toList) ++ (⟨#[32]⟩ : ByteArray) ++ iB di)).size ≤ 100000000) := by
        show _ ≤ _
        rw [HX2.out]
        have h2 := dtsB_size (l := l.take (k + 1)) (fun d hd => HO.out d (List.mem_of_mem_take hd))
        have h3 := dwt_take l (k + 1)
        unfold dtsB at h2
        omega
      rw [Nat.add_zero] at q0
      clear hcell hd
      go_upto_region 5 with (fail)
      have HKK0 := Hid.mk' (Keeps.drewN (fun _ => False) wr 1)
      refine wp_region_held_drew (S := fun wx => wx.cell? ⟨b, o + k * 2, none⟩ = some (.string dn) ∧ wx.cell? ⟨b, o + k * 2 + 1, none⟩ = some (.int .i64 di)) (by kernel_rfl) ⟨q0, q1⟩ (fun hS => ?_)
      refine takeH 0 (some 11) (.string x) rfl rfl (by kernel_rfl) (by kernel_rfl) (by kernel_rfl) (fun _ _ _ h => h) (Or.inl ⟨by rfl, fun wx _ => by go_simp⟩) hS ?_
      try simp only [Act.put, List.setIfInBounds_toArray, List.set_cons_zero, List.set_cons_succ]
      refine takeH 1 (some 12) (.slice (some ⟨b, o, none⟩) l.length c) rfl rfl (by kernel_rfl) (by kernel_rfl) (by kernel_rfl) (fun _ _ _ h => h) (Or.inl ⟨by rfl, fun wx _ => by go_simp⟩) hS ?_
      try simp only [Act.put, List.setIfInBounds_toArray, List.set_cons_zero, List.set_cons_succ]
      refine takeH 2 (some 13) (.int .i64 (k : Int)) rfl rfl (by kernel_rfl) (by kernel_rfl) (by kernel_rfl) (fun _ _ _ h => h) (Or.inl ⟨by rfl, fun wx _ => by go_simp⟩) hS ?_
      try simp only [Act.put, List.setIfInBounds_toArray, List.set_cons_zero, List.set_cons_succ]
      refine takeH 3 (some 14) (.pointer (some ⟨b, o + k * 2, none⟩)) rfl rfl (by kernel_rfl) (by kernel_rfl) (by kernel_rfl) (fun _ _ _ h => h) (Or.inl ⟨by rfl, fun wx _ => by go_simp⟩) hS ?_
      try simp only [Act.put, List.setIfInBounds_toArray, List.set_cons_zero, List.set_cons_succ]
      refine takeH 4 (some 15) (.pointer (some ⟨b, o + k * 2, none⟩)) rfl rfl (by kernel_rfl) (by kernel_rfl) (by kernel_rfl) (fun _ _ _ h => h) (Or.inl ⟨by rfl, fun wx _ => by go_simp⟩) hS ?_
      try simp only [Act.put, List.setIfInBounds_toArray, List.set_cons_zero, List.set_cons_succ]
      refine takeH 5 (some 16) (.string dn) rfl rfl (by kernel_rfl) (by kernel_rfl) (by kernel_rfl) (fun _ _ _ h => h) (Or.inl ⟨by rfl, fun wx ⟨s0, _⟩ => by go_simp⟩) hS ?_
      try simp only [Act.put, List.setIfInBounds_toArray, List.set_cons_zero, List.set_cons_succ]
      refine takeH 9 (some 20) (.slice (some ⟨b, o, none⟩) l.length c) rfl rfl (by kernel_rfl) (by kernel_rfl) (by kernel_rfl) (fun _ _ _ h => h) (Or.inl ⟨by rfl, fun wx _ => by go_simp⟩) hS ?_
      try simp only [Act.put, List.setIfInBounds_toArray, List.set_cons_zero, List.set_cons_succ]
      refine takeH 10 (some 21) (.int .i64 (k : Int)) rfl rfl (by kernel_rfl) (by kernel_rfl) (by kernel_rfl) (fun _ _ _ h => h) (Or.inl ⟨by rfl, fun wx _ => by go_simp⟩) hS ?_
      try simp only [Act.put, List.setIfInBounds_toArray, List.set_cons_zero, List.set_cons_succ]
      refine takeH 11 (some 22) (.pointer (some ⟨b, o + k * 2, none⟩)) rfl rfl (by kernel_rfl) (by kernel_rfl) (by kernel_rfl) (fun _ _ _ h => h) (Or.inl ⟨by rfl, fun wx _ => by go_simp⟩) hS ?_
      try simp only [Act.put, List.setIfInBounds_toArray, List.set_cons_zero, List.set_cons_succ]
      refine takeH 12 (some 23) (.pointer (some ⟨b, o + k * 2 + 1, none⟩)) rfl rfl (by kernel_rfl) (by kernel_rfl) (by kernel_rfl) (fun _ _ _ h => h) (Or.inl ⟨by rfl, fun wx _ => by go_simp⟩) hS ?_
      try simp only [Act.put, List.setIfInBounds_toArray, List.set_cons_zero, List.set_cons_succ]
      refine takeH 13 (some 24) (.int .i64 di) rfl rfl (by kernel_rfl) (by kernel_rfl) (by kernel_rfl) (fun _ _ _ h => h) (Or.inl ⟨by rfl, fun wx ⟨_, s0⟩ => by go_simp⟩) hS ?_
      try simp only [Act.put, List.setIfInBounds_toArray, List.set_cons_zero, List.set_cons_succ]
      refine wpAnyH_ready (rs := [6]) (by kernel_rfl) (by simp) (AllReadyH.cons rfl (fun K hK => ?_) AllReadyH.nil)
      go_simp
      go_at_call 24
      refine (rquote_any _ dn hqs).mono ?_
      rintro e wk0 ⟨rfl, hk8⟩
      have HKK1 := Hid.mk' (HKK0.out.trans hk8)
      refine hK.out _ _ (⟨hk8.cell hS.1 id, hk8.cell hS.2 id⟩) (fun hS => ?_)
      clear hK hk8
      try simp only [Act.put, List.setIfInBounds_toArray, List.set_cons_zero, List.set_cons_succ]
      refine takeH 7 (some 18) (.string ((⟨#[32]⟩ : ByteArray) ++ (mkB (quo dn.data.toList)))) rfl rfl (by kernel_rfl) (by kernel_rfl) (by kernel_rfl) (fun _ _ _ h => h) (Or.inl ⟨by rfl, fun wx _ => by go_simp <;> omega⟩) hS ?_
      try simp only [Act.put, List.setIfInBounds_toArray, List.set_cons_zero, List.set_cons_succ]
      refine takeH 8 (some 19) (.string (((⟨#[32]⟩ : ByteArray) ++ (mkB (quo dn.data.toList))) ++ (⟨#[32]⟩ : ByteArray))) rfl rfl (by kernel_rfl) (by kernel_rfl) (by kernel_rfl) (fun _ _ _ h => h) (Or.inl ⟨by rfl, fun wx _ => by go_simp <;> omega⟩) hS ?_
      try simp only [Act.put, List.setIfInBounds_toArray, List.set_cons_zero, List.set_cons_succ]
      refine wpAnyH_ready (rs := [14]) (by kernel_rfl) (by simp) (AllReadyH.cons rfl (fun K hK => ?_) AllReadyH.nil)
      go_simp
      go_at_call 8
      refine (itoa_any _ (HT.out.keep (HK.out.trans HKK1.out)) di hbn).mono ?_
      rintro e wk1 ⟨rfl, hk8⟩
      have HKK2 := Hid.mk' (HKK1.out.trans hk8)
      refine hK.out _ _ (⟨hk8.cell hS.1 id, hk8.cell hS.2 id⟩) (fun hS => ?_)
      clear hK hk8
      try simp only [Act.put, List.setIfInBounds_toArray, List.set_cons_zero, List.set_cons_succ]
      refine takeH 15 (some 26) (.string ((((⟨#[32]⟩ : ByteArray) ++ (mkB (quo dn.data.toList))) ++ (⟨#[32]⟩ : ByteArray)) ++ (iB di))) rfl rfl (by kernel_rfl) (by kernel_rfl) (by kernel_rfl) (fun _ _ _ h => h) (Or.inl ⟨by rfl, fun wx _ => by go_simp <;> omega⟩) hS ?_
      try simp only [Act.put, List.setIfInBounds_toArray, List.set_cons_zero, List.set_cons_succ]
      refine takeH 16 (some 27) (.string (x ++ ((((⟨#[32]⟩ : ByteArray) ++ (mkB (quo dn.data.toList))) ++ (⟨#[32]⟩ : ByteArray)) ++ (iB di)))) rfl rfl (by kernel_rfl) (by kernel_rfl) (by kernel_rfl) (fun _ _ _ h => h) (Or.inl ⟨by rfl, fun wx _ => by go_simp <;> omega⟩) hS ?_
      try simp only [Act.put, List.setIfInBounds_toArray, List.set_cons_zero, List.set_cons_succ]
      refine takeH 17 (some 3) (.string (x ++ ((((⟨#[32]⟩ : ByteArray) ++ (mkB (quo dn.data.toList))) ++ (⟨#[32]⟩ : ByteArray)) ++ (iB di)))) rfl rfl (by kernel_rfl) (by kernel_rfl) (by kernel_rfl) (fun _ _ _ h => h) (Or.inl ⟨by rfl, fun wx _ => by go_simp⟩) hS ?_
      try simp only [Act.put]
      refine wpAnyH_done (by kernel_rfl) ?_ _
      clear hS
      go_wp2
      go_roundw
      case rel => exact ⟨k + 1, _, by omega, by go_num, rfl, HS2.out, HX2.out, HK.out.trans HKK2.out⟩
      case measure => simp [intOf]; omega
    · have h1' : ¬ (k : Int) < (l.length : Int) := by omega
      have HE : Hid (x = dtsB l) := by have h := HX.out; rw [List.take_of_length_le (by omega)] at h; exact h
      go_wp2
      go_ret
      exact ⟨by rw [HE.out]; first | done | rfl, HK.out⟩
end Go.Proofs.YtpgabmfpffaajaaDoor
