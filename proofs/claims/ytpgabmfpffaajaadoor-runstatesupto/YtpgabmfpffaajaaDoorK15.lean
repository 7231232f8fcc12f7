import Derived.Test.YtpgabmfpffaajaaDoorK14
namespace Go.Proofs.YtpgabmfpffaajaaDoor
open Go.RowKit Go.Maps
set_option maxRecDepth 100000

/-! The program's lines. -/
theorem sr_new (W : World) (l : List ByteArray) (h : l.length ≤ 1000 := by simp) : SR W (W.alloc (.cells (strs l).toArray 9)) (.slice (some ⟨W.heap.size, 0, none⟩) l.length l.length) l := by
  refine ⟨⟨by rw [strs_len, Nat.mul_one], Or.inr ⟨_, _, _, rfl, Nat.le_refl _, heap_last _ _, Nat.le_refl _, by unfold maxLen; omega, by simp [strs_len], by simp [← strs_len l]⟩⟩, (Keeps.refl _ W).alloc _⟩
def tit (s : ByteArray) (l : List ByteArray) : List ByteArray := if l = [] then [] else s :: l
set_option maxHeartbeats 4000000 in
theorem titled_any (w : World) (s : ByteArray) (v : Value) (l : List ByteArray) (hr : Row w v l.length (strs l)) (hl : l.length ≤ 10000000) :
    Calls Tryd.prog 19 #[.string s, v] w fun e w' => ∃ v', e = .returned v' ∧ Hid (SR w w' v' (tit s l)) := by
  obtain ⟨p, c, rfl, hc, _⟩ := id hr
  have HR := Hid.mk' hr
  clear hr
  by_cases h0 : l = []
  · subst h0
    go_enter Tryd.func19, Tryd.ntmps19
    go_wp2
    try rw [Exit.noGoto_ret]
    refine bodyPost_ret (v := .slice none 0 0) (by simp [results, Tryd.results19, go_sem]) rfl ?_
    exact ⟨_, rfl, SR.nil w⟩
  · have h1 : ((l.length : Int) == 0) = false := beq_eq_false_iff_ne.2 (fun h => h0 (List.length_eq_zero_iff.1 (by omega)))
    have h2 : ¬ (l.length : Int) = 0 := fun h => h0 (List.length_eq_zero_iff.1 (by omega))
    have HT : Hid (tit s l = [s] ++ l) := by show _ = _; unfold tit; rw [if_neg h0]; rfl
    have HN := Hid.mk' (SR.one (Keeps.refl (fun _ => False) w) s)
    have HR1 := Hid.mk' (HR.out.keep ((Keeps.refl (fun _ => False) w).alloc (.cells #[.string s] 9)))
    clear h0
    go_enter Tryd.func19, Tryd.ntmps19
    go_wp2_with (first
      | (at_builtin; go_must (refine wpList_appl rfl _ _ rfl w (w.alloc (.cells #[.string s] 9)) _ [s] (by rfl) HN.out _ l (by rfl) HR1.out (by simp only [List.length_cons, List.length_nil]; omega) ?_); intro v2 W2 hO; have HO2 := Hid.mk' hO; clear hO))
    try rw [Exit.noGoto_ret]
    refine bodyPost_ret (v := v2) (by simp [results, Tryd.results19, go_sem]) rfl ?_
    exact ⟨_, rfl, by rw [HT.out]; exact HO2.out⟩
def jnB (l : List ByteArray) (sep : UInt8) : ByteArray := mkB (Lib.join (l.map (·.data.toList)) [sep])
theorem join_any (w : World) (v : Value) (l : List ByteArray) (hr : Row w v l.length (strs l)) (h0 : 0 < l.length) (hl : l.length ≤ 10000000) (sep : UInt8) (hj : (jnB l sep).size ≤ 2000000000) :
    Calls Tryd.prog 23 #[v, .string ⟨#[sep]⟩] w fun e w' => e = .returned (.string (jnB l sep)) ∧ Keeps (fun _ => False) w w' := by
  obtain ⟨p, c, rfl, hc, hcell⟩ := hr
  obtain ⟨b, o, rfl, hb, hcell⟩ := hcell h0
  refine (Tryd.strings_Join b o c l ⟨#[sep]⟩ w (fun j x hj => hcell j _ (by simp [strs, hj])) hb (by omega) hc (by
    unfold jnB at hj
    rw [mkB_size] at hj
    have e : (⟨#[sep]⟩ : ByteArray).data.toList = [sep] := rfl
    rw [e]; omega)).mono ?_
  rintro e w1 ⟨rfl, hk⟩
  exact ⟨rfl, Keeps.ofBelow hk⟩
set_option maxHeartbeats 2000000 in
theorem inWords_any (w : World) (v : Value) (l : List ByteArray) (hr : Row w v l.length (strs l)) (h0 : 0 < l.length) (hl : l.length ≤ 10000000) (hj : (jnB l 32).size ≤ 2000000000) :
    Calls Tryd.prog 17 #[v] w fun e w' => e = .returned (.string (jnB l 32)) ∧ Keeps (fun _ => False) w w' := by
  have h := join_any w v l hr h0 hl 32 hj
  obtain ⟨p, c, rfl, hc, _⟩ := id hr
  go_enter Tryd.func17, Tryd.ntmps17
  go_wp2_with (first | (go_at_call 23; refine h.mono ?_; clear h; rintro e w1 ⟨rfl, hk1⟩))
  go_ret
  exact ⟨rfl, hk1⟩
set_option maxHeartbeats 2000000 in
theorem inLines_any (w : World) (v : Value) (l : List ByteArray) (hr : Row w v l.length (strs l)) (h0 : 0 < l.length) (hl : l.length ≤ 10000000) (hj : (jnB l 10).size ≤ 2000000000) :
    Calls Tryd.prog 12 #[v] w fun e w' => e = .returned (.string (jnB l 10)) ∧ Keeps (fun _ => False) w w' := by
  have h := join_any w v l hr h0 hl 10 hj
  obtain ⟨p, c, rfl, hc, _⟩ := id hr
  go_enter Tryd.func12, Tryd.ntmps12
  go_wp2_with (first | (go_at_call 23; refine h.mono ?_; clear h; rintro e w1 ⟨rfl, hk1⟩))
  go_ret
  exact ⟨rfl, hk1⟩
def idB (l : List ByteArray) : ByteArray := (⟨#[32, 32]⟩ : ByteArray) ++ jnB l 32
set_option maxHeartbeats 2000000 in
theorem indented_any (w : World) (v : Value) (l : List ByteArray) (hr : Row w v l.length (strs l)) (h0 : 0 < l.length) (hl : l.length ≤ 10000000) (hj : (jnB l 32).size ≤ 2000000000) :
    Calls Tryd.prog 9 #[v] w fun e w' => e = .returned (.string (idB l)) ∧ Keeps (fun _ => False) w w' := by
  have h := inWords_any w v l hr h0 hl hj
  have HE : Hid (idB l = (⟨#[32, 32]⟩ : ByteArray) ++ jnB l 32) := rfl
  obtain ⟨p, c, rfl, hc, _⟩ := id hr
  generalize jnB l 32 = J at *
  go_enter Tryd.func9, Tryd.ntmps9
  go_wp2_with (first | (go_at_call 17; refine h.mono ?_; clear h; rintro e w1 ⟨rfl, hk1⟩))
  go_ret
  exact ⟨by rw [HE.out]; first | done | rfl, hk1⟩
def nw1 (d : Nd) : List ByteArray := [(⟨#[105, 110, 111, 100, 101]⟩ : ByteArray), (iB d.ino), (kB d.kind), (iB d.links), (⟨#[115, 105, 122, 101]⟩ : ByteArray), (iB d.size), (⟨#[104, 101, 97, 100]⟩ : ByteArray), (iB d.head), (⟨#[116, 97, 105, 108]⟩ : ByteArray), (iB d.tail), (⟨#[101, 110, 116, 114, 105, 101, 115]⟩ : ByteArray), (iB d.ents)]
def kw (d : Nd) : List ByteArray := if d.kind = 1 then tit ⟨#[109, 97, 112]⟩ (d.mp.flatMap rwB) else if d.kind = 2 then tit ⟨#[110, 97, 109, 101, 115]⟩ (d.nm.flatMap dwB) else []
def nodW (d : Nd) : List ByteArray := nw1 d ++ tit ⟨#[108, 111, 103]⟩ (d.lg.map iB) ++ kw d
theorem tit_len (s : ByteArray) (l : List ByteArray) : (tit s l).length ≤ l.length + 1 := by
  unfold tit
  split
  · simp
  · simp
theorem flatB_len {α : Type} (f : α → List ByteArray) (c : Nat) (hf : ∀ a, (f a).length = c) (l : List α) : (l.flatMap f).length = l.length * c := by
  induction l with
  | nil => simp
  | cons a t ih => rw [List.flatMap_cons, List.length_append, ih, hf, List.length_cons, Nat.add_mul]; omega
theorem SR.base {w w1 W : World} {v : Value} {l : List ByteArray} (h : SR w1 W v l) (k : Keeps (fun _ => False) w w1) : SR w W v l := ⟨own_base h.1 k.size, k.trans h.2⟩
set_option maxHeartbeats 16000000 in
theorem nodeWords_any (w : World) (hv : Tab w) (d : Nd) (vm vn vl : Value) (hr : NdAt w d vm vn vl) (hi : NdIn d) :
    Calls Tryd.prog 11 #[.agg (ncell d vm vn vl)] w fun e w' => ∃ v', e = .returned v' ∧ Hid (SR w w' v' (nodW d)) := by
  obtain ⟨pm, cm, rfl, hcm, _⟩ := id hr.mp
  obtain ⟨pn, cn, rfl, hcn, _⟩ := id hr.nm
  obtain ⟨pl, cl, rfl, hcl, _⟩ := id hr.lg
  have HR := Hid.mk' hr
  have HT := Hid.mk' hv
  have HI := Hid.mk' hi
  obtain ⟨W0, hW0, HK0, HB0⟩ : ∃ W0, w.alloc (.cells (ncell d (.slice pm d.mp.length cm) (.slice pn d.nm.length cn) (.slice pl d.lg.length cl)) 36) = W0 ∧ Hid (Keeps (fun _ => False) w W0) ∧ Hid (W0.heap[w.heap.size]? = some (.cells (ncell d (.slice pm d.mp.length cm) (.slice pn d.nm.length cn) (.slice pl d.lg.length cl)) 36)) := ⟨_, rfl, (Keeps.refl _ w).alloc _, heap_last w _⟩
  have HC : Hid (∀ (W : World), Keeps (fun _ => False) W0 W → ∀ (j : Nat) (u : Value), (ncell d (.slice pm d.mp.length cm) (.slice pn d.nm.length cn) (.slice pl d.lg.length cl))[j]? = some u → W.cell? ⟨w.heap.size, j, none⟩ = some u) := by
    intro W k j u hj
    simp only [World.cell?, k.at HB0.out id]
    exact hj
  clear hr hv
  have c0 := HC.out W0 (Keeps.refl _ _) 0 _ rfl
  have c1 := HC.out W0 (Keeps.refl _ _) 1 _ rfl
  have c2 := HC.out W0 (Keeps.refl _ _) 2 _ rfl
  have c3 := HC.out W0 (Keeps.refl _ _) 3 _ rfl
  have c6 := HC.out W0 (Keeps.refl _ _) 6 _ rfl
  have c7 := HC.out W0 (Keeps.refl _ _) 7 _ rfl
  have c9 := HC.out W0 (Keeps.refl _ _) 9 _ rfl
  go_enter Tryd.func11, Tryd.ntmps11
  go_upto_region 1 with (fail)
  try rw [hW0]
  clear hW0
  have HKK0 := Hid.mk' (Keeps.drewN (fun _ => False) W0 1)
  refine wp_region_held_drew (S := fun wx => wx.cell? ⟨w.heap.size, 0, none⟩ = some (.int .i64 d.ino) ∧ wx.cell? ⟨w.heap.size, 1, none⟩ = some (.int .i64 d.kind) ∧ wx.cell? ⟨w.heap.size, 2, none⟩ = some (.int .i64 d.links) ∧ wx.cell? ⟨w.heap.size, 3, none⟩ = some (.int .i64 d.size) ∧ wx.cell? ⟨w.heap.size, 6, none⟩ = some (.int .i64 d.head) ∧ wx.cell? ⟨w.heap.size, 7, none⟩ = some (.int .i64 d.tail) ∧ wx.cell? ⟨w.heap.size, 9, none⟩ = some (.int .i64 d.ents)) (by kernel_rfl) ⟨c0, c1, c2, c3, c6, c7, c9⟩ (fun hS => ?_)
  refine takeH 0 (some 4) (.pointer (some ⟨w.heap.size, 0, none⟩)) rfl rfl (by kernel_rfl) (by kernel_rfl) (by kernel_rfl) (fun _ _ _ h => h) (Or.inl ⟨by rfl, fun wx _ => by go_simp⟩) hS ?_
  try simp only [Act.put, List.setIfInBounds_toArray, List.set_cons_zero, List.set_cons_succ]
  refine takeH 1 (some 5) (.int .i64 d.ino) rfl rfl (by kernel_rfl) (by kernel_rfl) (by kernel_rfl) (fun _ _ _ h => h) (Or.inl ⟨by rfl, fun wx ⟨s0, _, _, _, _, _, _⟩ => by go_simp⟩) hS ?_
  try simp only [Act.put, List.setIfInBounds_toArray, List.set_cons_zero, List.set_cons_succ]
  refine takeH 3 (some 7) (.pointer (some ⟨w.heap.size, 1, none⟩)) rfl rfl (by kernel_rfl) (by kernel_rfl) (by kernel_rfl) (fun _ _ _ h => h) (Or.inl ⟨by rfl, fun wx _ => by go_simp⟩) hS ?_
  try simp only [Act.put, List.setIfInBounds_toArray, List.set_cons_zero, List.set_cons_succ]
  refine takeH 4 (some 8) (.int .i64 d.kind) rfl rfl (by kernel_rfl) (by kernel_rfl) (by kernel_rfl) (fun _ _ _ h => h) (Or.inl ⟨by rfl, fun wx ⟨_, s0, _, _, _, _, _⟩ => by go_simp⟩) hS ?_
  try simp only [Act.put, List.setIfInBounds_toArray, List.set_cons_zero, List.set_cons_succ]
  refine takeH 6 (some 10) (.pointer (some ⟨w.heap.size, 2, none⟩)) rfl rfl (by kernel_rfl) (by kernel_rfl) (by kernel_rfl) (fun _ _ _ h => h) (Or.inl ⟨by rfl, fun wx _ => by go_simp⟩) hS ?_
  try simp only [Act.put, List.setIfInBounds_toArray, List.set_cons_zero, List.set_cons_succ]
  refine takeH 7 (some 11) (.int .i64 d.links) rfl rfl (by kernel_rfl) (by kernel_rfl) (by kernel_rfl) (fun _ _ _ h => h) (Or.inl ⟨by rfl, fun wx ⟨_, _, s0, _, _, _, _⟩ => by go_simp⟩) hS ?_
  try simp only [Act.put, List.setIfInBounds_toArray, List.set_cons_zero, List.set_cons_succ]
  refine takeH 9 (some 13) (.pointer (some ⟨w.heap.size, 3, none⟩)) rfl rfl (by kernel_rfl) (by kernel_rfl) (by kernel_rfl) (fun _ _ _ h => h) (Or.inl ⟨by rfl, fun wx _ => by go_simp⟩) hS ?_
  try simp only [Act.put, List.setIfInBounds_toArray, List.set_cons_zero, List.set_cons_succ]
  refine takeH 10 (some 14) (.int .i64 d.size) rfl rfl (by kernel_rfl) (by kernel_rfl) (by kernel_rfl) (fun _ _ _ h => h) (Or.inl ⟨by rfl, fun wx ⟨_, _, _, s0, _, _, _⟩ => by go_simp⟩) hS ?_
  try simp only [Act.put, List.setIfInBounds_toArray, List.set_cons_zero, List.set_cons_succ]
  refine takeH 12 (some 16) (.pointer (some ⟨w.heap.size, 6, none⟩)) rfl rfl (by kernel_rfl) (by kernel_rfl) (by kernel_rfl) (fun _ _ _ h => h) (Or.inl ⟨by rfl, fun wx _ => by go_simp⟩) hS ?_
  try simp only [Act.put, List.setIfInBounds_toArray, List.set_cons_zero, List.set_cons_succ]
  refine takeH 13 (some 17) (.int .i64 d.head) rfl rfl (by kernel_rfl) (by kernel_rfl) (by kernel_rfl) (fun _ _ _ h => h) (Or.inl ⟨by rfl, fun wx ⟨_, _, _, _, s0, _, _⟩ => by go_simp⟩) hS ?_
  try simp only [Act.put, List.setIfInBounds_toArray, List.set_cons_zero, List.set_cons_succ]
  refine takeH 15 (some 19) (.pointer (some ⟨w.heap.size, 7, none⟩)) rfl rfl (by kernel_rfl) (by kernel_rfl) (by kernel_rfl) (fun _ _ _ h => h) (Or.inl ⟨by rfl, fun wx _ => by go_simp⟩) hS ?_
  try simp only [Act.put, List.setIfInBounds_toArray, List.set_cons_zero, List.set_cons_succ]
  refine takeH 16 (some 20) (.int .i64 d.tail) rfl rfl (by kernel_rfl) (by kernel_rfl) (by kernel_rfl) (fun _ _ _ h => h) (Or.inl ⟨by rfl, fun wx ⟨_, _, _, _, _, s0, _⟩ => by go_simp⟩) hS ?_
  try simp only [Act.put, List.setIfInBounds_toArray, List.set_cons_zero, List.set_cons_succ]
  refine takeH 18 (some 22) (.pointer (some ⟨w.heap.size, 9, none⟩)) rfl rfl (by kernel_rfl) (by kernel_rfl) (by kernel_rfl) (fun _ _ _ h => h) (Or.inl ⟨by rfl, fun wx _ => by go_simp⟩) hS ?_
  try simp only [Act.put, List.setIfInBounds_toArray, List.set_cons_zero, List.set_cons_succ]
  refine takeH 19 (some 23) (.int .i64 d.ents) rfl rfl (by kernel_rfl) (by kernel_rfl) (by kernel_rfl) (fun _ _ _ h => h) (Or.inl ⟨by rfl, fun wx ⟨_, _, _, _, _, _, s0⟩ => by go_simp⟩) hS ?_
  try simp only [Act.put, List.setIfInBounds_toArray, List.set_cons_zero, List.set_cons_succ]
  refine wpAnyH_ready (rs := [2]) (by kernel_rfl) (by simp) (AllReadyH.cons rfl (fun K hK => ?_) AllReadyH.nil)
  go_simp
  go_at_call 10
  refine (number_any _ (HT.out.keep (HK0.out.trans HKK0.out)) d.ino HI.out.ino).mono ?_
  rintro e wk0 ⟨rfl, hk8⟩
  have HKK1 := Hid.mk' (HKK0.out.trans hk8)
  refine hK.out _ _ (⟨hk8.cell hS.1 id, hk8.cell hS.2.1 id, hk8.cell hS.2.2.1 id, hk8.cell hS.2.2.2.1 id, hk8.cell hS.2.2.2.2.1 id, hk8.cell hS.2.2.2.2.2.1 id, hk8.cell hS.2.2.2.2.2.2 id⟩) (fun hS => ?_)
  clear hK hk8
  try simp only [Act.put, List.setIfInBounds_toArray, List.set_cons_zero, List.set_cons_succ]
  refine wpAnyH_ready (rs := [5]) (by kernel_rfl) (by simp) (AllReadyH.cons rfl (fun K hK => ?_) AllReadyH.nil)
  go_simp
  go_at_call 18
  refine (kindWord_any _ d.kind).mono ?_
  rintro e wk1 ⟨rfl, hk8⟩
  have HKK2 := Hid.mk' (HKK1.out.trans hk8)
  refine hK.out _ _ (⟨hk8.cell hS.1 id, hk8.cell hS.2.1 id, hk8.cell hS.2.2.1 id, hk8.cell hS.2.2.2.1 id, hk8.cell hS.2.2.2.2.1 id, hk8.cell hS.2.2.2.2.2.1 id, hk8.cell hS.2.2.2.2.2.2 id⟩) (fun hS => ?_)
  clear hK hk8
  try simp only [Act.put, List.setIfInBounds_toArray, List.set_cons_zero, List.set_cons_succ]
  refine wpAnyH_ready (rs := [8]) (by kernel_rfl) (by simp) (AllReadyH.cons rfl (fun K hK => ?_) AllReadyH.nil)
  go_simp
  go_at_call 10
  refine (number_any _ (HT.out.keep (HK0.out.trans HKK2.out)) d.links HI.out.links).mono ?_
  rintro e wk2 ⟨rfl, hk8⟩
  have HKK3 := Hid.mk' (HKK2.out.trans hk8)
  refine hK.out _ _ (⟨hk8.cell hS.1 id, hk8.cell hS.2.1 id, hk8.cell hS.2.2.1 id, hk8.cell hS.2.2.2.1 id, hk8.cell hS.2.2.2.2.1 id, hk8.cell hS.2.2.2.2.2.1 id, hk8.cell hS.2.2.2.2.2.2 id⟩) (fun hS => ?_)
  clear hK hk8
  try simp only [Act.put, List.setIfInBounds_toArray, List.set_cons_zero, List.set_cons_succ]
  refine wpAnyH_ready (rs := [11]) (by kernel_rfl) (by simp) (AllReadyH.cons rfl (fun K hK => ?_) AllReadyH.nil)
  go_simp
  go_at_call 10
  refine (number_any _ (HT.out.keep (HK0.out.trans HKK3.out)) d.size HI.out.size).mono ?_
  rintro e wk3 ⟨rfl, hk8⟩
  have HKK4 := Hid.mk' (HKK3.out.trans hk8)
  refine hK.out _ _ (⟨hk8.cell hS.1 id, hk8.cell hS.2.1 id, hk8.cell hS.2.2.1 id, hk8.cell hS.2.2.2.1 id, hk8.cell hS.2.2.2.2.1 id, hk8.cell hS.2.2.2.2.2.1 id, hk8.cell hS.2.2.2.2.2.2 id⟩) (fun hS => ?_)
  clear hK hk8
  try simp only [Act.put, List.setIfInBounds_toArray, List.set_cons_zero, List.set_cons_succ]
  refine wpAnyH_ready (rs := [14]) (by kernel_rfl) (by simp) (AllReadyH.cons rfl (fun K hK => ?_) AllReadyH.nil)
  go_simp
  go_at_call 10
  refine (number_any _ (HT.out.keep (HK0.out.trans HKK4.out)) d.head HI.out.head).mono ?_
  rintro e wk4 ⟨rfl, hk8⟩
  have HKK5 := Hid.mk' (HKK4.out.trans hk8)
  refine hK.out _ _ (⟨hk8.cell hS.1 id, hk8.cell hS.2.1 id, hk8.cell hS.2.2.1 id, hk8.cell hS.2.2.2.1 id, hk8.cell hS.2.2.2.2.1 id, hk8.cell hS.2.2.2.2.2.1 id, hk8.cell hS.2.2.2.2.2.2 id⟩) (fun hS => ?_)
  clear hK hk8
  try simp only [Act.put, List.setIfInBounds_toArray, List.set_cons_zero, List.set_cons_succ]
  refine wpAnyH_ready (rs := [17]) (by kernel_rfl) (by simp) (AllReadyH.cons rfl (fun K hK => ?_) AllReadyH.nil)
  go_simp
  go_at_call 10
  refine (number_any _ (HT.out.keep (HK0.out.trans HKK5.out)) d.tail HI.out.tail).mono ?_
  rintro e wk5 ⟨rfl, hk8⟩
  have HKK6 := Hid.mk' (HKK5.out.trans hk8)
  refine hK.out _ _ (⟨hk8.cell hS.1 id, hk8.cell hS.2.1 id, hk8.cell hS.2.2.1 id, hk8.cell hS.2.2.2.1 id, hk8.cell hS.2.2.2.2.1 id, hk8.cell hS.2.2.2.2.2.1 id, hk8.cell hS.2.2.2.2.2.2 id⟩) (fun hS => ?_)
  clear hK hk8
  try simp only [Act.put, List.setIfInBounds_toArray, List.set_cons_zero, List.set_cons_succ]
  refine wpAnyH_ready (rs := [20]) (by kernel_rfl) (by simp) (AllReadyH.cons rfl (fun K hK => ?_) AllReadyH.nil)
  go_simp
  go_at_call 10
  refine (number_any _ (HT.out.keep (HK0.out.trans HKK6.out)) d.ents HI.out.ents).mono ?_
  rintro e wk6 ⟨rfl, hk8⟩
  have HKK7 := Hid.mk' (HKK6.out.trans hk8)
  refine hK.out _ _ (⟨hk8.cell hS.1 id, hk8.cell hS.2.1 id, hk8.cell hS.2.2.1 id, hk8.cell hS.2.2.2.1 id, hk8.cell hS.2.2.2.2.1 id, hk8.cell hS.2.2.2.2.2.1 id, hk8.cell hS.2.2.2.2.2.2 id⟩) (fun hS => ?_)
  clear hK hk8
  try simp only [Act.put, List.setIfInBounds_toArray, List.set_cons_zero, List.set_cons_succ]
  refine wpAnyH_ready (rs := [21]) (by kernel_rfl) (by simp) (AllReadyH.cons rfl (fun K hK => ?_) AllReadyH.nil)
  rw [if_pos (by rfl)]
  refine wp_bs12 _ _ _ _ _ _ _ _ _ _ _ _ rfl ((⟨#[105, 110, 111, 100, 101]⟩ : ByteArray)) ((iB d.ino)) ((kB d.kind)) ((iB d.links)) ((⟨#[115, 105, 122, 101]⟩ : ByteArray)) ((iB d.size)) ((⟨#[104, 101, 97, 100]⟩ : ByteArray)) ((iB d.head)) ((⟨#[116, 97, 105, 108]⟩ : ByteArray)) ((iB d.tail)) ((⟨#[101, 110, 116, 114, 105, 101, 115]⟩ : ByteArray)) ((iB d.ents)) (by rfl) (by rfl) (by rfl) (by rfl) (by rfl) (by rfl) (by rfl) (by rfl) (by rfl) (by rfl) (by rfl) (by rfl) ?_
  have HSB := Hid.mk' (sr_new wk6 [(⟨#[105, 110, 111, 100, 101]⟩ : ByteArray), (iB d.ino), (kB d.kind), (iB d.links), (⟨#[115, 105, 122, 101]⟩ : ByteArray), (iB d.size), (⟨#[104, 101, 97, 100]⟩ : ByteArray), (iB d.head), (⟨#[116, 97, 105, 108]⟩ : ByteArray), (iB d.tail), (⟨#[101, 110, 116, 114, 105, 101, 115]⟩ : ByteArray), (iB d.ents)])
  have ka := (Keeps.refl (fun _ => False) wk6).alloc (.cells (strs [(⟨#[105, 110, 111, 100, 101]⟩ : ByteArray), (iB d.ino), (kB d.kind), (iB d.links), (⟨#[115, 105, 122, 101]⟩ : ByteArray), (iB d.size), (⟨#[104, 101, 97, 100]⟩ : ByteArray), (iB d.head), (⟨#[116, 97, 105, 108]⟩ : ByteArray), (iB d.tail), (⟨#[101, 110, 116, 114, 105, 101, 115]⟩ : ByteArray), (iB d.ents)]).toArray 9)
  have HKA := Hid.mk' ka
  refine hK.out _ _ (⟨ka.cell hS.1 id, ka.cell hS.2.1 id, ka.cell hS.2.2.1 id, ka.cell hS.2.2.2.1 id, ka.cell hS.2.2.2.2.1 id, ka.cell hS.2.2.2.2.2.1 id, ka.cell hS.2.2.2.2.2.2 id⟩) (fun hS => ?_)
  clear hK ka
  try simp only [Act.put, List.setIfInBounds_toArray]
  refine takeH 22 (some 3) (.slice (some ⟨wk6.heap.size, 0, none⟩) 12 12) rfl rfl (by kernel_rfl) (by kernel_rfl) (by kernel_rfl) (fun _ _ _ h => h) (Or.inl ⟨by rfl, fun wx _ => by go_simp⟩) hS ?_
  try simp only [Act.put]
  refine wpAnyH_done (by kernel_rfl) ?_ _
  clear hS
  have HS1 : Hid (SR W0 (wk6.alloc (.cells (strs (nw1 d)).toArray 9)) (.slice (some ⟨wk6.heap.size, 0, none⟩) 12 12) (nw1 d)) := HSB.out.base HKK7.out
  clear c0 c1 c2 c3 c6 c7 c9 HSB HKA HKK0 HKK1 HKK2 HKK3 HKK4 HKK5 HKK6 HKK7
  have HNL : Hid ((nw1 d).length ≤ 12) := Nat.le_refl 12
  obtain ⟨W1, hW1⟩ : ∃ W1, wk6.alloc (.cells (strs (nw1 d)).toArray 9) = W1 := ⟨_, rfl⟩
  rw [hW1] at HS1
  unfold nw1 at hW1
  rw [hW1]
  obtain ⟨G1, hG1⟩ : ∃ G1, wk6.heap.size = G1 := ⟨_, rfl⟩
  rw [hG1] at HS1 ⊢
  clear hW1 hG1
  have c8 : W1.cell? ⟨w.heap.size, 8, none⟩ = some (.slice pl d.lg.length cl) := HC.out W1 HS1.out.2 8 _ rfl
  have hwt := hi.wt
  have h20 := pageWords_any W1 (HT.out.keep (HK0.out.trans HS1.out.2)) (.slice pl d.lg.length cl) d.lg (HR.out.keep (HK0.out.trans HS1.out.2)).lg (by omega) hi.lg
  have HW0 : Hid (nodW d = nw1 d ++ tit ⟨#[108, 111, 103]⟩ (d.lg.map iB) ++ kw d) := rfl
  have HLG : Hid ((d.lg.map iB).length ≤ 2000000) := by show _ ≤ _; simp; omega
  generalize nw1 d = NW at HS1 HNL HW0
  generalize d.lg.map iB = LG at h20 HW0 HLG
  have HTL := Hid.mk' (tit_len ⟨#[108, 111, 103]⟩ LG)
  have S0 := Hid.mk' True.intro
  go_upto_region 3 with (first
    | (clear S0; go_at_call 20; refine h20.mono ?_; clear h20; rintro e w2 ⟨v2, rfl, h2⟩; obtain ⟨p2, d2, hv2, _, _⟩ := id (Row.of_own h2.out.1); subst hv2; have H2 := Hid.mk' h2.out; clear h2; have S1 := Hid.mk' True.intro)
    | (clear S1; go_at_call 19; refine (titled_any w2 ⟨#[108, 111, 103]⟩ (.slice p2 LG.length d2) LG (Row.of_own H2.out.1) (by have h : LG.length ≤ 2000000 := HLG.out; omega)).mono ?_; rintro e w3 ⟨v3, rfl, h3⟩; obtain ⟨p3, d3, hv3, _, _⟩ := id (Row.of_own h3.out.1); subst hv3; have H3 := Hid.mk' h3.out; clear h3; have S2 := Hid.mk' True.intro)
    | (clear S2; at_builtin; go_must (refine wpList_appl rfl _ _ rfl W0 w3 _ NW (by rfl) (HS1.out.keep (H2.out.2.trans H3.out.2)) _ (tit ⟨#[108, 111, 103]⟩ LG) (by rfl) (Row.of_own H3.out.1) (by have h1 := HNL.out; have h2 := HTL.out; have h3 : LG.length ≤ 2000000 := HLG.out; have h1 : NW.length ≤ 12 := HNL.out; omega) ?_); intro v4 W4 hO4 ; have HO4 := Hid.mk' hO4; clear hO4; have S3 := Hid.mk' True.intro))
  clear S3 c8
  have HN4 : Hid ((NW ++ tit ⟨#[108, 111, 103]⟩ LG).length ≤ 3000000) := by
    show _ ≤ _
    have h1 : NW.length ≤ 12 := HNL.out
    have h2 : LG.length ≤ 2000000 := HLG.out
    have h3 := HTL.out
    rw [List.length_append]; omega
  have e1 : W4.cell? ⟨w.heap.size, 1, none⟩ = some (.int .i64 d.kind) := HC.out W4 HO4.out.2 1 _ rfl
  have hdl := dwt_len d.nm
  by_cases hk1 : d.kind = 1
  · rw [hk1] at e1
    have e4 : W4.cell? ⟨w.heap.size, 4, none⟩ = some (.slice pm d.mp.length cm) := HC.out W4 HO4.out.2 4 _ rfl
    have h21 := runWords_any W4 (HT.out.keep (HK0.out.trans HO4.out.2)) (.slice pm d.mp.length cm) d.mp (HR.out.keep (HK0.out.trans HO4.out.2)).mp (by omega) hi.mp
    have HKW : Hid (kw d = tit ⟨#[109, 97, 112]⟩ (d.mp.flatMap rwB)) := by show _ = _; unfold kw; rw [if_pos hk1]
    have HLG2 : Hid ((d.mp.flatMap rwB).length ≤ 5000000) := by show _ ≤ _; rw [flatB_len rwB 1 (fun _ => rfl)]; omega
    generalize d.mp.flatMap rwB = LG2 at h21 HKW HLG2
    have HTL2 := Hid.mk' (tit_len ⟨#[109, 97, 112]⟩ LG2)
    generalize NW ++ tit ⟨#[108, 111, 103]⟩ LG = N4 at HO4 HW0 HN4
    have S0 := Hid.mk' True.intro
    go_wp2_with (first
      | (clear S0; go_at_call 21; refine h21.mono ?_; clear h21; rintro e w5 ⟨v5, rfl, h5⟩; obtain ⟨p5, d5, hv5, _, _⟩ := id (Row.of_own h5.out.1); subst hv5; have H5 := Hid.mk' h5.out; clear h5; have S1 := Hid.mk' True.intro)
      | (clear S1; go_at_call 19; refine (titled_any w5 ⟨#[109, 97, 112]⟩ (.slice p5 LG2.length d5) LG2 (Row.of_own H5.out.1) (by have h : LG2.length ≤ 5000000 := HLG2.out; omega)).mono ?_; rintro e w6 ⟨v6, rfl, h6⟩; obtain ⟨p6, d6, hv6, _, _⟩ := id (Row.of_own h6.out.1); subst hv6; have H6 := Hid.mk' h6.out; clear h6; have S2 := Hid.mk' True.intro)
      | (clear S2; at_builtin; go_must (refine wpList_appl rfl _ _ rfl W0 w6 v4 N4 (by rfl) (HO4.out.keep (H5.out.2.trans H6.out.2)) _ (tit ⟨#[109, 97, 112]⟩ LG2) (by rfl) (Row.of_own H6.out.1) (by have h2 := HTL2.out; have h3 : LG2.length ≤ 5000000 := HLG2.out; have h1 : N4.length ≤ 3000000 := HN4.out; omega) ?_); intro v7 W7 hO7 ; have HO7 := Hid.mk' hO7; clear hO7; have S3 := Hid.mk' True.intro))
    try rw [Exit.noGoto_ret]
    refine bodyPost_ret (v := v7) (by simp [results, Tryd.results11, go_sem]) rfl ?_
    exact ⟨_, rfl, by rw [HW0.out, HKW.out]; exact HO7.out.base HK0.out⟩

  · by_cases hk2 : d.kind = 2
    · rw [hk2] at e1
      have e4 : W4.cell? ⟨w.heap.size, 5, none⟩ = some (.slice pn d.nm.length cn) := HC.out W4 HO4.out.2 5 _ rfl
      have h21 := dentWords_any W4 (HT.out.keep (HK0.out.trans HO4.out.2)) (.slice pn d.nm.length cn) d.nm (HR.out.keep (HK0.out.trans HO4.out.2)).nm (by omega) (fun x hx => ⟨by have h := dwt_mem hx; omega, hi.nm x hx⟩)
      have HKW : Hid (kw d = tit ⟨#[110, 97, 109, 101, 115]⟩ (d.nm.flatMap dwB)) := by show _ = _; unfold kw; rw [if_neg hk1, if_pos hk2]
      have HLG2 : Hid ((d.nm.flatMap dwB).length ≤ 5000000) := by show _ ≤ _; rw [flatB_len dwB 2 (fun _ => rfl)]; omega
      generalize d.nm.flatMap dwB = LG2 at h21 HKW HLG2
      have HTL2 := Hid.mk' (tit_len ⟨#[110, 97, 109, 101, 115]⟩ LG2)
      generalize NW ++ tit ⟨#[108, 111, 103]⟩ LG = N4 at HO4 HW0 HN4
      have S0 := Hid.mk' True.intro
      go_wp2_with (first
        | (clear S0; go_at_call 22; refine h21.mono ?_; clear h21; rintro e w5 ⟨v5, rfl, h5⟩; obtain ⟨p5, d5, hv5, _, _⟩ := id (Row.of_own h5.out.1); subst hv5; have H5 := Hid.mk' h5.out; clear h5; have S1 := Hid.mk' True.intro)
        | (clear S1; go_at_call 19; refine (titled_any w5 ⟨#[110, 97, 109, 101, 115]⟩ (.slice p5 LG2.length d5) LG2 (Row.of_own H5.out.1) (by have h : LG2.length ≤ 5000000 := HLG2.out; omega)).mono ?_; rintro e w6 ⟨v6, rfl, h6⟩; obtain ⟨p6, d6, hv6, _, _⟩ := id (Row.of_own h6.out.1); subst hv6; have H6 := Hid.mk' h6.out; clear h6; have S2 := Hid.mk' True.intro)
        | (clear S2; at_builtin; go_must (refine wpList_appl rfl _ _ rfl W0 w6 v4 N4 (by rfl) (HO4.out.keep (H5.out.2.trans H6.out.2)) _ (tit ⟨#[110, 97, 109, 101, 115]⟩ LG2) (by rfl) (Row.of_own H6.out.1) (by have h2 := HTL2.out; have h3 : LG2.length ≤ 5000000 := HLG2.out; have h1 : N4.length ≤ 3000000 := HN4.out; omega) ?_); intro v7 W7 hO7 ; have HO7 := Hid.mk' hO7; clear hO7; have S3 := Hid.mk' True.intro))
      try rw [Exit.noGoto_ret]
      refine bodyPost_ret (v := v7) (by simp [results, Tryd.results11, go_sem]) rfl ?_
      exact ⟨_, rfl, by rw [HW0.out, HKW.out]; exact HO7.out.base HK0.out⟩

    · have hk1' : ((d.kind : Int) == 1) = false := beq_eq_false_iff_ne.2 hk1
      have hk2' : ((d.kind : Int) == 2) = false := beq_eq_false_iff_ne.2 hk2
      have HKW : Hid (kw d = []) := by show _ = _; unfold kw; rw [if_neg hk1, if_neg hk2]
      go_wp2
      try rw [Exit.noGoto_ret]
      refine bodyPost_ret (v := v4) (by simp [results, Tryd.results11, go_sem]) rfl ?_
      exact ⟨_, rfl, by rw [HW0.out, HKW.out, List.append_nil]; exact HO4.out.base HK0.out⟩
end Go.Proofs.YtpgabmfpffaajaaDoor
