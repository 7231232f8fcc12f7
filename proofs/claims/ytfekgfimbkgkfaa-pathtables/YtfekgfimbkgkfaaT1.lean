import Derived.Test.YtfekgfimbkgkfaaF2
import Derived.Deep.CutRange
namespace Go.Proofs.Ytfekgfimbkgkfaa
open Go.RowKit Go.Maps

theorem tab_other (F : Dr) (m : Ed) (d : Int) (s : ByteArray) (h : ¬ (d = m.1 ∧ s = m.2.1)) : put1 F m d s = F d s := by
  unfold put1
  split
  · show (if d = m.1 ∧ s = m.2.1 then _ else F d s) = F d s
    rw [if_neg h]
  · rfl
theorem tab_own (F : Dr) (m : Ed) (h : 1 ≤ m.2.2.1) : put1 F m m.1 m.2.1 = (m.2.2.1, m.2.2.2) := by
  unfold put1
  rw [if_pos h]
  show (if m.1 = m.1 ∧ m.2.1 = m.2.1 then (m.2.2.1, m.2.2.2) else _) = _
  rw [if_pos ⟨rfl, rfl⟩]
theorem tab_low (F : Dr) (m : Ed) (h : ¬ 1 ≤ m.2.2.1) : put1 F m = F := by unfold put1; rw [if_neg h]
theorem tab_pos (l : List Ed) : ∀ (F : Dr) (e : Ed), ((1 ≤ (F e.1 e.2.1).1) ∨ (e ∈ l ∧ 1 ≤ e.2.2.1)) → 1 ≤ (l.foldl put1 F e.1 e.2.1).1 := by
  induction l with
  | nil =>
    intro F e h
    rcases h with h | ⟨h, _⟩
    · exact h
    · cases h
  | cons a l ih =>
    intro F e h
    rw [List.foldl_cons]
    refine ih _ e ?_
    by_cases hc : e.1 = a.1 ∧ e.2.1 = a.2.1
    · by_cases ha : 1 ≤ a.2.2.1
      · left
        rw [hc.1, hc.2, tab_own F a ha]; exact ha
      · rw [tab_low F a ha]
        rcases h with h | ⟨h, h1⟩
        · exact Or.inl h
        · rcases List.mem_cons.1 h with rfl | h
          · exact absurd h1 ha
          · exact Or.inr ⟨h, h1⟩
    · rw [tab_other F a _ _ hc]
      rcases h with h | ⟨h, h1⟩
      · exact Or.inl h
      · rcases List.mem_cons.1 h with rfl | h
        · exact absurd ⟨rfl, rfl⟩ hc
        · exact Or.inr ⟨h, h1⟩

theorem ebox {W : World} {b : Nat} {a1 a2 a3 a4 : Value} (h : W.heap[b]? = some (.cells #[a1, a2, a3, a4] 45 (0, 0))) : W.cell? ⟨b, 0, none⟩ = some a1 ∧ W.cell? ⟨b, 1, none⟩ = some a2 ∧ W.cell? ⟨b, 2, none⟩ = some a3 ∧ W.cell? ⟨b, 3, none⟩ = some a4 := by
  simp [World.cell?, h]
/-- The edges, one more in a box, and two tables. -/
structure TB (w : World) (bp : Nat) (md : Int) (mn : ByteArray) (mi : Int) (ms : Bool) (v0 : Value) (l : List Ed) (x bm y cm : Nat) (W : World) : Prop where
  kp : Keeps (fun _ => False) w W
  bx : W.heap[bp]? = some (.cells #[.int .i64 md, .string mn, .int .i64 mi, .bool ms] 45 (0, 0))
  ed : Row W v0 l.length (ecells l)
  t : TabAt W x bm l.length (tabF l)
  u : TabAt W y cm (l.length + 1) (put1 (tabF l) (md, mn, mi, ms))
theorem TB.keep {w : World} {bp : Nat} {md : Int} {mn : ByteArray} {mi : Int} {ms : Bool} {v0 : Value} {l : List Ed} {x bm y cm : Nat} {W W' : World} (h : TB w bp md mn mi ms v0 l x bm y cm W) (k : Keeps (fun _ => False) W W') : TB w bp md mn mi ms v0 l x bm y cm W' := ⟨h.kp.trans k, k.at h.bx id, h.ed.keep k, h.t.grow k, h.u.grow k⟩

set_option maxHeartbeats 8000000 in
set_option maxRecDepth 100000 in
theorem tables_walk (w : World) (v0 : Value) (l : List Ed) (h0 : Row w v0 l.length (ecells l)) (hl : l.length ≤ 3518437208780) (ho : ∀ e ∈ l, EdOk e) (m : Ed) (hm : EdOk m) :
    Calls Try.prog 7 #[v0, .agg (ecell m).toArray] w fun e w' => e = .returned (.bool true) ∧ Keeps (fun _ => False) w w' := by
  obtain ⟨j0, hj, hy0, hy1, hy2⟩ := info_parts info40
  obtain ⟨md, mn, mi, ms⟩ := m
  show Calls Try.prog 7 #[v0, .agg #[.int .i64 md, .string mn, .int .i64 mi, .bool ms]] w _
  have hA : Keeps (fun _ => False) w (w.alloc (.cells #[.int .i64 md, .string mn, .int .i64 mi, .bool ms] 45)) := (Keeps.refl _ w).alloc _
  have hB := heap_last w (.cells #[.int .i64 md, .string mn, .int .i64 mi, .bool ms] 45)
  have h13 := newTable_any (w.alloc (.cells #[.int .i64 md, .string mn, .int .i64 mi, .bool ms] 45)) v0 l (h0.keep hA) (by omega) ho
  have HK : Hid ((∀ e ∈ l, EdOk e) ∧ EdOk (md, mn, mi, ms)) := ⟨ho, hm⟩
  have HA : Hid (Keeps (fun _ => False) w (w.alloc (.cells #[.int .i64 md, .string mn, .int .i64 mi, .bool ms] 45)) ∧ (w.alloc (.cells #[.int .i64 md, .string mn, .int .i64 mi, .bool ms] 45)).heap[w.heap.size]? = some (.cells #[.int .i64 md, .string mn, .int .i64 mi, .bool ms] 45 (0, 0)) ∧ Row w v0 l.length (ecells l) ∧ (w.alloc (.cells #[.int .i64 md, .string mn, .int .i64 mi, .bool ms] 45)).heap.size = w.heap.size + 1) := ⟨hA, hB, h0, World.size_alloc ..⟩
  obtain ⟨ea, ecp, rfl, hecap, _⟩ := id h0
  clear hA hB h0 ho hm
  go_enter Try.func7, Try.ntmps7
  go_wp2_with (first
    | (go_at_call 13; refine h13.mono ?_; clear h13; rintro e w1 ⟨rfl, H1x⟩
       have K1 : Hid (Keeps (fun _ => False) w w1) := HA.out.1.trans H1x.out.2
       have B1 := Hid.mk' (H1x.out.2.at HA.out.2.1 id)
       have T1 : Hid (TabAt w1 (w.heap.size + 1 + 1) (w.heap.size + 1) l.length (tabF l)) := by have := H1x.out.1; rw [HA.out.2.2.2] at this; exact this
       clear H1x))
  obtain ⟨a0, a1, a2, a3⟩ := ebox B1.out
  have h18 : ∀ W', Keeps (fun _ => False) w1 W' → Calls Try.prog 18 #[.slice ea l.length ecp] W' fun e w' => ∃ v' : Value, e = .returned v' ∧ Hid (w'.ownsRow W'.heap.size 45 4 v' l.length (ecells l) ∧ Keeps (fun _ => False) w1 w' ∧ Keeps (fun _ => False) W' w') ∧ (w'.cell? ⟨w.heap.size, 0, none⟩ = some (.int .i64 md) ∧ w'.cell? ⟨w.heap.size, 1, none⟩ = some (.string mn) ∧ w'.cell? ⟨w.heap.size, 2, none⟩ = some (.int .i64 mi) ∧ w'.cell? ⟨w.heap.size, 3, none⟩ = some (.bool ms)) := fun W' hk => by
    refine (copyEdges_any W' _ l (HA.out.2.2.1.keep (K1.out.trans hk)) hl).mono ?_
    rintro e w' ⟨v', rfl, H⟩
    exact ⟨v', rfl, ⟨H.out.1, hk.trans H.out.2, H.out.2⟩, ebox ((hk.trans H.out.2).at B1.out id)⟩
  have HAP : Hid (∀ (W' : World) (base : Nat) (v : Value) (g : Nat), base ≤ W'.heap.size → W'.ownsRow base 45 4 v l.length (ecells l) → W'.heap[g]? = some (.cells #[.int .i64 md, .string mn, .int .i64 mi, .bool ms] 45 (0, 0)) → Keeps (fun _ => False) w1 W' → w1.heap.size ≤ base →
      ∃ v' w', (Builtin.append_ #[32, 32] 32 #[v, .slice (some ⟨g, 0, none⟩) 1 1]).run Try.prog W' = .ok v' w' ∧ Row w' v' (l ++ [(md, mn, mi, ms)]).length (ecells (l ++ [(md, mn, mi, ms)])) ∧ Keeps (fun _ => False) w1 w') := by
    intro W' base v g hb hown hg hk hb1
    obtain ⟨v', w', hr, h2, h3, _, _⟩ := run_append_own_at (P := Try.prog) W' base 32 32 45 j0 (.agg #[.int .i64 0, .string ⟨#[]⟩, .int .i64 0, .bool false]) 4 40 Try.underlying32 hj hy0 hy1 hy2 rfl (by decide) v l.length (ecells l) hown ⟨g, 0, none⟩ 1 1 (ecells [(md, mn, mi, ms)]) rfl (World.news_of_block hg) (ecells_one _) (by unfold maxLen; omega) (by omega) hb
    refine ⟨v', w', hr, ?_, hk.step h3 (fun k hk => Or.inr (Nat.le_trans hb1 (hown.lt k hk).1))⟩
    have e : ecells (l ++ [(md, mn, mi, ms)]) = ecells l ++ ecells [(md, mn, mi, ms)] := by simp [ecells]
    rw [e, List.length_append]
    exact Row.of_own h2
  have h13b : ∀ (W' : World) (v : Value), Hid (Row W' v (l ++ [(md, mn, mi, ms)]).length (ecells (l ++ [(md, mn, mi, ms)])) ∧ Keeps (fun _ => False) w1 W') → Calls Try.prog 13 #[v] W' fun e w' => e = .returned (.pointer (some ⟨W'.heap.size + 1, 0, none⟩)) ∧ Hid (TB w w.heap.size md mn mi ms (.slice ea l.length ecp) l (w.heap.size + 1 + 1) (w.heap.size + 1) (W'.heap.size + 1) W'.heap.size w') ∧ (w'.cell? ⟨w.heap.size, 0, none⟩ = some (.int .i64 md) ∧ w'.cell? ⟨w.heap.size, 1, none⟩ = some (.string mn) ∧ w'.cell? ⟨w.heap.size, 2, none⟩ = some (.int .i64 mi) ∧ w'.cell? ⟨w.heap.size, 3, none⟩ = some (.bool ms)) := fun W' v H => by
    refine (newTable_any W' v _ H.out.1 (by rw [List.length_append]; simp; omega) (fun e he => by
      rcases List.mem_append.1 he with h | h
      · exact HK.out.1 e h
      · simp only [List.mem_cons, List.not_mem_nil, or_false] at h; subst h; exact HK.out.2)).mono ?_
    rintro e w' ⟨rfl, H2⟩
    have hk := H.out.2.trans H2.out.2
    have ht := H2.out.1
    rw [tabF_snoc, List.length_append] at ht
    exact ⟨rfl, ⟨K1.out.trans hk, hk.at B1.out id, HA.out.2.2.1.keep (K1.out.trans hk), T1.out.grow hk, ht⟩, ebox (hk.at B1.out id)⟩
  go_cut [6] from 18 to 23 (fun v6 wc => ∃ y cm : Nat, v6 = .pointer (some ⟨y, 0, none⟩) ∧ Hid (TB w w.heap.size md mn mi ms (.slice ea l.length ecp) l (w.heap.size + 1 + 1) (w.heap.size + 1) y cm wc))
  case first =>
    refine wp_region_held_drew (S := fun wx => (wx.cell? ⟨w.heap.size, 0, none⟩ = some (.int .i64 md) ∧ wx.cell? ⟨w.heap.size, 1, none⟩ = some (.string mn) ∧ wx.cell? ⟨w.heap.size, 2, none⟩ = some (.int .i64 mi) ∧ wx.cell? ⟨w.heap.size, 3, none⟩ = some (.bool ms))) (by kernel_rfl) ⟨a0, a1, a2, a3⟩ (fun hS => ?_)
    refine takeH 0 (some 18) (.slice ea l.length ecp) rfl rfl (by kernel_rfl) (by kernel_rfl) (by kernel_rfl) (fun _ _ _ h => h) (Or.inl ⟨by rfl, fun wx ⟨s0, s1, s2, s3⟩ => by go_simp⟩) hS ?_
    simp only [Act.put, List.setIfInBounds_toArray, List.set_cons_zero, List.set_cons_succ]
    refine takeH 2 (some 20) (.agg #[.int .i64 md, .string mn, .int .i64 mi, .bool ms]) rfl rfl (by kernel_rfl) (by kernel_rfl) (by kernel_rfl) (fun _ _ _ h => h) (Or.inl ⟨by rfl, fun wx ⟨s0, s1, s2, s3⟩ => by go_simp⟩) hS ?_
    simp only [Act.put, List.setIfInBounds_toArray, List.set_cons_zero, List.set_cons_succ]
    refine wpAnyH_ready (rs := [1, 3]) (by kernel_rfl) (by simp) (AllReadyH.cons rfl (fun K hK => ?_) (AllReadyH.cons rfl (fun K hK => ?_) AllReadyH.nil))
    · go_simp
      go_at_call 18
      refine (h18 _ (Keeps.drewN _ w1 1)).mono ?_
      rintro e w4 ⟨v4, rfl, H4, y0, y1, y2, y3⟩
      refine hK.out _ _ ⟨y0, y1, y2, y3⟩ (fun hS => ?_)
      clear hK
      try simp only [Act.put, List.setIfInBounds_toArray, List.set_cons_zero, List.set_cons_succ]
      refine wpAnyH_ready (rs := [3]) (by kernel_rfl) (by simp) (AllReadyH.cons rfl (fun K hK => ?_) AllReadyH.nil)
      go_simp
      have hA4 := H4.out.2.1.alloc (.cells #[.int .i64 md, .string mn, .int .i64 mi, .bool ms] 45)
      refine hK.out _ _ (ebox (hA4.at B1.out id)) (fun hS => ?_)
      clear hK
      try simp only [Act.put, List.setIfInBounds_toArray, List.set_cons_zero, List.set_cons_succ]
      obtain ⟨v5, w5, hr5, R5, K5⟩ := HAP.out (w4.alloc (.cells #[.int .i64 md, .string mn, .int .i64 mi, .bool ms] 45)) _ v4 w4.heap.size (by rw [World.size_alloc]; exact Nat.le_succ_of_le H4.out.2.2.size) (H4.out.1.alloc _) (heap_last _ _) hA4 (Nat.le_refl _)
      refine wpAnyH_ready (rs := [4]) (by kernel_rfl) (by simp) (AllReadyH.cons rfl (fun K hK => ?_) AllReadyH.nil)
      refine step_append rfl _ _ 32 rfl _ _ rfl rfl v5 w5 hr5 ?_
      refine hK.out _ _ (ebox (K5.at B1.out id)) (fun hS => ?_)
      clear hK hr5
      try simp only [Act.put, List.setIfInBounds_toArray]
      refine wpAnyH_ready (rs := [5]) (by kernel_rfl) (by simp) (AllReadyH.cons rfl (fun K hK => ?_) AllReadyH.nil)
      go_simp
      go_at_call 13
      refine (h13b _ _ ⟨R5, K5⟩).mono ?_
      rintro e w6 ⟨rfl, H6, z0, z1, z2, z3⟩
      refine hK.out _ _ ⟨z0, z1, z2, z3⟩ (fun hS => ?_)
      clear hK
      try simp only [Act.put, List.setIfInBounds_toArray, List.set_cons_zero, List.set_cons_succ]
      refine takeH 6 (some 6) (.pointer (some ⟨w5.heap.size + 1, 0, none⟩)) rfl rfl (by kernel_rfl) (by kernel_rfl) (by kernel_rfl) (fun _ _ _ h => h) (Or.inl ⟨by rfl, fun wx ⟨s0, s1, s2, s3⟩ => by go_simp⟩) hS ?_
      refine wpAnyH_done (by kernel_rfl) ?_ _
      go_wp2
      go_meet
      case rel => exact ⟨_, _, rfl, H6⟩
    · go_simp
      have hA3 : Keeps (fun _ => False) w1 ((w1.drew).alloc (.cells #[.int .i64 md, .string mn, .int .i64 mi, .bool ms] 45)) := (Keeps.drewN _ w1 1).alloc _
      refine hK.out _ _ (ebox (hA3.at B1.out id)) (fun hS => ?_)
      clear hK
      try simp only [Act.put, List.setIfInBounds_toArray, List.set_cons_zero, List.set_cons_succ]
      refine wpAnyH_ready (rs := [1]) (by kernel_rfl) (by simp) (AllReadyH.cons rfl (fun K hK => ?_) AllReadyH.nil)
      go_simp
      go_at_call 18
      refine (h18 _ hA3).mono ?_
      rintro e w4 ⟨v4, rfl, H4, y0, y1, y2, y3⟩
      refine hK.out _ _ ⟨y0, y1, y2, y3⟩ (fun hS => ?_)
      clear hK
      try simp only [Act.put, List.setIfInBounds_toArray, List.set_cons_zero, List.set_cons_succ]
      obtain ⟨v5, w5, hr5, R5, K5⟩ := HAP.out w4 _ v4 w1.heap.size H4.out.2.2.size H4.out.1 (H4.out.2.2.at (heap_last w1.drew (.cells #[.int .i64 md, .string mn, .int .i64 mi, .bool ms] 45)) id) H4.out.2.1 (by rw [World.size_alloc]; exact Nat.le_succ _)
      refine wpAnyH_ready (rs := [4]) (by kernel_rfl) (by simp) (AllReadyH.cons rfl (fun K hK => ?_) AllReadyH.nil)
      refine step_append rfl _ _ 32 rfl _ _ rfl rfl v5 w5 hr5 ?_
      refine hK.out _ _ (ebox (K5.at B1.out id)) (fun hS => ?_)
      clear hK hr5
      try simp only [Act.put, List.setIfInBounds_toArray]
      refine wpAnyH_ready (rs := [5]) (by kernel_rfl) (by simp) (AllReadyH.cons rfl (fun K hK => ?_) AllReadyH.nil)
      go_simp
      go_at_call 13
      refine (h13b _ _ ⟨R5, K5⟩).mono ?_
      rintro e w6 ⟨rfl, H6, z0, z1, z2, z3⟩
      refine hK.out _ _ ⟨z0, z1, z2, z3⟩ (fun hS => ?_)
      clear hK
      try simp only [Act.put, List.setIfInBounds_toArray, List.set_cons_zero, List.set_cons_succ]
      refine takeH 6 (some 6) (.pointer (some ⟨w5.heap.size + 1, 0, none⟩)) rfl rfl (by kernel_rfl) (by kernel_rfl) (by kernel_rfl) (fun _ _ _ h => h) (Or.inl ⟨by rfl, fun wx ⟨s0, s1, s2, s3⟩ => by go_simp⟩) hS ?_
      refine wpAnyH_done (by kernel_rfl) ?_ _
      go_wp2
      go_meet
      case rel => exact ⟨_, _, rfl, H6⟩
  case rest =>
    obtain ⟨y, cm, rfl, HT⟩ := hcut
    clear h13b HAP h18 a0 a1 a2 a3 B1 T1 K1 HA hj hy0 hy1 hy2
    have hmd : (Lit.int .i64 md).wf = true := HK.out.2.1
    have hmn : mn.size ≤ maxLen := by have := HK.out.2.2.2; simp only at this; unfold maxLen; omega
    have HG : Hid (∀ d s, ¬ (d = md ∧ s = mn) → put1 (tabF l) (md, mn, mi, ms) d s = tabF l d s) := fun d s h => tab_other _ _ d s h
    have HP : Hid (∀ e ∈ l, 1 ≤ e.2.2.1 → 1 ≤ (tabF l e.1 e.2.1).1) := fun e he h => tab_pos l tab0 e (Or.inr ⟨he, h⟩)
    have h9 : Calls Try.prog 9 #[] wc fun e w' => e = .returned (.bool true) ∧ Hid (TB w w.heap.size md mn mi ms (.slice ea l.length ecp) l (w.heap.size + 1 + 1) (w.heap.size + 1) y cm w') := by
      refine (first_any wc).mono ?_
      rintro e w' ⟨rfl, hk⟩
      exact ⟨rfl, HT.out.keep hk⟩
    have h17u : ∀ (W : World) (d : Int) (s : ByteArray), Hid (TB w w.heap.size md mn mi ms (.slice ea l.length ecp) l (w.heap.size + 1 + 1) (w.heap.size + 1) y cm W) → (Lit.int .i64 d).wf = true → s.size ≤ maxLen → Calls Try.prog 17 #[.pointer (some ⟨y, 0, none⟩), .int .i64 d, .string s] W fun e w' => e = .returned (.tuple #[.int .i64 (put1 (tabF l) (md, mn, mi, ms) d s).1, .bool (put1 (tabF l) (md, mn, mi, ms) d s).2]) ∧ Hid (TB w w.heap.size md mn mi ms (.slice ea l.length ecp) l (w.heap.size + 1 + 1) (w.heap.size + 1) y cm w') := fun W d s H hd hs => by
      refine (look_any W y cm _ _ H.out.u d s hd hs).mono ?_
      rintro e w' ⟨rfl, hk⟩
      exact ⟨rfl, H.out.keep hk⟩
    have h17t : ∀ (W : World) (d : Int) (s : ByteArray), Hid (TB w w.heap.size md mn mi ms (.slice ea l.length ecp) l (w.heap.size + 1 + 1) (w.heap.size + 1) y cm W) → (Lit.int .i64 d).wf = true → s.size ≤ maxLen → Calls Try.prog 17 #[.pointer (some ⟨w.heap.size + 1 + 1, 0, none⟩), .int .i64 d, .string s] W fun e w' => e = .returned (.tuple #[.int .i64 (tabF l d s).1, .bool (tabF l d s).2]) ∧ Hid (TB w w.heap.size md mn mi ms (.slice ea l.length ecp) l (w.heap.size + 1 + 1) (w.heap.size + 1) y cm w') := fun W d s H hd hs => by
      refine (look_any W _ _ _ _ H.out.t d s hd hs).mono ?_
      rintro e w' ⟨rfl, hk⟩
      exact ⟨rfl, H.out.keep hk⟩
    by_cases hmi : 1 ≤ mi
    · have hown : put1 (tabF l) (md, mn, mi, ms) md mn = (mi, ms) := tab_own _ _ hmi
      go_wp2_with (first
        | (go_at_call 17; refine (h17t _ md mn H3 hmd hmn).mono ?_; rintro e w4 ⟨rfl, H4⟩; obtain ⟨c0, c1, c2, c3⟩ := ebox H4.out.bx)
        | (go_at_call 17; refine (h17u _ md mn H2 hmd hmn).mono ?_; rintro e w3 ⟨rfl, H3⟩; rw [hown]; obtain ⟨b0, b1, b2, b3⟩ := ebox H3.out.bx)
        | (go_at_call 9; refine h9.mono ?_; clear h9; rintro e w2 ⟨rfl, H2⟩; obtain ⟨a0, a1, a2, a3⟩ := ebox H2.out.bx))
      have H4c := Hid.mk' H4.out
      clear H2 H3 H4 a0 a1 a2 a3 b0 b1 b2 b3 c0 c1 c2 c3
      go_loopw [11] (fun i wr => ∃ k : Nat, k ≤ l.length ∧ i = .int .i64 k ∧ Hid (TB w w.heap.size md mn mi ms (.slice ea l.length ecp) l (w.heap.size + 1 + 1) (w.heap.size + 1) y cm wr)) (fun i _ => l.length - (intOf i).toNat)
      case atStart => exact ⟨0, Nat.zero_le _, rfl, H4c⟩
      case round =>
        obtain ⟨k, hk, rfl, HR⟩ := hrel
        clear H4c
        obtain ⟨a0, a1, a2, a3⟩ := ebox HR.out.bx
        by_cases h1 : k < l.length
        · obtain ⟨eb, eo, ecp', ee, _, e0, e1, e2, e3⟩ := edges4 HR.out.ed h1
          cases ee
          have HE : Hid (EdOk (l.getD k ez) ∧ (1 ≤ (l.getD k ez).2.2.1 → 1 ≤ (tabF l (l.getD k ez).1 (l.getD k ez).2.1).1)) := ⟨HK.out.1 _ (getD_mem ez h1), HP.out _ (getD_mem ez h1)⟩
          generalize l.getD k ez = ed at e0 e1 e2 e3 HE
          obtain ⟨d, sn, en, es⟩ := ed
          simp only at e0 e1 e2 e3
          have h1' : (k : Int) < (l.length : Int) := by omega
          have hk0 : (0 : Int) ≤ (k : Int) := by omega
          have hdw : (Lit.int .i64 d).wf = true := HE.out.1.1
          have hss : sn.size ≤ maxLen := by have := HE.out.1.2.2; simp only at this; unfold maxLen; omega
          by_cases hd : d = md
          · by_cases hs : sn = mn
            · have q1 : (d == md) = true := beq_iff_eq.2 hd
              have q2 : (sn.toList == mn.toList) = true := by rw [bytes_eq, decide_eq_true hs]
              have HX := Hid.mk' (And.intro hd hs)
              clear hd hs
              go_wp2
              go_quiet (fail)
              go_wp2
              go_roundw
              case rel => exact ⟨k + 1, by omega, by go_num, HR.out.keep (Keeps.drewN _ _ _)⟩
              case measure => simp [intOf]; omega
            · have q1 : (d == md) = true := beq_iff_eq.2 hd
              have q2 : (sn.toList == mn.toList) = false := by rw [bytes_eq, decide_eq_false hs]
              have hG := HG.out d sn (fun h => hs h.2)
              clear hd hs
              have HC : Hid (∀ W', Keeps (fun _ => False) wr W' → (W'.cell? ⟨eb, eo + k * 4, none⟩ = some (.int .i64 d) ∧ W'.cell? ⟨eb, eo + k * 4 + 1, none⟩ = some (.string sn) ∧ W'.cell? ⟨eb, eo + k * 4 + 2, none⟩ = some (.int .i64 en))) := fun W' hk => ⟨hk.cell e0 id, hk.cell e1 id, hk.cell e2 id⟩
              have h17a : ∀ m, Calls Try.prog 17 #[.pointer (some ⟨w.heap.size + 1 + 1, 0, none⟩), .int .i64 d, .string sn] (wr.drewN m) fun e w' => e = .returned (.tuple #[.int .i64 (tabF l d sn).1, .bool (tabF l d sn).2]) ∧ Hid (TB w w.heap.size md mn mi ms (.slice (some ⟨eb, eo, none⟩) l.length ecp) l (w.heap.size + 1 + 1) (w.heap.size + 1) y cm w' ∧ Keeps (fun _ => False) wr w') ∧ (w'.cell? ⟨eb, eo + k * 4, none⟩ = some (.int .i64 d) ∧ w'.cell? ⟨eb, eo + k * 4 + 1, none⟩ = some (.string sn) ∧ w'.cell? ⟨eb, eo + k * 4 + 2, none⟩ = some (.int .i64 en)) := fun m => by
                have hkm := Keeps.drewN (fun _ => False) wr m
                refine (look_any _ _ _ _ _ (HR.out.keep hkm).t d sn hdw hss).mono ?_
                rintro e w' ⟨rfl, hk⟩
                exact ⟨rfl, ⟨(HR.out.keep hkm).keep hk, hkm.trans hk⟩, HC.out _ (hkm.trans hk)⟩
              have h17b : ∀ (w7 : World) (m : Nat), Hid (TB w w.heap.size md mn mi ms (.slice (some ⟨eb, eo, none⟩) l.length ecp) l (w.heap.size + 1 + 1) (w.heap.size + 1) y cm w7 ∧ Keeps (fun _ => False) wr w7) → Calls Try.prog 17 #[.pointer (some ⟨y, 0, none⟩), .int .i64 d, .string sn] (w7.drewN m) fun e w' => e = .returned (.tuple #[.int .i64 (tabF l d sn).1, .bool (tabF l d sn).2]) ∧ Hid (TB w w.heap.size md mn mi ms (.slice (some ⟨eb, eo, none⟩) l.length ecp) l (w.heap.size + 1 + 1) (w.heap.size + 1) y cm w') ∧ (w'.cell? ⟨eb, eo + k * 4, none⟩ = some (.int .i64 d) ∧ w'.cell? ⟨eb, eo + k * 4 + 1, none⟩ = some (.string sn) ∧ w'.cell? ⟨eb, eo + k * 4 + 2, none⟩ = some (.int .i64 en)) := fun w7 m H7 => by
                have hkm := Keeps.drewN (fun _ => False) w7 m
                refine (look_any _ _ _ _ _ (H7.out.1.keep hkm).u d sn hdw hss).mono ?_
                rintro e w' ⟨rfl, hk⟩
                exact ⟨by rw [hG], (H7.out.1.keep hkm).keep hk, HC.out _ ((H7.out.2.trans hkm).trans hk)⟩
              clear hG HC
              go_wp2
              go_quiet (fail)
              go_wp2
              go_region_held3 (fun wx => (wx.cell? ⟨eb, eo + k * 4, none⟩ = some (.int .i64 d) ∧ wx.cell? ⟨eb, eo + k * 4 + 1, none⟩ = some (.string sn) ∧ wx.cell? ⟨eb, eo + k * 4 + 2, none⟩ = some (.int .i64 en)))
                (first | go_keep)
                (first
                  | (go_at_call 17; refine (h17a _).mono ?_; clear h17a; rintro e w7 ⟨rfl, H7, f0, f1, f2⟩))
              go_wp2
              go_region_held3 (fun wx => (wx.cell? ⟨eb, eo + k * 4, none⟩ = some (.int .i64 d) ∧ wx.cell? ⟨eb, eo + k * 4 + 1, none⟩ = some (.string sn) ∧ wx.cell? ⟨eb, eo + k * 4 + 2, none⟩ = some (.int .i64 en)))
                (first | go_keep)
                (first
                  | (go_at_call 17; refine (h17b _ _ H7).mono ?_; clear h17b; rintro e w8 ⟨rfl, H8, g0, g1, g2⟩))
              have HQ := Hid.mk' HE.out.2
              generalize tabF l d sn = yy at *
              obtain ⟨yn, yb⟩ := yy
              by_cases hen : 1 ≤ en
              · have hyn : ¬ yn < 1 := by have := HQ.out hen; simp only at this; omega
                go_wp2
                go_roundw
                case rel => exact ⟨k + 1, by omega, by go_num, H8⟩
                case measure => simp [intOf]; omega
              · go_wp2
                go_roundw
                case rel => exact ⟨k + 1, by omega, by go_num, H8⟩
                case measure => simp [intOf]; omega
          · have q1 : (d == md) = false := beq_eq_false_iff_ne.2 hd
            have hG := HG.out d sn (fun h => hd h.1)
            have HC : Hid (∀ W', Keeps (fun _ => False) wr W' → (W'.cell? ⟨eb, eo + k * 4, none⟩ = some (.int .i64 d) ∧ W'.cell? ⟨eb, eo + k * 4 + 1, none⟩ = some (.string sn) ∧ W'.cell? ⟨eb, eo + k * 4 + 2, none⟩ = some (.int .i64 en))) := fun W' hk => ⟨hk.cell e0 id, hk.cell e1 id, hk.cell e2 id⟩
            have h17a : ∀ m, Calls Try.prog 17 #[.pointer (some ⟨w.heap.size + 1 + 1, 0, none⟩), .int .i64 d, .string sn] (wr.drewN m) fun e w' => e = .returned (.tuple #[.int .i64 (tabF l d sn).1, .bool (tabF l d sn).2]) ∧ Hid (TB w w.heap.size md mn mi ms (.slice (some ⟨eb, eo, none⟩) l.length ecp) l (w.heap.size + 1 + 1) (w.heap.size + 1) y cm w' ∧ Keeps (fun _ => False) wr w') ∧ (w'.cell? ⟨eb, eo + k * 4, none⟩ = some (.int .i64 d) ∧ w'.cell? ⟨eb, eo + k * 4 + 1, none⟩ = some (.string sn) ∧ w'.cell? ⟨eb, eo + k * 4 + 2, none⟩ = some (.int .i64 en)) := fun m => by
              have hkm := Keeps.drewN (fun _ => False) wr m
              refine (look_any _ _ _ _ _ (HR.out.keep hkm).t d sn hdw hss).mono ?_
              rintro e w' ⟨rfl, hk⟩
              exact ⟨rfl, ⟨(HR.out.keep hkm).keep hk, hkm.trans hk⟩, HC.out _ (hkm.trans hk)⟩
            have h17b : ∀ (w7 : World) (m : Nat), Hid (TB w w.heap.size md mn mi ms (.slice (some ⟨eb, eo, none⟩) l.length ecp) l (w.heap.size + 1 + 1) (w.heap.size + 1) y cm w7 ∧ Keeps (fun _ => False) wr w7) → Calls Try.prog 17 #[.pointer (some ⟨y, 0, none⟩), .int .i64 d, .string sn] (w7.drewN m) fun e w' => e = .returned (.tuple #[.int .i64 (tabF l d sn).1, .bool (tabF l d sn).2]) ∧ Hid (TB w w.heap.size md mn mi ms (.slice (some ⟨eb, eo, none⟩) l.length ecp) l (w.heap.size + 1 + 1) (w.heap.size + 1) y cm w') ∧ (w'.cell? ⟨eb, eo + k * 4, none⟩ = some (.int .i64 d) ∧ w'.cell? ⟨eb, eo + k * 4 + 1, none⟩ = some (.string sn) ∧ w'.cell? ⟨eb, eo + k * 4 + 2, none⟩ = some (.int .i64 en)) := fun w7 m H7 => by
              have hkm := Keeps.drewN (fun _ => False) w7 m
              refine (look_any _ _ _ _ _ (H7.out.1.keep hkm).u d sn hdw hss).mono ?_
              rintro e w' ⟨rfl, hk⟩
              exact ⟨by rw [hG], (H7.out.1.keep hkm).keep hk, HC.out _ ((H7.out.2.trans hkm).trans hk)⟩
            clear hG HC
            go_wp2
            go_quiet (fail)
            go_wp2
            go_region_held3 (fun wx => (wx.cell? ⟨eb, eo + k * 4, none⟩ = some (.int .i64 d) ∧ wx.cell? ⟨eb, eo + k * 4 + 1, none⟩ = some (.string sn) ∧ wx.cell? ⟨eb, eo + k * 4 + 2, none⟩ = some (.int .i64 en)))
              (first | go_keep)
              (first
                | (go_at_call 17; refine (h17a _).mono ?_; clear h17a; rintro e w7 ⟨rfl, H7, f0, f1, f2⟩))
            go_wp2
            go_region_held3 (fun wx => (wx.cell? ⟨eb, eo + k * 4, none⟩ = some (.int .i64 d) ∧ wx.cell? ⟨eb, eo + k * 4 + 1, none⟩ = some (.string sn) ∧ wx.cell? ⟨eb, eo + k * 4 + 2, none⟩ = some (.int .i64 en)))
              (first | go_keep)
              (first
                | (go_at_call 17; refine (h17b _ _ H7).mono ?_; clear h17b; rintro e w8 ⟨rfl, H8, g0, g1, g2⟩))
            have HQ := Hid.mk' HE.out.2
            generalize tabF l d sn = yy at *
            obtain ⟨yn, yb⟩ := yy
            by_cases hen : 1 ≤ en
            · have hyn : ¬ yn < 1 := by have := HQ.out hen; simp only at this; omega
              go_wp2
              go_roundw
              case rel => exact ⟨k + 1, by omega, by go_num, H8⟩
              case measure => simp [intOf]; omega
            · go_wp2
              go_roundw
              case rel => exact ⟨k + 1, by omega, by go_num, H8⟩
              case measure => simp [intOf]; omega
        · have h1' : ¬ (k : Int) < (l.length : Int) := by omega
          go_wp2
          go_ret
          exact ⟨rfl, HR.out.kp⟩
    · have hown : put1 (tabF l) (md, mn, mi, ms) md mn = tabF l md mn := by rw [tab_low _ _ hmi]
      go_wp2_with (first
        | (go_at_call 17; refine (h17t _ md mn H3 hmd hmn).mono ?_; rintro e w4 ⟨rfl, H4⟩; obtain ⟨c0, c1, c2, c3⟩ := ebox H4.out.bx)
        | (go_at_call 17; refine (h17u _ md mn H2 hmd hmn).mono ?_; rintro e w3 ⟨rfl, H3⟩; rw [hown]; obtain ⟨b0, b1, b2, b3⟩ := ebox H3.out.bx)
        | (go_at_call 9; refine h9.mono ?_; clear h9; rintro e w2 ⟨rfl, H2⟩; obtain ⟨a0, a1, a2, a3⟩ := ebox H2.out.bx))
      have H4c := Hid.mk' H4.out
      clear H2 H3 H4 a0 a1 a2 a3 b0 b1 b2 b3 c0 c1 c2 c3
      go_loopw [11] (fun i wr => ∃ k : Nat, k ≤ l.length ∧ i = .int .i64 k ∧ Hid (TB w w.heap.size md mn mi ms (.slice ea l.length ecp) l (w.heap.size + 1 + 1) (w.heap.size + 1) y cm wr)) (fun i _ => l.length - (intOf i).toNat)
      case atStart => exact ⟨0, Nat.zero_le _, rfl, H4c⟩
      case round =>
        obtain ⟨k, hk, rfl, HR⟩ := hrel
        clear H4c
        obtain ⟨a0, a1, a2, a3⟩ := ebox HR.out.bx
        by_cases h1 : k < l.length
        · obtain ⟨eb, eo, ecp', ee, _, e0, e1, e2, e3⟩ := edges4 HR.out.ed h1
          cases ee
          have HE : Hid (EdOk (l.getD k ez) ∧ (1 ≤ (l.getD k ez).2.2.1 → 1 ≤ (tabF l (l.getD k ez).1 (l.getD k ez).2.1).1)) := ⟨HK.out.1 _ (getD_mem ez h1), HP.out _ (getD_mem ez h1)⟩
          generalize l.getD k ez = ed at e0 e1 e2 e3 HE
          obtain ⟨d, sn, en, es⟩ := ed
          simp only at e0 e1 e2 e3
          have h1' : (k : Int) < (l.length : Int) := by omega
          have hk0 : (0 : Int) ≤ (k : Int) := by omega
          have hdw : (Lit.int .i64 d).wf = true := HE.out.1.1
          have hss : sn.size ≤ maxLen := by have := HE.out.1.2.2; simp only at this; unfold maxLen; omega
          by_cases hd : d = md
          · by_cases hs : sn = mn
            · have q1 : (d == md) = true := beq_iff_eq.2 hd
              have q2 : (sn.toList == mn.toList) = true := by rw [bytes_eq, decide_eq_true hs]
              have HX := Hid.mk' (And.intro hd hs)
              clear hd hs
              go_wp2
              go_quiet (fail)
              go_wp2
              go_roundw
              case rel => exact ⟨k + 1, by omega, by go_num, HR.out.keep (Keeps.drewN _ _ _)⟩
              case measure => simp [intOf]; omega
            · have q1 : (d == md) = true := beq_iff_eq.2 hd
              have q2 : (sn.toList == mn.toList) = false := by rw [bytes_eq, decide_eq_false hs]
              have hG := HG.out d sn (fun h => hs h.2)
              clear hd hs
              have HC : Hid (∀ W', Keeps (fun _ => False) wr W' → (W'.cell? ⟨eb, eo + k * 4, none⟩ = some (.int .i64 d) ∧ W'.cell? ⟨eb, eo + k * 4 + 1, none⟩ = some (.string sn) ∧ W'.cell? ⟨eb, eo + k * 4 + 2, none⟩ = some (.int .i64 en))) := fun W' hk => ⟨hk.cell e0 id, hk.cell e1 id, hk.cell e2 id⟩
              have h17a : ∀ m, Calls Try.prog 17 #[.pointer (some ⟨w.heap.size + 1 + 1, 0, none⟩), .int .i64 d, .string sn] (wr.drewN m) fun e w' => e = .returned (.tuple #[.int .i64 (tabF l d sn).1, .bool (tabF l d sn).2]) ∧ Hid (TB w w.heap.size md mn mi ms (.slice (some ⟨eb, eo, none⟩) l.length ecp) l (w.heap.size + 1 + 1) (w.heap.size + 1) y cm w' ∧ Keeps (fun _ => False) wr w') ∧ (w'.cell? ⟨eb, eo + k * 4, none⟩ = some (.int .i64 d) ∧ w'.cell? ⟨eb, eo + k * 4 + 1, none⟩ = some (.string sn) ∧ w'.cell? ⟨eb, eo + k * 4 + 2, none⟩ = some (.int .i64 en)) := fun m => by
                have hkm := Keeps.drewN (fun _ => False) wr m
                refine (look_any _ _ _ _ _ (HR.out.keep hkm).t d sn hdw hss).mono ?_
                rintro e w' ⟨rfl, hk⟩
                exact ⟨rfl, ⟨(HR.out.keep hkm).keep hk, hkm.trans hk⟩, HC.out _ (hkm.trans hk)⟩
              have h17b : ∀ (w7 : World) (m : Nat), Hid (TB w w.heap.size md mn mi ms (.slice (some ⟨eb, eo, none⟩) l.length ecp) l (w.heap.size + 1 + 1) (w.heap.size + 1) y cm w7 ∧ Keeps (fun _ => False) wr w7) → Calls Try.prog 17 #[.pointer (some ⟨y, 0, none⟩), .int .i64 d, .string sn] (w7.drewN m) fun e w' => e = .returned (.tuple #[.int .i64 (tabF l d sn).1, .bool (tabF l d sn).2]) ∧ Hid (TB w w.heap.size md mn mi ms (.slice (some ⟨eb, eo, none⟩) l.length ecp) l (w.heap.size + 1 + 1) (w.heap.size + 1) y cm w') ∧ (w'.cell? ⟨eb, eo + k * 4, none⟩ = some (.int .i64 d) ∧ w'.cell? ⟨eb, eo + k * 4 + 1, none⟩ = some (.string sn) ∧ w'.cell? ⟨eb, eo + k * 4 + 2, none⟩ = some (.int .i64 en)) := fun w7 m H7 => by
                have hkm := Keeps.drewN (fun _ => False) w7 m
                refine (look_any _ _ _ _ _ (H7.out.1.keep hkm).u d sn hdw hss).mono ?_
                rintro e w' ⟨rfl, hk⟩
                exact ⟨by rw [hG], (H7.out.1.keep hkm).keep hk, HC.out _ ((H7.out.2.trans hkm).trans hk)⟩
              clear hG HC
              go_wp2
              go_quiet (fail)
              go_wp2
              go_region_held3 (fun wx => (wx.cell? ⟨eb, eo + k * 4, none⟩ = some (.int .i64 d) ∧ wx.cell? ⟨eb, eo + k * 4 + 1, none⟩ = some (.string sn) ∧ wx.cell? ⟨eb, eo + k * 4 + 2, none⟩ = some (.int .i64 en)))
                (first | go_keep)
                (first
                  | (go_at_call 17; refine (h17a _).mono ?_; clear h17a; rintro e w7 ⟨rfl, H7, f0, f1, f2⟩))
              go_wp2
              go_region_held3 (fun wx => (wx.cell? ⟨eb, eo + k * 4, none⟩ = some (.int .i64 d) ∧ wx.cell? ⟨eb, eo + k * 4 + 1, none⟩ = some (.string sn) ∧ wx.cell? ⟨eb, eo + k * 4 + 2, none⟩ = some (.int .i64 en)))
                (first | go_keep)
                (first
                  | (go_at_call 17; refine (h17b _ _ H7).mono ?_; clear h17b; rintro e w8 ⟨rfl, H8, g0, g1, g2⟩))
              have HQ := Hid.mk' HE.out.2
              generalize tabF l d sn = yy at *
              obtain ⟨yn, yb⟩ := yy
              by_cases hen : 1 ≤ en
              · have hyn : ¬ yn < 1 := by have := HQ.out hen; simp only at this; omega
                go_wp2
                go_roundw
                case rel => exact ⟨k + 1, by omega, by go_num, H8⟩
                case measure => simp [intOf]; omega
              · go_wp2
                go_roundw
                case rel => exact ⟨k + 1, by omega, by go_num, H8⟩
                case measure => simp [intOf]; omega
          · have q1 : (d == md) = false := beq_eq_false_iff_ne.2 hd
            have hG := HG.out d sn (fun h => hd h.1)
            have HC : Hid (∀ W', Keeps (fun _ => False) wr W' → (W'.cell? ⟨eb, eo + k * 4, none⟩ = some (.int .i64 d) ∧ W'.cell? ⟨eb, eo + k * 4 + 1, none⟩ = some (.string sn) ∧ W'.cell? ⟨eb, eo + k * 4 + 2, none⟩ = some (.int .i64 en))) := fun W' hk => ⟨hk.cell e0 id, hk.cell e1 id, hk.cell e2 id⟩
            have h17a : ∀ m, Calls Try.prog 17 #[.pointer (some ⟨w.heap.size + 1 + 1, 0, none⟩), .int .i64 d, .string sn] (wr.drewN m) fun e w' => e = .returned (.tuple #[.int .i64 (tabF l d sn).1, .bool (tabF l d sn).2]) ∧ Hid (TB w w.heap.size md mn mi ms (.slice (some ⟨eb, eo, none⟩) l.length ecp) l (w.heap.size + 1 + 1) (w.heap.size + 1) y cm w' ∧ Keeps (fun _ => False) wr w') ∧ (w'.cell? ⟨eb, eo + k * 4, none⟩ = some (.int .i64 d) ∧ w'.cell? ⟨eb, eo + k * 4 + 1, none⟩ = some (.string sn) ∧ w'.cell? ⟨eb, eo + k * 4 + 2, none⟩ = some (.int .i64 en)) := fun m => by
              have hkm := Keeps.drewN (fun _ => False) wr m
              refine (look_any _ _ _ _ _ (HR.out.keep hkm).t d sn hdw hss).mono ?_
              rintro e w' ⟨rfl, hk⟩
              exact ⟨rfl, ⟨(HR.out.keep hkm).keep hk, hkm.trans hk⟩, HC.out _ (hkm.trans hk)⟩
            have h17b : ∀ (w7 : World) (m : Nat), Hid (TB w w.heap.size md mn mi ms (.slice (some ⟨eb, eo, none⟩) l.length ecp) l (w.heap.size + 1 + 1) (w.heap.size + 1) y cm w7 ∧ Keeps (fun _ => False) wr w7) → Calls Try.prog 17 #[.pointer (some ⟨y, 0, none⟩), .int .i64 d, .string sn] (w7.drewN m) fun e w' => e = .returned (.tuple #[.int .i64 (tabF l d sn).1, .bool (tabF l d sn).2]) ∧ Hid (TB w w.heap.size md mn mi ms (.slice (some ⟨eb, eo, none⟩) l.length ecp) l (w.heap.size + 1 + 1) (w.heap.size + 1) y cm w') ∧ (w'.cell? ⟨eb, eo + k * 4, none⟩ = some (.int .i64 d) ∧ w'.cell? ⟨eb, eo + k * 4 + 1, none⟩ = some (.string sn) ∧ w'.cell? ⟨eb, eo + k * 4 + 2, none⟩ = some (.int .i64 en)) := fun w7 m H7 => by
              have hkm := Keeps.drewN (fun _ => False) w7 m
              refine (look_any _ _ _ _ _ (H7.out.1.keep hkm).u d sn hdw hss).mono ?_
              rintro e w' ⟨rfl, hk⟩
              exact ⟨by rw [hG], (H7.out.1.keep hkm).keep hk, HC.out _ ((H7.out.2.trans hkm).trans hk)⟩
            clear hG HC
            go_wp2
            go_quiet (fail)
            go_wp2
            go_region_held3 (fun wx => (wx.cell? ⟨eb, eo + k * 4, none⟩ = some (.int .i64 d) ∧ wx.cell? ⟨eb, eo + k * 4 + 1, none⟩ = some (.string sn) ∧ wx.cell? ⟨eb, eo + k * 4 + 2, none⟩ = some (.int .i64 en)))
              (first | go_keep)
              (first
                | (go_at_call 17; refine (h17a _).mono ?_; clear h17a; rintro e w7 ⟨rfl, H7, f0, f1, f2⟩))
            go_wp2
            go_region_held3 (fun wx => (wx.cell? ⟨eb, eo + k * 4, none⟩ = some (.int .i64 d) ∧ wx.cell? ⟨eb, eo + k * 4 + 1, none⟩ = some (.string sn) ∧ wx.cell? ⟨eb, eo + k * 4 + 2, none⟩ = some (.int .i64 en)))
              (first | go_keep)
              (first
                | (go_at_call 17; refine (h17b _ _ H7).mono ?_; clear h17b; rintro e w8 ⟨rfl, H8, g0, g1, g2⟩))
            have HQ := Hid.mk' HE.out.2
            generalize tabF l d sn = yy at *
            obtain ⟨yn, yb⟩ := yy
            by_cases hen : 1 ≤ en
            · have hyn : ¬ yn < 1 := by have := HQ.out hen; simp only at this; omega
              go_wp2
              go_roundw
              case rel => exact ⟨k + 1, by omega, by go_num, H8⟩
              case measure => simp [intOf]; omega
            · go_wp2
              go_roundw
              case rel => exact ⟨k + 1, by omega, by go_num, H8⟩
              case measure => simp [intOf]; omega
        · have h1' : ¬ (k : Int) < (l.length : Int) := by omega
          go_wp2
          go_ret
          exact ⟨rfl, HR.out.kp⟩
end Go.Proofs.Ytfekgfimbkgkfaa
