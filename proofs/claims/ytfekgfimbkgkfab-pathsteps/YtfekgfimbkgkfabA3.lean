import Derived.Test.YtfekgfimbkgkfabA2
namespace Go.Proofs.Ytfekgfimbkgkfab
open Go.RowKit Go.Maps

theorem Row.pos {W : World} {v : Value} {n : Nat} {xs : List Value} (h : Row W v n xs) (h0 : 0 < n) : ∃ b o cap, v = .slice (some ⟨b, o, none⟩) n cap ∧ b < W.heap.size ∧ ∀ (j : Nat) (u : Value), xs[j]? = some u → W.cell? ⟨b, o + j, none⟩ = some u := by
  obtain ⟨a, cap, rfl, _, h⟩ := h
  obtain ⟨b, o, rfl, hb, hc⟩ := h h0
  exact ⟨b, o, cap, rfl, hb, hc⟩

theorem cells2 {w : World} {R : Nat} {a b : Value} {t : TypeId} (h : w.heap[R]? = some (.cells #[a, b] t (0, 0))) :
    w.cell? ⟨R, 0, none⟩ = some a ∧ w.cell? ⟨R, 1, none⟩ = some b ∧ (∀ i, w.frozen? ⟨R, i, none⟩ = false) := by
  simp [World.cell?, World.frozen?, h]
theorem set2 {w : World} {R : Nat} {a b : Value} {t : TypeId} (h : w.heap[R]? = some (.cells #[a, b] t (0, 0))) (x y : Value) :
    ((w.setCell ⟨R, 0, none⟩ x).setCell ⟨R, 1, none⟩ y).heap[R]? = some (.cells #[x, y] t (0, 0)) ∧
    Keeps (fun k => k = R) w ((w.setCell ⟨R, 0, none⟩ x).setCell ⟨R, 1, none⟩ y) := by
  have h1 := setCell_block (a := ⟨R, 0, none⟩) (v := x) h rfl
  have h2 := setCell_block (a := ⟨R, 1, none⟩) (v := y) h1 rfl
  refine ⟨by simpa using h2, ?_⟩
  have g : ∀ w v i, Keeps (fun k => k = R) w (w.setCell ⟨R, i, none⟩ v) := fun w v i => Keeps.of (grownBy_setCell w ⟨R, i, none⟩ v) (by rintro k hk; cases hk; exact Or.inl rfl)
  exact (g _ _ _).trans (g _ _ _)
theorem set2c {w : World} {R : Nat} {a b : Value} {t : TypeId} (h : w.heap[R]? = some (.cells #[a, b] t (0, 0))) (x y : Value) :
    (w.setCell ⟨R, 0, none⟩ x).cell? ⟨R, 0, none⟩ = some x ∧ ((w.setCell ⟨R, 0, none⟩ x).setCell ⟨R, 1, none⟩ y).cell? ⟨R, 1, none⟩ = some y := by
  have h1 := setCell_block (a := ⟨R, 0, none⟩) (v := x) h rfl
  have h2 := setCell_block (a := ⟨R, 1, none⟩) (v := y) h1 rfl
  simp at h1 h2
  exact ⟨by simp [World.cell?, h1], by simp [World.cell?, h2]⟩
theorem two_new (w : World) (o1 o2 : Obj) : ((w.alloc o1).alloc o2).heap[w.heap.size]? = some o1 ∧ ((w.alloc o1).alloc o2).heap[w.heap.size + 1]? = some o2 ∧ Keeps (fun k => w.heap.size ≤ k) w ((w.alloc o1).alloc o2) ∧ ((w.alloc o1).alloc o2).heap.size = w.heap.size + 2 := by
  have b1 := (MapKept.heap_alloc w o1).1
  have b2 := (MapKept.heap_alloc (w.alloc o1) o2).1
  have g1 := World.grownBy_alloc w o1 none
  have g2 := World.grownBy_alloc (w.alloc o1) o2 none
  refine ⟨(g2.block _ (heap_lt b1) (by simp)).trans b1, by simpa using b2, ((Keeps.of g1 (by simp)).step g2 (by simp)), by simp⟩
theorem long_take (l : List ByteArray) (k : Nat) (hk : k < l.length) (h : long (l.take k) = false) : long (l.take (k + 1)) = decide (28 < (l.getD k bz).size) := by
  unfold long at h ⊢
  rw [take_getD bz hk, List.any_append, h]; simp
theorem long_hit (l : List ByteArray) (k : Nat) (hk : k < l.length) (h : 28 < (l.getD k bz).size) : long l = true := by
  unfold long
  rw [List.any_eq_true]
  refine ⟨l.getD k bz, ?_, by simpa using h⟩
  simp [List.getD_eq_getElem?_getD, hk]

set_option maxHeartbeats 1000000 in
set_option maxRecDepth 100000 in
theorem anyLong_any (w : World) (v : Value) (l : List ByteArray) (h : Row w v l.length (strs l)) (hn : l.length < 1000000000000) :
    Calls Try.prog 31 #[v] w fun e w' => e = .returned (.bool (long l)) ∧ w' = w := by
  obtain ⟨a, cap, rfl, _, hr⟩ := h
  have HR : Hid (0 < l.length → ∃ b o, a = some ⟨b, o, none⟩ ∧ b < w.heap.size ∧ ∀ (j : Nat) (u : Value), (strs l)[j]? = some u → w.cell? ⟨b, o + j, none⟩ = some u) := hr
  clear hr
  go_enter Try.func31, Try.ntmps31
  go_wp2
  go_loopw [7] (fun i wr => ∃ k : Nat, k ≤ l.length ∧ i = .int .i64 k ∧ wr = w ∧ Hid (long (l.take k) = false)) (fun i _ => l.length - (intOf i).toNat)
  case atStart => exact ⟨0, Nat.zero_le _, rfl, rfl, rfl⟩
  case round =>
    obtain ⟨k, hk, rfl, rfl, HL⟩ := hrel
    by_cases h1 : k < l.length
    · obtain ⟨b, o, rfl, hb, hc⟩ := HR.out (by omega)
      have c0 := hc k _ (strs_get h1)
      have HS : Hid (long (l.take (k + 1)) = decide (28 < (l.getD k bz).size)) := long_take l k h1 HL.out
      have HT : Hid (28 < (l.getD k bz).size → long l = true) := long_hit l k h1
      generalize l.getD k bz = s at c0 HS HT
      clear hc
      have h1' : (k : Int) < (l.length : Int) := by omega
      by_cases h2 : 28 < s.size
      · have h2' : (28 : Int) < (s.size : Int) := by omega
        go_wp2
        go_ret
        exact ⟨ret_bool (HT.out h2).symm, rfl⟩
      · have h2' : ¬ (28 : Int) < (s.size : Int) := by omega
        have HN : Hid (long (l.take (k + 1)) = false) := HS.out.trans (by simp [h2])
        go_wp2
        go_roundw
        case rel => exact ⟨k + 1, by omega, by go_num, trivial, HN⟩
        case measure => simp [intOf]; omega
    · have h1' : ¬ (k : Int) < (l.length : Int) := by omega
      go_wp2
      go_ret
      have := HL.out
      rw [List.take_of_length_le (by omega)] at this
      exact ⟨ret_bool this.symm, rfl⟩

/-- A path's two cells: a row of its own, and the slash. -/
def PathIs (w : World) (base : Nat) (v : Value) (ps : List ByteArray) (sl : Bool) : Prop := ∃ r, v = .agg #[r, .bool sl] ∧ w.ownsRow base 9 1 r ps.length (strs ps)

set_option maxHeartbeats 2000000 in
set_option maxRecDepth 100000 in
theorem parse_any (w : World) (s : ByteArray) (hs : s.size ≤ 9223372036854775807) :
    Calls Try.prog 18 #[.string s] w fun e w' => ∃ r, e = .returned (.tuple #[.agg #[r, .bool (prsS s.data.toList)], .int .i64 (prsE s.data.toList)]) ∧ Hid (w'.ownsRow w.heap.size 9 1 r (prsP s.data.toList).length (strs (prsP s.data.toList)) ∧ Keeps (fun _ => False) w w') := by
  have hsl := size_len s
  by_cases hL : 200 < s.size
  · have hE : prsE s.data.toList = 140 := by unfold prsE; rw [if_pos (by omega)]
    have hS : prsS s.data.toList = false := by unfold prsS; rw [hE]; rfl
    have hP : prsP s.data.toList = [] := by unfold prsP; rw [hE]; rfl
    have hL' : (200 : Int) < (s.size : Int) := by omega
    rw [hE, hS, hP]
    clear hsl hE hS hP
    go_enter Try.func18, Try.ntmps18
    go_wp2
    refine bodyPost_ret (v := .tuple #[.agg #[.slice none 0 0, .bool false], .int .i64 140]) (by simp [results, Try.results18, go_sem]) rfl ?_
    exact ⟨_, rfl, World.ownsRow_nil _ _ _ _, (Keeps.refl _ w).alloc _⟩
  · have hL' : ¬ (200 : Int) < (s.size : Int) := by omega
    have h29 := formed_any s
    rcases Bool.eq_false_or_eq_true (formed s.data.toList) with hF | hF
    · have hE : prsE s.data.toList = if long (parts s.data.toList) = true then 142 else 0 := by unfold prsE; rw [if_neg (by omega), if_neg (by simp [hF])]
      have hR0 := (MapKept.heap_alloc w (.cells #[.slice none 0 0, .bool false] 25)).1
      have hK0 : Keeps (fun _ => False) w (w.alloc (.cells #[.slice none 0 0, .bool false] 25)) := (Keeps.refl _ w).alloc _
      have hz0 : (w.alloc (.cells #[.slice none 0 0, .bool false] 25)).heap.size = w.heap.size + 1 := World.size_alloc ..
      have h30 := split_any (w.alloc (.cells #[.slice none 0 0, .bool false] 25)) s (by omega)
      have hlen : (parts s.data.toList).length ≤ 201 := by
        have := pts_len s.data.toList []
        rw [← hsl] at this
        simp only [parts, List.length_map]; omega
      rcases Bool.eq_false_or_eq_true (long (parts s.data.toList)) with hG | hG
      · rw [hG, if_pos rfl] at hE
        have hS : prsS s.data.toList = false := by unfold prsS; rw [hE]; rfl
        have hP : prsP s.data.toList = [] := by unfold prsP; rw [hE]; rfl
        rw [hE, hS, hP]
        rw [hF] at h29
        generalize parts s.data.toList = ps at *
        have HG : Hid (long ps = true) := hG
        clear hsl hE hS hP hF hG
        go_enter Try.func18, Try.ntmps18
        go_wp2_with (first
          | (go_at_call 29; refine (h29 _ hs).mono ?_; clear h29; rintro e w1 ⟨rfl, hw1⟩; subst w1)
          | (go_at_call 30; refine h30.mono ?_; clear h30; rintro e w2 ⟨v2, rfl, H2⟩
             have hR := H2.out.2.at hR0 (fun h => h)
             have h31 := anyLong_any w2 v2 ps (Row.of_own H2.out.1) (by omega)
             rw [HG.out] at h31
             obtain ⟨c0, c1, cf⟩ := cells2 hR
             have f0 := cf 0
             have f1 := cf 1
             obtain ⟨s1, s2⟩ := set2 hR (.slice none 0 0) (.bool false)
             obtain ⟨d0, d1⟩ := set2c hR (.slice none 0 0) (.bool false)
             have HK : Hid (Keeps (fun _ => False) w ((w2.setCell ⟨w.heap.size, 0, none⟩ (.slice none 0 0)).setCell ⟨w.heap.size, 1, none⟩ (.bool false))) := (hK0.trans H2.out.2).then s2 (fun k hk => Or.inr (Nat.le_of_eq hk.symm))
             clear hR cf s1 s2)
          | (go_at_call 31; refine h31.mono ?_; clear h31; rintro e w3 ⟨rfl, hw3⟩; subst w3))
        refine bodyPost_ret (v := .tuple #[.agg #[.slice none 0 0, .bool false], .int .i64 142]) (by simp [results, Try.results18, go_sem, d0, d1]) rfl ?_
        exact ⟨_, rfl, World.ownsRow_nil _ _ _ _, HK.out⟩
      · rw [hG, if_neg (by simp)] at hE
        have hS : prsS s.data.toList = (!(parts s.data.toList).isEmpty && (s.data.toList.getLast? == some 47)) := by unfold prsS; rw [hE]; rfl
        have hP : prsP s.data.toList = parts s.data.toList := by unfold prsP; rw [hE]; rfl
        have hne : s.size ≠ 0 := by
          intro h0
          rw [hsl] at h0
          rw [List.length_eq_zero_iff.1 h0] at hF
          cases hF
        have hlt : s.size - 1 < s.size := by omega
        have hlast : s.data.toList.getLast? = some (s[s.size - 1]'hlt) := by
          rw [byte_getD s (s.size - 1) hlt, List.getLast?_eq_getElem?, ← hsl, List.getD_eq_getElem?_getD, List.getElem?_eq_getElem (by omega)]
          rfl
        have hbv : (s.data.toList.getLast? == some 47) = (((s[s.size - 1]'hlt).toNat : Int) == 47) := by
          rw [hlast]
          generalize s[s.size - 1]'hlt = b
          by_cases h : b = 47
          · subst h; rfl
          · have h3 : ¬ b.toNat = 47 := fun e => h (UInt8.toNat_inj.1 e)
            rw [beq_eq_false_iff_ne.2 (show (b.toNat : Int) ≠ 47 by omega)]
            simp [h]
        rw [hE, hS, hP, hbv]
        rw [hF] at h29
        generalize parts s.data.toList = ps at *
        have HG : Hid (long ps = false) := hG
        have hm : ((s.size : Int) - 1) = ((s.size - 1 : Nat) : Int) := by omega
        have h1n : 1 ≤ s.size := by omega
        clear hsl hE hS hP hF hG hlast hbv hne
        cases ps with
        | nil =>
          show Calls Try.prog 18 #[.string s] w fun e w' => ∃ r, e = .returned (.tuple #[.agg #[r, .bool false], .int .i64 0]) ∧ Hid (w'.ownsRow w.heap.size 9 1 r ([] : List ByteArray).length (strs []) ∧ Keeps (fun _ => False) w w')
          go_enter Try.func18, Try.ntmps18
          go_wp2_with (first
            | (go_at_call 29; refine (h29 _ hs).mono ?_; clear h29; rintro e w1 ⟨rfl, hw1⟩; subst w1)
            | (go_at_call 30; refine h30.mono ?_; clear h30; rintro e w2 ⟨v2, rfl, H2⟩
               have hR := H2.out.2.at hR0 (fun h => h)
               have h31 := anyLong_any w2 v2 ([] : List ByteArray) (Row.of_own H2.out.1) (by omega)
               rw [HG.out] at h31
               obtain ⟨c0, c1, cf⟩ := cells2 hR
               have f0 := cf 0
               have f1 := cf 1
               obtain ⟨s1, s2⟩ := set2 hR v2 (.bool false)
               obtain ⟨d0, d1⟩ := set2c hR v2 (.bool false)
               have HK : Hid (Keeps (fun _ => False) w ((w2.setCell ⟨w.heap.size, 0, none⟩ v2).setCell ⟨w.heap.size, 1, none⟩ (.bool false))) := (hK0.trans H2.out.2).then s2 (fun k hk => Or.inr (Nat.le_of_eq hk.symm))
               have HW : Hid (((w2.setCell ⟨w.heap.size, 0, none⟩ v2).setCell ⟨w.heap.size, 1, none⟩ (.bool false)).ownsRow w.heap.size 9 1 v2 (([] : List ByteArray)).length (strs ([] : List ByteArray))) := own_base (own_keep H2.out.1 s2 (fun g hg hk => by have := (H2.out.1.lt g hg).1; rw [hz0] at this; omega)) (by rw [hz0]; omega)
               obtain ⟨a2, cap2, ev2, _⟩ := Row.of_own H2.out.1
               subst ev2
               clear hR cf s1 s2)
            | (go_at_call 31; refine h31.mono ?_; clear h31; rintro e w3 ⟨rfl, hw3⟩; subst w3))
          simp only [List.length_nil] at d0 d1
          refine bodyPost_ret (v := .tuple #[.agg #[.slice a2 0 cap2, .bool false], .int .i64 0]) (by simp [results, Try.results18, go_sem, d0, d1]) rfl ?_
          exact ⟨_, rfl, HW.out, HK.out⟩
        | cons q ps =>
          show Calls Try.prog 18 #[.string s] w fun e w' => ∃ r, e = .returned (.tuple #[.agg #[r, .bool (((s[s.size - 1]'hlt).toNat : Int) == 47)], .int .i64 0]) ∧ Hid (w'.ownsRow w.heap.size 9 1 r (q :: ps).length (strs (q :: ps)) ∧ Keeps (fun _ => False) w w')
          generalize hpp : q :: ps = pp at *
          have hp1 : 0 < pp.length := by rw [← hpp]; simp
          have hp2 : (0 : Int) < (pp.length : Int) := by omega
          clear hpp
          go_enter Try.func18, Try.ntmps18
          go_wp2_with (first
            | (go_at_call 29; refine (h29 _ hs).mono ?_; clear h29; rintro e w1 ⟨rfl, hw1⟩; subst w1)
            | (go_at_call 30; refine h30.mono ?_; clear h30; rintro e w2 ⟨v2, rfl, H2⟩
               have hR := H2.out.2.at hR0 (fun h => h)
               have h31 := anyLong_any w2 v2 pp (Row.of_own H2.out.1) (by omega)
               rw [HG.out] at h31
               obtain ⟨c0, c1, cf⟩ := cells2 hR
               have f0 := cf 0
               have f1 := cf 1
               obtain ⟨s1, s2⟩ := set2 hR v2 (.bool (((s[s.size - 1]'hlt).toNat : Int) == 47))
               obtain ⟨d0, d1⟩ := set2c hR v2 (.bool (((s[s.size - 1]'hlt).toNat : Int) == 47))
               have HK : Hid (Keeps (fun _ => False) w ((w2.setCell ⟨w.heap.size, 0, none⟩ v2).setCell ⟨w.heap.size, 1, none⟩ (.bool (((s[s.size - 1]'hlt).toNat : Int) == 47)))) := (hK0.trans H2.out.2).then s2 (fun k hk => Or.inr (Nat.le_of_eq hk.symm))
               have HW : Hid (((w2.setCell ⟨w.heap.size, 0, none⟩ v2).setCell ⟨w.heap.size, 1, none⟩ (.bool (((s[s.size - 1]'hlt).toNat : Int) == 47))).ownsRow w.heap.size 9 1 v2 (pp).length (strs pp)) := own_base (own_keep H2.out.1 s2 (fun g hg hk => by have := (H2.out.1.lt g hg).1; rw [hz0] at this; omega)) (by rw [hz0]; omega)
               obtain ⟨a2, cap2, ev2, _⟩ := Row.of_own H2.out.1
               subst ev2
               clear hR cf s1 s2)
            | (go_at_call 31; refine h31.mono ?_; clear h31; rintro e w3 ⟨rfl, hw3⟩; subst w3))
          refine bodyPost_ret (v := .tuple #[.agg #[.slice a2 (pp).length cap2, .bool (((s[s.size - 1]'hlt).toNat : Int) == 47)], .int .i64 0]) (by simp [results, Try.results18, go_sem, d0, d1]) rfl ?_
          exact ⟨_, rfl, HW.out, HK.out⟩
    · have hE : prsE s.data.toList = 141 := by unfold prsE; rw [if_neg (by omega), if_pos hF]
      have hS : prsS s.data.toList = false := by unfold prsS; rw [hE]; rfl
      have hP : prsP s.data.toList = [] := by unfold prsP; rw [hE]; rfl
      rw [hE, hS, hP]
      rw [hF] at h29
      clear hsl hE hS hP hF
      go_enter Try.func18, Try.ntmps18
      go_wp2_with (first | (go_at_call 29; refine (h29 _ hs).mono ?_; rintro e w1 ⟨rfl, hw1⟩; subst w1))
      refine bodyPost_ret (v := .tuple #[.agg #[.slice none 0 0, .bool false], .int .i64 141]) (by simp [results, Try.results18, go_sem]) rfl ?_
      exact ⟨_, rfl, World.ownsRow_nil _ _ _ _, (Keeps.refl _ w).alloc _⟩
end Go.Proofs.Ytfekgfimbkgkfab
