import Derived.Test.YtnafocbgapianabB6
namespace Go.Proofs.Ytnafocbgapianab
open Go.RowKit

/-- How many pages of the data area are held. -/
def hc (s : Sh) (H : Nat → Bool) : Nat := cn (fun j => H (s.data + j)) (s.pages - s.data)
theorem hc_le (s : Sh) (H : Nat → Bool) : hc s H ≤ s.pages - s.data := cn_le _ _
theorem upd_shift (H : Nat → Bool) (d i : Nat) (b : Bool) : (fun j => upd H (d + i) b (d + j)) = upd (fun j => H (d + j)) i b := by
  funext j; unfold upd
  by_cases h : j = i
  · simp [h]
  · simp [h]
theorem hc_upd {s : Sh} {H : Nat → Bool} {q : Nat} {b : Bool} (h1 : s.data ≤ q) (h2 : q < s.pages) : hc s (upd H q b) + (H q).toNat = hc s H + b.toNat := by
  obtain ⟨i, rfl⟩ : ∃ i, q = s.data + i := ⟨q - s.data, by omega⟩
  unfold hc
  rw [upd_shift]
  exact cn_upd (S := fun j => H (s.data + j)) (by omega)

theorem info3 : (Try.prog.info? 3).map (fun i => (i.zero, i.size, i.bytes)) = some (some (.int .i64 0), 1, 8) := by kernel_rfl
def intCells (T : List Nat) : List Value := T.map fun q : Nat => .int .i64 (q : Int)
/-- A list of pages of the call's own. -/
def NumAt (w : World) (B : Nat) (v : Value) (T : List Nat) : Prop := w.ownsRow B 3 1 v T.length (intCells T)

theorem NumAt.nil (w : World) (B : Nat) : NumAt w B (.slice none 0 0) [] := World.ownsRow_nil w B 3 1
theorem NumAt.kept {w w' : World} {B : Nat} {v : Value} {T : List Nat} {X : Nat → Prop} (h : NumAt w B v T) (k : Keeps X w w') (hx : ∀ g, v.ownBlock = some g → ¬ X g) : NumAt w' B v T := by
  have hlt := h.lt
  obtain ⟨h1, h2⟩ := h
  refine ⟨h1, ?_⟩
  rcases h2 with h2 | ⟨g, cap, cur, hv, hg, hh, r⟩
  · exact Or.inl h2
  · have e1 : v.ownBlock = some g := by rw [hv]; rfl
    exact Or.inr ⟨g, cap, cur, hv, hg, (k.block g (hlt g e1).2 (hx g e1)).trans hh, r⟩
theorem NumAt.eq_slice {w : World} {B : Nat} {v : Value} {T : List Nat} (h : NumAt w B v T) : ∃ p cap, v = .slice p T.length cap := by
  rcases h.2 with ⟨rfl, h0⟩ | ⟨g, cap, cur, hv, _⟩
  · exact ⟨none, 0, by rw [h0]⟩
  · exact ⟨_, cap, hv⟩
theorem NumAt.toIn {w : World} {B : Nat} {v : Value} {T : List Nat} (h : NumAt w B v T) : ∃ p cap, v = .slice p T.length cap ∧ IntIn w p (T.map fun q : Nat => (q : Int)) ∧ (∀ g, p.map (·.block) = some g → v.ownBlock = some g) := by
  by_cases h0 : 0 < T.length
  · obtain ⟨g, cap, hv, hg, hgl⟩ := World.ownsRow.form h h0
    refine ⟨_, cap, hv, ?_, ?_⟩
    · intro _
      refine ⟨g, 0, rfl, hgl, ?_⟩
      intro i hi
      rw [List.length_map] at hi
      have h' : w.ownsRow B 3 1 (.slice (some ⟨g, 0, none⟩) T.length cap) T.length (intCells T) := by rw [← hv]; exact h
      have c0 := h'.cellAt i (by omega)
      rw [Nat.zero_add, c0, List.getD_eq_getElem?_getD, List.getElem?_map]
      unfold intCells
      rw [List.getElem?_map, List.getElem?_eq_getElem hi]; rfl
    · intro g' hg'
      rw [hv]; exact hg'
  · obtain ⟨p, cap, hv⟩ := h.eq_slice
    refine ⟨p, cap, hv, fun hh => by rw [List.length_map] at hh; omega, ?_⟩
    intro g hg
    rw [hv]
    cases p with
    | none => simp at hg
    | some a => exact hg

theorem news1 (w : World) (x : Value) (t : TypeId) : ∀ j u, [x][j]? = some u → (w.alloc (.cells #[x] t)).cell? ((⟨w.heap.size, 0, none⟩ : Addr).add j) = some u := by
  have hb := (MapKept.heap_alloc w (.cells #[x] t)).1
  intro j u hj
  have hadd : (⟨w.heap.size, 0, none⟩ : Addr).add j = ⟨w.heap.size, j, none⟩ := by unfold Addr.add; split <;> simp_all
  rw [hadd, cell_of_row _ _ j _ _ _ hb]
  simpa using hj

/-- What 'some' has gathered. -/
structure Gathered (s : Sh) (H : Nat → Bool) (n : Nat) (H' : Nat → Bool) (T : List Nat) : Prop where
  len : T.length ≤ n
  nodup : T.Nodup
  mem : ∀ q ∈ T, s.data ≤ q ∧ q < s.pages ∧ H q = true
  left : ∀ j, H' j = (H j && decide (j ∉ T))
  num : hc s H' + T.length = hc s H

theorem Gathered.start (s : Sh) (H : Nat → Bool) (n : Nat) : Gathered s H n H [] := ⟨by simp, by simp, by simp, by simp, by simp⟩
theorem Gathered.step {s : Sh} {H H' : Nat → Bool} {n q : Nat} {T : List Nat} (h : Gathered s H n H' T) (hn : T.length < n) (h1 : s.data ≤ q) (h2 : q < s.pages) (hq : H' q = true) : Gathered s H n (upd H' q false) (T ++ [q]) := by
  have hl := h.left q
  rw [hq] at hl
  have hl2 := Bool.and_eq_true_iff.1 hl.symm
  have hH : H q = true := hl2.1
  have hT : q ∉ T := of_decide_eq_true hl2.2
  refine ⟨by simp; omega, ?_, ?_, ?_, ?_⟩
  · rw [List.nodup_append]; exact ⟨h.nodup, by simp, by intro a ha b hb; simp at hb; rintro rfl; exact hT (hb ▸ ha)⟩
  · intro x hx
    rcases List.mem_append.1 hx with hx | hx
    · exact h.mem x hx
    · simp at hx; subst hx; exact ⟨h1, h2, hH⟩
  · intro j
    unfold upd
    by_cases hj : j = q
    · subst hj; simp
    · simp [hj, h.left j]
  · have := hc_upd (H := H') (b := false) h1 h2
    rw [hq] at this
    have h3 := h.num
    simp at this ⊢; omega

/-- What 'some' leaves. -/
def SomeP (s : Sh) (H : Nat → Bool) (n k hb : Nat) (w : World) (v : Value) (w' : World) : Prop :=
  ∃ T H', NumAt w' w.heap.size v T ∧ Gathered s H n H' T ∧ (T.length = n ∨ ∀ j, s.data ≤ j → j < s.pages → H' j = false) ∧ BookAt w' k hb s H' (hc s H') ∧ Keeps (fun j => (j = k ∨ j = hb) ∨ w.heap.size ≤ j) w w'

set_option maxHeartbeats 4000000 in
set_option maxRecDepth 20000 in
theorem some_any (w : World) (k hb : Nat) (s : Sh) (hg : s.Good) (H : Nat → Bool) (hbk : BookAt w k hb s H (hc s H)) (n at_ : Nat) (hn : n ≤ 2000) (hat : at_ ≤ 2000) :
    Calls Try.prog 42 #[.pointer (some ⟨k, 0, none⟩), .int .i64 n, .int .i64 at_] w fun e w' => ∃ v, e = .returned v ∧ SomeP s H n k hb w v w' := by
  obtain ⟨i0, hi, hz0, hz1, hz2⟩ := info_parts info3
  have hpg : s.pages ≤ 1024 := hg.2.1
  have h9 : s.data + 8 ≤ s.pages := hg.2.2.2.2.2.2.2.2
  obtain ⟨k0, k2, k3, k4, k5, kf⟩ := hbk.cells
  obtain ⟨D, hD⟩ : ∃ D, D = s.pages - s.data := ⟨_, rfl⟩
  have hsub : IntKind.i64.wrap ((s.pages : Int) - (s.data : Int)) = (D : Int) := by rw [i64_id (by omega) (by omega)]; omega
  have hsub2 : (s.pages : Int) - (s.data : Int) = (D : Int) := by omega
  have hD1 : 8 ≤ D := by omega
  have hD2 : s.data + D = s.pages := by omega
  have HB0 := Hid.mk' hbk
  have hkl := heap_lt hbk.at_
  have hhl := heap_lt hbk.held
  clear hbk kf hD hg
  go_enter Try.func42, Try.ntmps42
  go_wp2
  go_quiet (fail)
  go_wp2
  go_loopw [7, 9] (fun v kv wr => ∃ (t : Nat) (T : List Nat) (H' : Nat → Bool), t ≤ D ∧ T.length ≤ t ∧ kv = .int .i64 t ∧ wr.ownsRow w.heap.size 3 1 v T.length (intCells T) ∧ Hid (Gathered s H n H' T ∧ (∀ i, i < t → H' (s.data + (at_ + i) % D) = false) ∧ BookAt wr k hb s H' (hc s H') ∧ Keeps (fun j => (j = k ∨ j = hb) ∨ w.heap.size ≤ j) w wr)) (fun _ kv _ => D - (intOf kv).toNat)
  case atStart => exact ⟨0, [], H, by omega, by simp, rfl, NumAt.nil _ _, Gathered.start s H n, fun i hi => by omega, HB0.out.kept (Keeps.drewN (fun _ => False) _ _) (by simp) (by simp), Keeps.drewN _ _ _⟩
  case round =>
    obtain ⟨t, T, H', ht, hTt, rfl, hown, hrel⟩ := hrel
    obtain ⟨p7, cap7, rfl⟩ := NumAt.eq_slice (B := w.heap.size) (w := wr) hown
    by_cases hlt : t < D
    · by_cases hln : T.length < n
      · have hQ : (at_ + t) % D < D := Nat.mod_lt _ (by omega)
        have hmod : ((at_ : Int) + (t : Int)).tmod (D : Int) = (((at_ + t) % D : Nat) : Int) := by rw [Int.tmod_eq_emod_of_nonneg (by omega)]; rfl
        have hs1 : IntKind.i64.wrap ((at_ : Int) + (t : Int)) = (at_ : Int) + (t : Int) := i64_id (by omega) (by omega)
        have HVIS := Hid.mk' hrel.out.2.1
        have hs2 : IntKind.i64.wrap (((at_ + t) % D : Nat) : Int) = (((at_ + t) % D : Nat) : Int) := i64_id (by omega) (by omega)
        generalize hr : (at_ + t) % D = r at *
        have HR := Hid.mk' hr
        have hs3 : IntKind.i64.wrap ((s.data : Int) + (r : Int)) = (s.data : Int) + (r : Int) := i64_id (by omega) (by omega)
        have hs4 : (s.data : Int) + (r : Int) < (s.pages : Int) := by omega
        have hs5 : (0 : Int) ≤ (s.data : Int) + (r : Int) := by omega
        have hs6 : ((s.data : Int) + (r : Int)).toNat = s.data + r := by omega
        have hlt' : (t : Int) < (D : Int) := by omega
        have hln' : (T.length : Int) < (n : Int) := by omega
        have hDz : ¬ (D : Int) = 0 := by omega
        have hDz2 : ¬ D = 0 := by omega
        obtain ⟨c0, c2, c3, c4, c5, cf⟩ := hrel.out.2.2.1.cells
        have hbit := hrel.out.2.2.1.bit (s.data + r) (by omega)
        have hbf := hrel.out.2.2.1.bit_frozen (s.data + r)
        have cf5 := cf 5
        have HREL := hrel
        have HOWN := Hid.mk' (show NumAt wr w.heap.size (.slice p7 T.length cap7) T from hown)
        clear hrel cf hr hown
        cases hH : H' (s.data + r) with
        | false =>
          rw [hH] at hbit
          have HH := Hid.mk' hH
          clear hH
          go_wp2
          go_quiet (fail)
          go_wp2
          go_roundw
          case rel =>
            refine ⟨t + 1, T, H', by omega, by omega, by go_num, HOWN.out, HREL.out.1, ?_, HREL.out.2.2.1.kept (Keeps.drewN (fun _ => False) _ _) (by simp) (by simp), HREL.out.2.2.2.trans (Keeps.drewN _ _ _)⟩
            intro i hi
            by_cases h : i = t
            · rw [h, HR.out]; exact HH.out
            · exact HVIS.out i (by omega)
          case measure => simp [intOf]; omega
        | true =>
          rw [hH] at hbit
          have hup := hc_upd (s := s) (H := H') (q := s.data + r) (b := false) (by omega) (by omega)
          rw [hH] at hup
          simp only [Bool.toNat_true, Bool.toNat_false, Nat.add_zero] at hup
          have HH := Hid.mk' hH
          obtain ⟨s1, s2⟩ := HREL.out.2.2.1.setBit (s.data + r) false
          obtain ⟨s3, s4⟩ := s1.setMany (hc s (upd H' (s.data + r) false))
          have hcb := hc_le s H'
          rw [← hup] at s1 c5
          obtain ⟨M, hMe⟩ : ∃ M, M = hc s (upd H' (s.data + r) false) := ⟨_, rfl⟩
          rw [← hMe] at s1 c5 s3 s4
          have HME := Hid.mk' hMe
          have hMb : M ≤ 2000 := by omega
          clear hMe
          have m5 := s1.cells.2.2.2.2.1
          have mf := s1.cells.2.2.2.2.2 5
          have hM : IntKind.i64.wrap (M : Int) = (M : Int) := i64_id (by omega) (by omega)
          have HFIN := Hid.mk' (And.intro s3 (s2.trans s4))
          clear hH s1 s2 s3 s4 hup
          go_wp2
          go_quiet (fail)
          have m5' : ((wr.drewN nq).setCell ⟨hb, s.data + r, none⟩ (.bool false)).cell? ⟨k, 5, none⟩ = some (.int .i64 ((M + 1 : Nat) : Int)) := m5
          have mf' : ((wr.drewN nq).setCell ⟨hb, s.data + r, none⟩ (.bool false)).frozen? ⟨k, 5, none⟩ = false := mf
          clear m5 mf
          have hK5 : Keeps (fun j => j = k ∨ j = hb) wr (((wr.drewN nq).setCell ⟨hb, s.data + r, none⟩ (.bool false)).setCell ⟨k, 5, none⟩ (.int .i64 (M : Int))) := HFIN.out.2.trans ⟨rfl, rfl, rfl, Nat.le_refl _, fun _ _ _ => rfl⟩
          have HO5 : Hid (NumAt (((wr.drewN nq).setCell ⟨hb, s.data + r, none⟩ (.bool false)).setCell ⟨k, 5, none⟩ (.int .i64 (M : Int))) w.heap.size (.slice p7 T.length cap7) T) := by
            refine HOWN.out.kept hK5 ?_
            intro g hg hx
            have := (HOWN.out.lt g hg).1
            omega
          have hW5s : (((wr.drewN nq).setCell ⟨hb, s.data + r, none⟩ (.bool false)).setCell ⟨k, 5, none⟩ (.int .i64 (M : Int))).heap.size = wr.heap.size := by simp
          have HNEWS : Hid (∀ j u, [Value.int .i64 ((s.data : Int) + (r : Int))][j]? = some u → ((((wr.drewN nq).setCell ⟨hb, s.data + r, none⟩ (.bool false)).setCell ⟨k, 5, none⟩ (.int .i64 (M : Int))).alloc (.cells #[.int .i64 ((s.data : Int) + (r : Int))] 3)).cell? ((⟨wr.heap.size, 0, none⟩ : Addr).add j) = some u) := by
            have := news1 (((wr.drewN nq).setCell ⟨hb, s.data + r, none⟩ (.bool false)).setCell ⟨k, 5, none⟩ (.int .i64 (M : Int))) (.int .i64 ((s.data : Int) + (r : Int))) 3
            rw [hW5s] at this
            exact this
          have HOB := Hid.mk' HOWN.out.lt
          have hws := HREL.out.2.2.2.size
          go_wp2_with (first
            | (at_builtin; go_must (refine wpList_append_lies _ rfl _ _ 49 rfl w.heap.size 3 i0 (.int .i64 0) 1 8 Try.underlying49 hi hz0 hz1 hz2 rfl (by decide) _ T.length (intCells T) rfl (World.ownsRow.alloc HO5.out _) ⟨wr.heap.size, 0, none⟩ 1 1 [.int .i64 ((s.data : Int) + (r : Int))] rfl rfl HNEWS.out (by simp [Value.oneCell']) (by decide) (by unfold maxLen; omega) (by omega) (by simp; omega) (wr.heap.size + 1) (by simp) ?_); intro g2 c2 w6 hown2 hgrow2 hloc2 hlt2))
          go_roundw
          case rel =>
            have ec : intCells T ++ [.int .i64 ((s.data : Int) + (r : Int))] = intCells (T ++ [s.data + r]) := by simp [intCells]
            have k6 : Keeps (fun j => (j = k ∨ j = hb) ∨ w.heap.size ≤ j) wr w6 := by
              refine ((hK5.mono (fun j _ hj => Or.inl hj)).step (World.grownBy_alloc _ _ none) (by simp)).step hgrow2 ?_
              intro g hg
              exact Or.inl (Or.inr (HOB.out g hg).1)
            refine ⟨t + 1, T ++ [s.data + r], upd H' (s.data + r) false, by omega, by simp; omega, by go_num, ?_, HREL.out.1.step hln (by omega) (by omega) HH.out, ?_, ?_, HREL.out.2.2.2.then k6 (fun j hj => Or.inl hj)⟩
            · rw [ec] at hown2
              rw [List.length_append]
              exact hown2
            · intro i hi
              by_cases h : i = t
              · rw [h, HR.out]; exact upd_same _ _ _
              · unfold upd
                split
                · rfl
                · exact HVIS.out i (by omega)
            · have hbb := HFIN.out.1
              have kk : Keeps (fun j => w.heap.size ≤ j) (((wr.drewN nq).setCell ⟨hb, s.data + r, none⟩ (.bool false)).setCell ⟨k, 5, none⟩ (.int .i64 (M : Int))) w6 := (Keeps.of (X := fun j => w.heap.size ≤ j) (World.grownBy_alloc _ _ none) (by simp)).step hgrow2 (fun g hg => Or.inl (HOB.out g hg).1)
              rw [← HME.out]
              exact (show BookAt (((wr.drewN nq).setCell ⟨hb, s.data + r, none⟩ (.bool false)).setCell ⟨k, 5, none⟩ (.int .i64 (M : Int))) k hb s (upd H' (s.data + r) false) M from ⟨hbb.at_, hbb.held, hbb.ne⟩).kept kk (by omega) (by omega)
          case measure => simp [intOf]; omega
      · have hln' : ¬ (T.length : Int) < (n : Int) := by omega
        have hlt' : (t : Int) < (D : Int) := by omega
        have HREL := hrel
        have HOWN := Hid.mk' (show NumAt wr w.heap.size (.slice p7 T.length cap7) T from hown)
        have HF := Hid.mk' (show T.length = n by have := hrel.out.1.len; omega)
        clear hrel hown
        go_wp2
        go_ret
        exact ⟨_, rfl, T, H', HOWN.out, HREL.out.1, Or.inl HF.out, HREL.out.2.2.1, HREL.out.2.2.2⟩
    · have hlt' : ¬ (t : Int) < (D : Int) := by omega
      have HREL := hrel
      have HOWN := Hid.mk' (show NumAt wr w.heap.size (.slice p7 T.length cap7) T from hown)
      have HT := Hid.mk' (show t = D by omega)
      clear hrel hown
      go_wp2
      go_ret
      refine ⟨_, rfl, T, H', HOWN.out, HREL.out.1, Or.inr ?_, HREL.out.2.2.1, HREL.out.2.2.2⟩
      intro j h1 h2
      have := HREL.out.2.1 ((j - s.data + (D - at_ % D)) % D) (by rw [HT.out]; exact Nat.mod_lt _ (by omega))
      rwa [show s.data + (at_ + (j - s.data + (D - at_ % D)) % D) % D = j from ?_] at this
      have h3 : (at_ + (j - s.data + (D - at_ % D)) % D) % D = j - s.data := by
        rw [Nat.add_mod, Nat.mod_mod, ← Nat.add_mod]
        have h4 : at_ % D < D := Nat.mod_lt _ (by omega)
        have h5 : at_ + (j - s.data + (D - at_ % D)) = (j - s.data) + D * (at_ / D + 1) := by
          have := Nat.div_add_mod at_ D
          rw [Nat.mul_add]; omega
        rw [h5, Nat.add_mul_mod_self_left, Nat.mod_eq_of_lt (by omega)]
      omega

end Go.Proofs.Ytnafocbgapianab
