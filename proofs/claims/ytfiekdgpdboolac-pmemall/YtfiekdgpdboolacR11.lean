import Derived.Test.YtfiekdgpdboolacV6
import Derived.RegionTactic
namespace Go.Proofs.Ytfiekdgpdboolac
open Go.RowKit Go.Maps

set_option maxHeartbeats 4000000 in
set_option maxRecDepth 20000 in
theorem make_again (w : World) (B bb : Nat) (dd rr : Nat → Nat) (HH : Nat → Nat → Prop) (N : Int) (D a n v : Int) (pB pL : Option Addr) (lB : Nat) (cs : List Int) (cB cL : Nat) (h : TrioAt w B bb dd rr HH N) (hB : B ≤ w.heap.size) (hN : 0 ≤ N) (hN1 : N ≤ 50000000)
    (hLL : IntsAt w pL cs) (hl : cs.length ≤ maxLen) :
    Calls Try.prog 12 #[.pointer (some ⟨bb, 0, none⟩), .agg (opCells 3 D a n v pB pL lB cs.length cB cL)] w fun e w' => e = .returned (.bool true) ∧ TrioMoved B bb N w w' := by
  have hkA : Keeps (fun _ => False) w (w.alloc (.cells (opCells 3 D a n v pB pL lB cs.length cB cL) 32)) := Keeps.of (World.grownBy_alloc w _ none) (by simp)
  obtain ⟨x0, x1, x2, x3, x4, x5, x6⟩ := op_cells (H := fun _ => False) (Keeps.refl (fun _ => False) (w.alloc (.cells (opCells 3 D a n v pB pL lB cs.length cB cL) 32))) (by simp)
  have hpl := fun w => place_any D w
  have hi := placeOf_lt D
  generalize placeOf D = i at *
  have hpn := fun w => place_any n w
  have hj := placeOf_lt n
  generalize placeOf n = j at *
  have htA := h.kept hkA (by simp)
  obtain ⟨b1, b2⟩ := htA.cell hj
  obtain ⟨F, G, S, L, R, M, p1, p2, p3, p4, p5, p6⟩ := htA.pair j hj
  have hcr : ∀ wr, Keeps (fun _ => False) (w.alloc (.cells (opCells 3 D a n v pB pL lB cs.length cB cL) 32)) wr → Calls Try.prog 18 #[.pointer (some ⟨rr j, 0, none⟩), .slice pL cs.length cL] wr fun e w' => e = .returned (.slice (some ⟨wr.heap.size, 0, none⟩) (64 * R.n : Nat) (64 * R.n : Nat)) ∧ w'.heap[wr.heap.size]? = some (.cells (u8s (wordsB (R.crashW cs) (64 * R.n))).toArray 5 (0, 0)) ∧ Keeps (fun _ => False) wr w' := fun wr k =>
    rcrash_any wr G (rr j) R M pL cL cs (p2.kept k (by simp)) (by omega) hl (hLL.kept (hkA.trans k) (by simp))
  have HR := Hid.mk' (show 8 ≤ R.n ∧ R.n ≤ 8192 ∧ R.n % 8 = 0 from ⟨p3.nb.1, p3.nb.2, p3.n8⟩)
  have HT := Hid.mk' (show TrioAt w B bb dd rr HH N ∧ B ≤ w.heap.size ∧ i < 3 from ⟨h, hB, hi⟩)
  have HKA := Hid.mk' hkA
  have HCR := Hid.mk' hcr
  have hi0 : (0 : Int) ≤ (i : Int) := by omega
  have hi3 : (i : Int) < 3 := by omega
  have hj0 : (0 : Int) ≤ (j : Int) := by omega
  have hj3 : (j : Int) < 3 := by omega
  clear h hkA htA p1 p2 p3 p4 p5 p6 hcr hLL
  go_enter Try.func12, Try.ntmps12
  go_upto_region 9 with (first
    | (go_at_call 11; refine (hpl _).mono ?_; rintro e w' ⟨rfl, hw⟩; subst w'; clear hpl))
  go_region_with (first
    | (go_at_call 11; refine (hpn _).mono ?_; rintro e w' ⟨rfl, hw⟩; subst w')
    | (go_at_call 18; refine (HCR.out _ (by exact ⟨rfl, rfl, rfl, Nat.le_refl _, fun _ _ _ => rfl⟩)).mono ?_; rintro e w1 ⟨rfl, hb1, hk1⟩))
  all_goals
    have hk01 : Keeps (fun _ => False) w w1 := HKA.out.trans (Keeps.trans (by exact ⟨rfl, rfl, rfl, Nat.le_refl _, fun _ _ _ => rfl⟩) hk1)
    have hgl := heap_lt hb1
    obtain ⟨Nn, hNn⟩ : ∃ Nn : Nat, Nn = 64 * R.n := ⟨_, rfl⟩
    obtain ⟨bs, hbs⟩ : ∃ bs, bs = wordsB (R.crashW cs) (64 * R.n) := ⟨_, rfl⟩
    have hbl : bs.length = Nn := by rw [hbs, hNn]; simp [wordsB]
    rw [← hbs] at hb1
    have HBY : Hid (∀ b ∈ bs, 0 ≤ b ∧ b ≤ 255) := fun b hb => by
      rw [hbs] at hb
      simp only [wordsB, List.mem_map] at hb
      obtain ⟨x, _, rfl⟩ := hb
      exact byteOf_bd _ _
    have hba : BytesAt w1 (some ⟨w.heap.size + 1, 0, none⟩) bs := fun _ => ⟨w.heap.size + 1, 0, rfl, by simpa using hgl, fun i hi => by rw [Nat.zero_add]; exact cells_u8 (by simpa using hb1) i hi⟩
    have hHR := HR.out
    rw [← hNn]
    have hcp := copyB_any w1 (some ⟨w.heap.size + 1, 0, none⟩) Nn bs hba (by omega)
    rw [hbl] at hcp
    have HBA := Hid.mk' hba
    have HK01 := Hid.mk' hk01
    have HM := Hid.mk' (show Nn = 64 * R.n ∧ bs.length = Nn ∧ 512 ≤ Nn ∧ Nn ≤ 524288 ∧ Nn % 512 = 0 from ⟨hNn, hbl, by omega, by omega, by omega⟩)
    have hN512 : 512 ≤ Nn := by omega
    have hNmax : Nn ≤ 524288 := by omega
    clear hbs hba hk01 hk1 hb1 hgl hHR HCR hpn x0 x1 x2 x3 x4 x5 x6 b1 b2 hNn hbl
    go_wp2_with (first
      | (go_at_call 19; refine hcp.mono ?_; rintro e w2 ⟨vi, rfl, hown, hk2⟩
         obtain ⟨pi, ci, hvi, hpi⟩ := row_form hown
         subst hvi
         obtain ⟨gi, rfl⟩ := hpi (by omega)
         have hld := load_yes ⟨gi, 0, none⟩ Nn ci (u8s bs) w2 HM.out.2.2.1 HM.out.2.2.2.1 HM.out.2.2.2.2 (by simp [u8s]; exact HM.out.2.1) (fun j v hj => by
           rw [addr_add', Nat.zero_add, hown.cellAt j (by have := (List.getElem?_eq_some_iff.1 hj).1; have := HM.out.2.1; simp [u8s] at *; omega)]; exact hj) (by intro v hv; simp only [u8s, List.mem_map] at hv; obtain ⟨_, _, rfl⟩ := hv; rfl) (hown.lt gi rfl).2
         have H2 := Hid.mk' (show w2.ownsRow w1.heap.size 5 1 (.slice (some ⟨gi, 0, none⟩) Nn ci) Nn (u8s bs) ∧ Keeps (fun _ => False) w w2 ∧ Keeps (fun _ => False) w1 w2 from ⟨hown, HK01.out.trans hk2, hk2⟩)
         clear hcp hown hk2 hpi)
      | (go_at_call 20; refine hld.mono ?_; rintro e w3 ⟨rfl, l1, l2, l3, l4, l5⟩
         have hk3 : Keeps (fun _ => False) w2 w3 := Keeps.of l4 (by simp)
         have hrl := rload_yes w3 (some ⟨w.heap.size + 1, 0, none⟩) Nn R.n Nn bs HM.out.2.1 HM.out.2.2.1 HM.out.2.2.2.1 HM.out.2.2.2.2 HM.out.1 HBY.out (by
           obtain ⟨b, o, e1, e2, e3⟩ := (HBA.out.kept (H2.out.2.2.trans hk3) (by simp)) (by have := HM.out.2.1; omega)
           exact ⟨b, o, e1, e2, fun i hi => e3 i (by have := HM.out.2.1; omega)⟩)
         have H3 := Hid.mk' (show (w3.heap[w2.heap.size]? = some (.cells (u8s bs).toArray 5 (0, 0)) ∧ w3.heap[w2.heap.size + 1]? = some (.map #[] 0) ∧ w3.heap[w2.heap.size + 2]? = some (devCells (.slice (some ⟨w2.heap.size, 0, none⟩) Nn Nn) (.map (some (w2.heap.size + 1))) 0 0 false 0)) ∧ Keeps (fun _ => False) w2 w3 from ⟨⟨l1, l2, l3⟩, hk3⟩)
         clear hld l1 l2 l3 l4 l5 hk3)
      | (go_at_call 21; refine hrl.mono ?_; rintro e w4 ⟨r, rfl, hr4⟩
         have hk4 := hr4.choose_spec.choose_spec.2.1
         have hk24 := H3.out.2.trans hk4
         have hsm := sameB_yes w4 (some ⟨gi, 0, none⟩) (some ⟨w.heap.size + 1, 0, none⟩) ci Nn bs (bytesAt_row (hk24.row H2.out.1 (by simp)) HM.out.2.1) (HBA.out.kept (H2.out.2.2.trans hk24) (by simp)) (by have := HM.out.2.1; omega)
         rw [HM.out.2.1] at hsm
         have H4 := Hid.mk' (show (∃ F M, RefAt w4 F r (Rf.load R.n bs) M ∧ Keeps (fun _ => False) w3 w4 ∧ ∀ k, F k → w3.heap.size ≤ k) ∧ Keeps (fun _ => False) w2 w4 from ⟨hr4, hk24⟩)
         clear hrl hr4 hk4 hk24)
      | (go_at_call 22; refine hsm.mono ?_; rintro e w5 ⟨rfl, qq, hw5⟩
         have HW5 := Hid.mk' (H4.out.2.trans (keeps_drewN' (fun _ => False) _ _ _ hw5))
         have HW45 := Hid.mk' (keeps_drewN' (fun _ => False) _ _ _ hw5)
         clear hsm hw5))
    have HGI : Hid (w.heap.size ≤ gi ∧ gi < w2.heap.size) := by
      have h7 := H2.out.1.lt gi rfl
      have h8 := HK01.out.size
      exact ⟨by omega, h7.2⟩
    go_loopw [12] (fun i wr => ∃ k : Nat, k ≤ Nn ∧ i = .int .i64 k ∧ Hid (OwnB gi Nn wr ∧ Keeps (fun j => j = gi) w5 wr)) (fun i _ => Nn - (intOf i).toNat)
    case atStart => exact ⟨0, by omega, rfl, (ownB_row H2.out.1 HM.out.2.1).kept HW5.out (by simp), Keeps.refl _ _⟩
    case round =>
      obtain ⟨k, hk, rfl, hrel⟩ := hrel
      by_cases hlt : k < Nn
      · obtain ⟨x, hx⟩ := hrel.out.1.cell hlt
        have hfz := hrel.out.1.free k
        have hlt' : (k : Int) < (Nn : Int) := by omega
        have hk0 : (0 : Int) ≤ (k : Int) := by omega
        go_wp2
        go_roundw
        case rel => exact ⟨k + 1, by omega, by go_num, hrel.out.1.set k _, hrel.out.2.step (grownBy_setCell wr ⟨gi, k, none⟩ _) (by rintro j e; cases e; exact Or.inl rfl)⟩
        case measure => simp [intOf]; omega
      · obtain rfl : Nn = k := by omega
        have hkW : Keeps (fun j => w.heap.size ≤ j) w wr := ((H2.out.2.1.trans HW5.out).mono fun _ _ h => h.elim).trans (hrel.out.2.mono fun j _ e => by rw [e]; exact HGI.out.1)
        have ht6 := HT.out.1.kept hkW (fun i hi => hi)
        obtain ⟨b1, b2⟩ := ht6.cell HT.out.2.2
        have f1 := both_free ht6 i
        obtain ⟨b3, f3⟩ := both_next (d := w2.heap.size + 2) ht6 HT.out.2.2
        have hlt' : ¬ (Nn : Int) < (Nn : Int) := by omega
        have H6 := Hid.mk' (show TrioAt wr B bb dd rr HH N ∧ Keeps (fun j => w.heap.size ≤ j) w wr ∧ Keeps (fun j => j = gi) w5 wr from ⟨ht6, hkW, hrel.out.2⟩)
        clear hrel ht6 hkW hlt hk
        go_wp2
        go_ret
        refine ⟨rfl, ?_⟩
        obtain ⟨q1, q0, q2, q3, q4⟩ := HM.out
        refine trio_put H6.out.1 HT.out.1 (H6.out.2.1.mono fun j _ h => Nat.le_trans hB h) HT.out.2.2 hN hB ?_ rfl
        obtain ⟨H, p1, p2⟩ := pair_new (w := w2) (n := Nn) (m := R.n) (r := r) q3 q1 (by have := HR.out; omega) ⟨HR.out.1, HR.out.2.1⟩ bs (Rf.load R.n bs) q0 HBY.out (rel_load R.n bs (by rw [q0, q1]) (by have := HR.out; omega) ⟨HR.out.1, HR.out.2.1⟩) H3.out.1 H4.out.1 (Int.le_refl 0)
        have p3 := (p1.kept HW45.out (by simp)).kept H6.out.2.2 (fun j hj e => by have := p2 j hj; have := HGI.out.2; omega)
        exact ⟨H, p3, fun k hk => Nat.le_trans H2.out.2.1.size (p2 k hk)⟩

end Go.Proofs.Ytfiekdgpdboolac
