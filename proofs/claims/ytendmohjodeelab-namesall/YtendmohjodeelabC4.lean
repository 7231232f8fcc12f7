import Derived.Test.YtendmohjodeelabC3
namespace Go.Proofs.Ytendmohjodeelab
open Go.RowKit Go.Maps Go.Great

/-- What Put's loop holds. -/
def PuR (w wr : World) (x : Rw) (S : List Rw) (v : Value) (i : Nat) (dn : Bool) : Prop :=
  RowB wr w.heap.size v (putL x (S.take i) dn) ∧ PutI x (S.take i) dn ∧ Keeps (fun _ => False) w wr

theorem own_new {w wr w' : World} {v : Value} {A : List Rw} (k : Keeps (fun _ => False) w wr) (h : RowB wr w.heap.size v A) (hg : wr.grownBy w' v.ownBlock) : Keeps (fun _ => False) w w' :=
  k.step hg (fun k hk => Or.inr (World.ownsRow.lt h k hk).1)
theorem putL_len (x : Rw) (A : List Rw) (dn : Bool) : (putL x A dn).length ≤ A.length + 1 := by
  unfold putL; split
  · rw [ins_len]; exact Nat.le_refl _
  · omega

theorem ref_set {w wr : World} {y base : Nat} {v v0 : Value} {S : List Rw} (k : Keeps (fun _ => False) w wr) (hy : wr.heap[y]? = some (.cells #[v0] 74 (0, 0))) (h : RowB wr base v S) : RefAt (wr.setCell ⟨y, 0, none⟩ v) y S ∧ Keeps (fun i => i = y) w (wr.setCell ⟨y, 0, none⟩ v) := by
  have hk : Keeps (fun i => i = y) wr (wr.setCell ⟨y, 0, none⟩ v) := Keeps.of (grownBy_setCell wr ⟨y, 0, none⟩ v) (by rintro i e; cases e; exact Or.inl rfl)
  refine ⟨⟨v, ?_, h.row.keep hk (by rintro i rfl c f e; rw [hy] at e; cases e)⟩, (k.mono (fun _ _ h => h.elim)).trans hk⟩
  have := setCell_block (w := wr) (a := ⟨y, 0, none⟩) (v := v) hy rfl
  simpa using this

theorem RowR.shape' {w : World} {v : Value} {S : List Rw} (h : RowR w v S) : ∃ p n cap, v = .slice p n cap := by
  obtain ⟨p, c, e⟩ := h.shape; exact ⟨p, _, c, e⟩

/-- The row's own block stays while another row is made longer. -/
theorem app_cell {w wr w' : World} {v : Value} {A : List Rw} {o : Obj} {qd : Int} {qs : ByteArray} {qi : Int} (hr : RowB wr w.heap.size v A) (hg : ((wr.alloc (.cells #[.int .i64 qd, .string qs, .int .i64 qi] 89)).alloc o).grownBy w' v.ownBlock) :
    w'.cell? ⟨wr.heap.size, 0, none⟩ = some (.int .i64 qd) ∧ w'.cell? ⟨wr.heap.size, 1, none⟩ = some (.string qs) ∧ w'.cell? ⟨wr.heap.size, 2, none⟩ = some (.int .i64 qi) := by
  have hb : w'.heap[wr.heap.size]? = some (.cells #[.int .i64 qd, .string qs, .int .i64 qi] 89 (0, 0)) := by
    rw [hg.block wr.heap.size (by simp; omega) (fun e => by have := (World.ownsRow.lt hr _ e.symm).2; omega)]
    rw [(MapKept.heap_alloc _ _).2 _ (by simp)]
    exact heap_alloc_last wr _
  refine ⟨?_, ?_, ?_⟩
  · rw [cell_of_row _ _ 0 _ 89 (0, 0) hb]; rfl
  · rw [cell_of_row _ _ 1 _ 89 (0, 0) hb]; rfl
  · rw [cell_of_row _ _ 2 _ 89 (0, 0) hb]; rfl

set_option maxHeartbeats 4000000 in
set_option maxRecDepth 100000 in
theorem ref_put_new (w : World) (y : Nat) (S : List Rw) (h : RefAt w y S) (d : Int) (s : ByteArray) (n : Int) (hd : isIno d = true) (hn : isIno n = true) (hv : valid s = true) (hh : hasS S d s = false) (hl : S.length < 4000000000000) :
    Calls Try.prog 39 #[.pointer (some ⟨y, 0, none⟩), .int .i64 d, .string s, .int .i64 n] w fun e w' => e = .returned (.int .i64 0) ∧ Hid (RefAt w' y (insS (d, s, n) S) ∧ Keeps (fun k => k = y) w w') := by
  have h59 := number_any
  have h60 := good_any s
  rw [hv] at h60
  have h61 := find_any w y S h d s hl
  rw [fnd_none hh] at h61
  obtain ⟨vr, hy, hr⟩ := h
  obtain ⟨p, cap, rfl⟩ := hr.shape
  have c0 := (refcell hy).1
  have HY : Hid (w.heap[y]? = some (.cells #[.slice p S.length cap] 74 (0, 0)) ∧ RowR w (.slice p S.length cap) S) := ⟨hy, hr⟩
  clear hy hr hv hh
  go_enter Try.func39, Try.ntmps39
  go_wp2_with (first
    | (go_at_call 59; refine (h59 _ _).mono ?_; rintro e w0 ⟨rfl, hw0⟩; subst w0; first | rw [hd] | rw [hn])
    | (go_at_call 60; refine (h60 _).mono ?_; rintro e w0 ⟨rfl, hw0⟩; subst w0)
    | (go_at_call 61; refine h61.mono ?_; rintro e w0 ⟨rfl, hw0⟩; subst w0))
  clear h59 h60 h61
  go_loopw [10, 11, 12] (fun v dv i wr => ∃ k : Nat, k ≤ S.length ∧ i = .int .i64 k ∧ ∃ dn : Bool, dv = .bool dn ∧ Hid (PuR w wr (d, s, n) S v k dn)) (fun _ _ i _ => S.length - (intOf i).toNat)
  case atStart => exact ⟨0, Nat.zero_le _, rfl, false, rfl, ⟨rfl, Or.inl ⟨rfl, rfl⟩⟩, ⟨(fun e => by cases e), (fun _ r hr => absurd hr (by simp))⟩, Keeps.refl _ _⟩
  case round =>
    obtain ⟨k, hk, rfl, dn, rfl, HR⟩ := hrel
    have c1 := HR.out.2.2.cell c0 (fun h => h)
    by_cases h1 : k < S.length
    · obtain ⟨g, rfl, hc⟩ := HY.out.2.at (by omega)
      obtain ⟨q0, q1, q2⟩ := hc k h1
      have q0 := HR.out.2.2.cell q0 (fun h => h)
      have q1 := HR.out.2.2.cell q1 (fun h => h)
      have q2 := HR.out.2.2.cell q2 (fun h => h)
      have HT : Hid (S.take (k + 1) = S.take k ++ [S.getD k rz]) := take_getD rz h1
      generalize S.getD k rz = q at *
      obtain ⟨qd, qs, qi⟩ := q
      simp only at q0 q1 q2
      have h1' : (k : Int) < (S.length : Int) := by omega
      have HLN : Hid ((putL (d, s, n) (S.take k) dn).length < 4000000000001) := by
        have := putL_len (d, s, n) (S.take k) dn
        simp only [List.length_take] at this
        show _ < _
        omega
      have HSZ : Hid (w.heap.size ≤ wr.heap.size) := HR.out.2.2.size
      have b1 : ∀ W : World, (W.alloc (.cells #[.int .i64 qd, .string qs, .int .i64 qi] 89)).cell? ⟨W.heap.size, 0, none⟩ = some (.int .i64 qd) := fun W => by rw [cell_of_row _ _ 0 _ 89 (0, 0) (heap_alloc_last W _)]; rfl
      clear hc
      rcases Bool.eq_false_or_eq_true dn with rfl | rfl
      · have HN1 : Hid (((wr.alloc (.cells #[.int .i64 qd, .string qs, .int .i64 qi] 89)).alloc (.cells #[.int .i64 qd, .string qs, .int .i64 qi] 89)).heap[wr.heap.size + 1]? = some (.cells #[.int .i64 qd, .string qs, .int .i64 qi] 89 (0, 0))) := by
          have := heap_alloc_last (wr.alloc (.cells #[.int .i64 qd, .string qs, .int .i64 qi] 89)) (.cells #[.int .i64 qd, .string qs, .int .i64 qi] 89)
          rwa [World.size_alloc] at this
        go_wp2_with (first
          | (at_builtin; go_must (refine wpList_app _ rfl _ _ rfl w.heap.size _ _ (qd, qs, qi) rfl ((HR.out.1.alloc (.cells #[.int .i64 qd, .string qs, .int .i64 qi] 89)).alloc _) (wr.heap.size + 1) rfl HN1.out (by have := HLN.out; omega) (by have := HSZ.out; simp; omega) ?_); intro v3 w3 hrow3 hgr3))
        have HF : Hid (PuR w w3 (d, s, n) S v3 (k + 1) true) := by
          have hst := putI_step_done HR.out.2.1 (qd, qs, qi)
          have hk3 := own_new ((HR.out.2.2.alloc (.cells #[.int .i64 qd, .string qs, .int .i64 qi] 89)).alloc (.cells #[.int .i64 qd, .string qs, .int .i64 qi] 89)) ((HR.out.1.alloc (.cells #[.int .i64 qd, .string qs, .int .i64 qi] 89)).alloc (.cells #[.int .i64 qd, .string qs, .int .i64 qi] 89)) hgr3
          refine ⟨?_, by rw [HT.out]; exact hst.1, hk3⟩
          rw [HT.out, hst.2]; exact hrow3
        clear hrow3 hgr3
        go_roundw
        case rel => exact ⟨k + 1, by omega, by go_num, true, rfl, HF⟩
        case measure => simp [intOf]; omega
      · by_cases hlt : d < qd
        · have h2 : d < qd := hlt
          have HRL : Hid (rlt (d, s, n) (qd, qs, qi) = true) := by
            show rlt (d, s, n) (qd, qs, qi) = true
            simp [rlt, hlt]
          have HN2 : Hid (((wr.alloc (.cells #[.int .i64 qd, .string qs, .int .i64 qi] 89)).alloc (.cells #[.int .i64 d, .string s, .int .i64 n] 89)).heap[wr.heap.size + 1]? = some (.cells #[.int .i64 d, .string s, .int .i64 n] 89 (0, 0))) := by
            have := heap_alloc_last (wr.alloc (.cells #[.int .i64 qd, .string qs, .int .i64 qi] 89)) (.cells #[.int .i64 d, .string s, .int .i64 n] 89)
            rwa [World.size_alloc] at this
          go_wp2_with (first
            | (at_builtin; refine wpList_app _ rfl _ _ rfl w.heap.size _ _ (qd, qs, qi) rfl (hrow2.alloc _) w2.heap.size rfl (heap_alloc_last w2 _) (by have := HLN.out; simp; omega) (by have := HK2.out.size; simp; omega) ?_; intro v3 w3 hrow3 hgr3)
            | (at_builtin; go_must (refine wpList_app _ rfl _ _ rfl w.heap.size _ _ (d, s, n) rfl ((HR.out.1.alloc (.cells #[.int .i64 qd, .string qs, .int .i64 qi] 89)).alloc _) (wr.heap.size + 1) rfl HN2.out (by have := HLN.out; omega) (by have := HSZ.out; simp; omega) ?_); intro v2 w2 hrow2 hgr2; have HK2 : Hid (Keeps (fun _ => False) w w2) := own_new ((HR.out.2.2.alloc (.cells #[.int .i64 qd, .string qs, .int .i64 qi] 89)).alloc (.cells #[.int .i64 d, .string s, .int .i64 n] 89)) ((HR.out.1.alloc (.cells #[.int .i64 qd, .string qs, .int .i64 qi] 89)).alloc (.cells #[.int .i64 d, .string s, .int .i64 n] 89)) hgr2; have n0 := app_cell (hr := HR.out.1) hgr2; clear hgr2; obtain ⟨n0, n1, n2⟩ := n0))
          have HF : Hid (PuR w w3 (d, s, n) S v3 (k + 1) true) := by
            have hst := putI_step_here HR.out.2.1 (qd, qs, qi) HRL.out
            have hk3 := own_new (HK2.out.alloc (.cells #[.int .i64 qd, .string qs, .int .i64 qi] 89)) (hrow2.alloc (.cells #[.int .i64 qd, .string qs, .int .i64 qi] 89)) hgr3
            refine ⟨?_, by rw [HT.out]; exact hst.1, hk3⟩
            rw [HT.out, hst.2]; exact hrow3
          clear hrow3 hgr3 hrow2
          go_roundw
          case rel => exact ⟨k + 1, by omega, by go_num, true, rfl, HF⟩
          case measure => simp [intOf]; omega
        · have h3 : ¬ d < qd := hlt
          have h4 : qd ≤ d := by omega
          rcases Bool.eq_false_or_eq_true (decide (qd = d)) with hq | hq
          · have hq2 : (qd == d) = true := by simpa using hq
            have hqd : d = qd := by have : qd = d := by simpa using hq
                                    exact this.symm
            have HQD : Hid (d = qd) := hqd
            have hg := gtr_blt qs s
            clear hqd hq
            rcases Bool.eq_false_or_eq_true (Op.bytesLess qs.toList s.toList) with hb | hb
            · have hbl : blt s qs = false := by rw [← hg, hb]; rfl
              have HBL : Hid (blt s qs = false) := hbl
              clear hg hbl
              have HRL : Hid (rlt (d, s, n) (qd, qs, qi) = false) := by
                show rlt (d, s, n) (qd, qs, qi) = false
                simp [rlt, HBL.out]; have := HQD.out; omega
              have HN1 : Hid (((wr.alloc (.cells #[.int .i64 qd, .string qs, .int .i64 qi] 89)).alloc (.cells #[.int .i64 qd, .string qs, .int .i64 qi] 89)).heap[wr.heap.size + 1]? = some (.cells #[.int .i64 qd, .string qs, .int .i64 qi] 89 (0, 0))) := by
                have := heap_alloc_last (wr.alloc (.cells #[.int .i64 qd, .string qs, .int .i64 qi] 89)) (.cells #[.int .i64 qd, .string qs, .int .i64 qi] 89)
                rwa [World.size_alloc] at this
              go_wp2_with (first
                | (at_builtin; go_must (refine wpList_app _ rfl _ _ rfl w.heap.size _ _ (qd, qs, qi) rfl ((HR.out.1.alloc (.cells #[.int .i64 qd, .string qs, .int .i64 qi] 89)).alloc _) (wr.heap.size + 1) rfl HN1.out (by have := HLN.out; omega) (by have := HSZ.out; simp; omega) ?_); intro v3 w3 hrow3 hgr3))
              have HF : Hid (PuR w w3 (d, s, n) S v3 (k + 1) false) := by
                have hst := putI_step_on HR.out.2.1 (qd, qs, qi) HRL.out
                have hk3 := own_new ((HR.out.2.2.alloc (.cells #[.int .i64 qd, .string qs, .int .i64 qi] 89)).alloc (.cells #[.int .i64 qd, .string qs, .int .i64 qi] 89)) ((HR.out.1.alloc (.cells #[.int .i64 qd, .string qs, .int .i64 qi] 89)).alloc (.cells #[.int .i64 qd, .string qs, .int .i64 qi] 89)) hgr3
                refine ⟨?_, by rw [HT.out]; exact hst.1, hk3⟩
                rw [HT.out, hst.2]; exact hrow3
              clear hrow3 hgr3
              go_roundw
              case rel => exact ⟨k + 1, by omega, by go_num, false, rfl, HF⟩
              case measure => simp [intOf]; omega
            · rcases Bool.eq_false_or_eq_true (qs.toList == s.toList) with he | he
              · have hbl : blt s qs = false := by rw [← hg, hb, he]; rfl
                have HBL : Hid (blt s qs = false) := hbl
                clear hg hbl
                have HRL : Hid (rlt (d, s, n) (qd, qs, qi) = false) := by
                  show rlt (d, s, n) (qd, qs, qi) = false
                  simp [rlt, HBL.out]; have := HQD.out; omega
                have HN1 : Hid (((wr.alloc (.cells #[.int .i64 qd, .string qs, .int .i64 qi] 89)).alloc (.cells #[.int .i64 qd, .string qs, .int .i64 qi] 89)).heap[wr.heap.size + 1]? = some (.cells #[.int .i64 qd, .string qs, .int .i64 qi] 89 (0, 0))) := by
                  have := heap_alloc_last (wr.alloc (.cells #[.int .i64 qd, .string qs, .int .i64 qi] 89)) (.cells #[.int .i64 qd, .string qs, .int .i64 qi] 89)
                  rwa [World.size_alloc] at this
                go_wp2_with (first
                  | (at_builtin; go_must (refine wpList_app _ rfl _ _ rfl w.heap.size _ _ (qd, qs, qi) rfl ((HR.out.1.alloc (.cells #[.int .i64 qd, .string qs, .int .i64 qi] 89)).alloc _) (wr.heap.size + 1) rfl HN1.out (by have := HLN.out; omega) (by have := HSZ.out; simp; omega) ?_); intro v3 w3 hrow3 hgr3))
                have HF : Hid (PuR w w3 (d, s, n) S v3 (k + 1) false) := by
                  have hst := putI_step_on HR.out.2.1 (qd, qs, qi) HRL.out
                  have hk3 := own_new ((HR.out.2.2.alloc (.cells #[.int .i64 qd, .string qs, .int .i64 qi] 89)).alloc (.cells #[.int .i64 qd, .string qs, .int .i64 qi] 89)) ((HR.out.1.alloc (.cells #[.int .i64 qd, .string qs, .int .i64 qi] 89)).alloc (.cells #[.int .i64 qd, .string qs, .int .i64 qi] 89)) hgr3
                  refine ⟨?_, by rw [HT.out]; exact hst.1, hk3⟩
                  rw [HT.out, hst.2]; exact hrow3
                clear hrow3 hgr3
                go_roundw
                case rel => exact ⟨k + 1, by omega, by go_num, false, rfl, HF⟩
                case measure => simp [intOf]; omega
              · have hbl : blt s qs = true := by rw [← hg, hb, he]; rfl
                have HBL : Hid (blt s qs = true) := hbl
                clear hg hbl
                have HRL : Hid (rlt (d, s, n) (qd, qs, qi) = true) := by
                  show rlt (d, s, n) (qd, qs, qi) = true
                  simp [rlt, HBL.out]; right; exact HQD.out
                have HN2 : Hid (((wr.alloc (.cells #[.int .i64 qd, .string qs, .int .i64 qi] 89)).alloc (.cells #[.int .i64 d, .string s, .int .i64 n] 89)).heap[wr.heap.size + 1]? = some (.cells #[.int .i64 d, .string s, .int .i64 n] 89 (0, 0))) := by
                  have := heap_alloc_last (wr.alloc (.cells #[.int .i64 qd, .string qs, .int .i64 qi] 89)) (.cells #[.int .i64 d, .string s, .int .i64 n] 89)
                  rwa [World.size_alloc] at this
                go_wp2_with (first
                  | (at_builtin; refine wpList_app _ rfl _ _ rfl w.heap.size _ _ (qd, qs, qi) rfl (hrow2.alloc _) w2.heap.size rfl (heap_alloc_last w2 _) (by have := HLN.out; simp; omega) (by have := HK2.out.size; simp; omega) ?_; intro v3 w3 hrow3 hgr3)
                  | (at_builtin; go_must (refine wpList_app _ rfl _ _ rfl w.heap.size _ _ (d, s, n) rfl ((HR.out.1.alloc (.cells #[.int .i64 qd, .string qs, .int .i64 qi] 89)).alloc _) (wr.heap.size + 1) rfl HN2.out (by have := HLN.out; omega) (by have := HSZ.out; simp; omega) ?_); intro v2 w2 hrow2 hgr2; have HK2 : Hid (Keeps (fun _ => False) w w2) := own_new ((HR.out.2.2.alloc (.cells #[.int .i64 qd, .string qs, .int .i64 qi] 89)).alloc (.cells #[.int .i64 d, .string s, .int .i64 n] 89)) ((HR.out.1.alloc (.cells #[.int .i64 qd, .string qs, .int .i64 qi] 89)).alloc (.cells #[.int .i64 d, .string s, .int .i64 n] 89)) hgr2; have n0 := app_cell (hr := HR.out.1) hgr2; clear hgr2; obtain ⟨n0, n1, n2⟩ := n0))
                have HF : Hid (PuR w w3 (d, s, n) S v3 (k + 1) true) := by
                  have hst := putI_step_here HR.out.2.1 (qd, qs, qi) HRL.out
                  have hk3 := own_new (HK2.out.alloc (.cells #[.int .i64 qd, .string qs, .int .i64 qi] 89)) (hrow2.alloc (.cells #[.int .i64 qd, .string qs, .int .i64 qi] 89)) hgr3
                  refine ⟨?_, by rw [HT.out]; exact hst.1, hk3⟩
                  rw [HT.out, hst.2]; exact hrow3
                clear hrow3 hgr3 hrow2
                go_roundw
                case rel => exact ⟨k + 1, by omega, by go_num, true, rfl, HF⟩
                case measure => simp [intOf]; omega
          · have hq2 : (qd == d) = false := by simpa using hq
            have HQD : Hid (¬ d = qd) := by
              have h5 : ¬ qd = d := by simpa using hq
              exact fun e => h5 e.symm
            clear hq
            have HRL : Hid (rlt (d, s, n) (qd, qs, qi) = false) := by
              show rlt (d, s, n) (qd, qs, qi) = false
              simp [rlt, HQD.out]; omega
            have HN1 : Hid (((wr.alloc (.cells #[.int .i64 qd, .string qs, .int .i64 qi] 89)).alloc (.cells #[.int .i64 qd, .string qs, .int .i64 qi] 89)).heap[wr.heap.size + 1]? = some (.cells #[.int .i64 qd, .string qs, .int .i64 qi] 89 (0, 0))) := by
              have := heap_alloc_last (wr.alloc (.cells #[.int .i64 qd, .string qs, .int .i64 qi] 89)) (.cells #[.int .i64 qd, .string qs, .int .i64 qi] 89)
              rwa [World.size_alloc] at this
            go_wp2_with (first
              | (at_builtin; go_must (refine wpList_app _ rfl _ _ rfl w.heap.size _ _ (qd, qs, qi) rfl ((HR.out.1.alloc (.cells #[.int .i64 qd, .string qs, .int .i64 qi] 89)).alloc _) (wr.heap.size + 1) rfl HN1.out (by have := HLN.out; omega) (by have := HSZ.out; simp; omega) ?_); intro v3 w3 hrow3 hgr3))
            have HF : Hid (PuR w w3 (d, s, n) S v3 (k + 1) false) := by
              have hst := putI_step_on HR.out.2.1 (qd, qs, qi) HRL.out
              have hk3 := own_new ((HR.out.2.2.alloc (.cells #[.int .i64 qd, .string qs, .int .i64 qi] 89)).alloc (.cells #[.int .i64 qd, .string qs, .int .i64 qi] 89)) ((HR.out.1.alloc (.cells #[.int .i64 qd, .string qs, .int .i64 qi] 89)).alloc (.cells #[.int .i64 qd, .string qs, .int .i64 qi] 89)) hgr3
              refine ⟨?_, by rw [HT.out]; exact hst.1, hk3⟩
              rw [HT.out, hst.2]; exact hrow3
            clear hrow3 hgr3
            go_roundw
            case rel => exact ⟨k + 1, by omega, by go_num, false, rfl, HF⟩
            case measure => simp [intOf]; omega
    · have h1' : ¬ (k : Int) < (S.length : Int) := by omega
      have HE : Hid (S.take k = S) := List.take_of_length_le (by omega)
      have HYR := HR.out.2.2.at HY.out.1 (fun h => h)
      have c2 := (refcell HYR).2
      rcases Bool.eq_false_or_eq_true dn with rfl | rfl
      · obtain ⟨p3, n3, c3, rfl⟩ := HR.out.1.row.shape'
        have HF : Hid (RefAt (wr.setCell ⟨y, 0, none⟩ (.slice p3 n3 c3)) y (insS (d, s, n) S) ∧ Keeps (fun k => k = y) w (wr.setCell ⟨y, 0, none⟩ (.slice p3 n3 c3))) := by
          have h1 := HR.out.1
          rw [HE.out] at h1
          exact ref_set HR.out.2.2 HYR h1
        clear HYR
        go_wp2
        go_ret
        exact ⟨rfl, HF⟩
      · have HN : Hid ((wr.alloc (.cells #[.int .i64 d, .string s, .int .i64 n] 89)).heap[wr.heap.size]? = some (.cells #[.int .i64 d, .string s, .int .i64 n] 89 (0, 0))) := heap_alloc_last wr _
        have HLN : Hid ((putL (d, s, n) (S.take k) false).length < 4000000000001) := by
          have := putL_len (d, s, n) (S.take k) false
          simp only [List.length_take] at this
          show _ < _
          omega
        have HYL : Hid (y < wr.heap.size) := heap_lt HYR
        have HYH : Hid (wr.heap[y]? = some (.cells #[.slice p S.length cap] 74 (0, 0))) := HYR
        clear HYR c2
        go_wp2_with (first
          | (at_builtin; go_must (refine wpList_app _ rfl _ _ rfl w.heap.size _ _ (d, s, n) rfl (HR.out.1.alloc _) wr.heap.size rfl HN.out (by have := HLN.out; omega) (by have := HR.out.2.2.size; simp; omega) ?_); intro v3 w3 hrow3 hgr3; have HK3 : Hid (Keeps (fun _ => False) w w3) := own_new (HR.out.2.2.alloc _) (HR.out.1.alloc _) hgr3; have HY3 : Hid (w3.heap[y]? = some (.cells #[.slice p S.length cap] 74 (0, 0))) := HK3.out.at HY.out.1 (fun h => h); have c1 := (refcell HY3.out).1; have c2 := (refcell HY3.out).2; clear hgr3; obtain ⟨p3, n3, c3, rfl⟩ := hrow3.row.shape'))
        go_ret
        have h1 := hrow3
        simp only [putL, Bool.false_eq_true, if_false, HE.out] at h1
        rw [← putI_end (x := (d, s, n)) (A := S) (by have := HR.out.2.1; rwa [HE.out] at this)] at h1
        exact ⟨rfl, ref_set HK3.out HY3.out h1⟩

set_option maxHeartbeats 1000000 in
theorem ref_put_ino (w : World) (y : Nat) (d : Int) (s : ByteArray) (n : Int) (hn : (isIno d && isIno n) = false) :
    Calls Try.prog 39 #[.pointer (some ⟨y, 0, none⟩), .int .i64 d, .string s, .int .i64 n] w fun e w' => e = .returned (.int .i64 83) ∧ w' = w := by
  have h59 := number_any
  rcases Bool.eq_false_or_eq_true (isIno d) with hd | hd
  · have e2 : isIno n = false := by simpa [hd] using hn
    clear hn
    go_enter Try.func39, Try.ntmps39
    go_wp2_with (first
      | (go_at_call 59; refine (h59 _ _).mono ?_; rintro e w0 ⟨rfl, hw0⟩; subst w0; first | rw [hd] | rw [e2]))
    go_ret
    exact ⟨rfl, rfl⟩
  · clear hn
    go_enter Try.func39, Try.ntmps39
    go_wp2_with (first
      | (go_at_call 59; refine (h59 _ _).mono ?_; rintro e w0 ⟨rfl, hw0⟩; subst w0; rw [hd]))
    go_ret
    exact ⟨rfl, rfl⟩

set_option maxHeartbeats 1000000 in
theorem ref_put_old (w : World) (y : Nat) (S : List Rw) (h : RefAt w y S) (d : Int) (s : ByteArray) (n : Int) (hd : isIno d = true) (hn : isIno n = true) (hl : S.length < 4000000000000) (E : Int)
    (hE : (valid s = false ∧ E = 80) ∨ (valid s = true ∧ hasS S d s = true ∧ E = 81)) :
    Calls Try.prog 39 #[.pointer (some ⟨y, 0, none⟩), .int .i64 d, .string s, .int .i64 n] w fun e w' => e = .returned (.int .i64 E) ∧ w' = w := by
  have h59 := number_any
  have h60 := good_any s
  have h61 := find_any w y S h d s hl
  rcases hE with ⟨hv, rfl⟩ | ⟨hv, hh, rfl⟩
  · rw [hv] at h60
    go_enter Try.func39, Try.ntmps39
    go_wp2_with (first
      | (go_at_call 59; refine (h59 _ _).mono ?_; rintro e w0 ⟨rfl, hw0⟩; subst w0; first | rw [hd] | rw [hn])
      | (go_at_call 60; refine (h60 _).mono ?_; rintro e w0 ⟨rfl, hw0⟩; subst w0))
    go_ret
    exact ⟨rfl, rfl⟩
  · rw [hv] at h60
    obtain ⟨j, hj⟩ : ∃ j : Nat, fndI S d s = j := by
      unfold fndI
      cases hf : S.findIdx? (same d s) with
      | some j => exact ⟨j, rfl⟩
      | none =>
        obtain ⟨r, hr, e⟩ := hasS_iff.1 hh
        have := List.findIdx?_eq_none_iff.1 hf r hr
        rw [same_iff.2 e] at this; cases this
    rw [hj] at h61
    have hj0 : (0 : Int) ≤ j := by omega
    go_enter Try.func39, Try.ntmps39
    go_wp2_with (first
      | (go_at_call 59; refine (h59 _ _).mono ?_; rintro e w0 ⟨rfl, hw0⟩; subst w0; first | rw [hd] | rw [hn])
      | (go_at_call 60; refine (h60 _).mono ?_; rintro e w0 ⟨rfl, hw0⟩; subst w0)
      | (go_at_call 61; refine h61.mono ?_; rintro e w0 ⟨rfl, hw0⟩; subst w0))
    go_ret
    exact ⟨rfl, rfl⟩

theorem ref_put (w : World) (y : Nat) (S : List Rw) (h : RefAt w y S) (d : Int) (s : ByteArray) (n : Int) (hl : S.length < 4000000000000) :
    Calls Try.prog 39 #[.pointer (some ⟨y, 0, none⟩), .int .i64 d, .string s, .int .i64 n] w fun e w' => e = .returned (.int .i64 (putE S d s n)) ∧ Hid (RefAt w' y (putS S d s n) ∧ Keeps (fun k => k = y) w w') := by
  rcases Bool.eq_false_or_eq_true (isIno d && isIno n) with hi | hi
  · have hd : isIno d = true := by simp at hi; exact hi.1
    have hn : isIno n = true := by simp at hi; exact hi.2
    rcases Bool.eq_false_or_eq_true (valid s) with hv | hv
    · rcases Bool.eq_false_or_eq_true (hasS S d s) with hh | hh
      · have e : putE S d s n = 81 := by simp [putE, hi, hv, hh]
        rw [putS, e]; exact (ref_put_old w y S h d s n hd hn hl 81 (Or.inr ⟨hv, hh, rfl⟩)).mono fun _ _ ⟨a, b⟩ => ⟨a, by rw [b]; exact ⟨h, Keeps.refl _ _⟩⟩
      · have e : putE S d s n = 0 := by simp [putE, hi, hv, hh]
        rw [putS, e]; exact ref_put_new w y S h d s n hd hn hv hh hl
    · have e : putE S d s n = 80 := by simp [putE, hi, hv]
      rw [putS, e]; exact (ref_put_old w y S h d s n hd hn hl 80 (Or.inl ⟨hv, rfl⟩)).mono fun _ _ ⟨a, b⟩ => ⟨a, by rw [b]; exact ⟨h, Keeps.refl _ _⟩⟩
  · have e : putE S d s n = 83 := by simp [putE, hi]
    rw [putS, e]; exact (ref_put_ino w y d s n hi).mono fun _ _ ⟨a, b⟩ => ⟨a, by rw [b]; exact ⟨h, Keeps.refl _ _⟩⟩

end Go.Proofs.Ytendmohjodeelab
