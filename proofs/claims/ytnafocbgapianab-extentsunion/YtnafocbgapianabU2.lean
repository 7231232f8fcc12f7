import Derived.Test.YtnafocbgapianabU1
import Derived.Test.YtnafocbgapianabC0
namespace Go.Proofs.Ytnafocbgapianab
open Go.RowKit

/-- Where the statement's row of marks lies. -/
def InAt (w : World) (g k : Nat) (I : Nat → Bool) : Prop := w.heap[g]? = some (.cells (boolCells I k).toArray 4 (0, 0))
theorem InAt.cell {w : World} {g k : Nat} {I : Nat → Bool} (h : InAt w g k I) (i : Nat) (hi : i < k) : w.cell? ⟨g, i, none⟩ = some (.bool (I i)) := by
  rw [cell_of_row _ _ i _ _ _ h]
  simp [boolCells, hi]
theorem InAt.frozen {w : World} {g k : Nat} {I : Nat → Bool} (h : InAt w g k I) (i : Nat) : w.frozen? ⟨g, i, none⟩ = false := by
  have : w.heap[g]? = _ := h
  simp [World.frozen?, this]
theorem boolCells_set' (H : Nat → Bool) (n i : Nat) (b : Bool) : (boolCells H n).toArray.setIfInBounds i (.bool b) = (boolCells (upd H i b) n).toArray := by
  rw [List.setIfInBounds_toArray]
  congr 1
  apply List.ext_getElem?
  intro j
  rw [List.getElem?_set]
  by_cases hj : i = j
  · subst hj
    by_cases hi : i < n
    · simp [boolCells, hi, upd]
    · simp [boolCells, hi]
  · rw [if_neg hj]
    by_cases hjn : j < n
    · simp [boolCells, hjn, upd, Ne.symm hj]
    · simp [boolCells, hjn]
theorem InAt.set {w : World} {g k : Nat} {I : Nat → Bool} (h : InAt w g k I) (i : Nat) (b : Bool) : InAt (w.setCell ⟨g, i, none⟩ (.bool b)) g k (upd I i b) := by
  have := setCell_block (a := ⟨g, i, none⟩) (v := .bool b) h rfl
  rw [boolCells_set'] at this
  exact this
theorem InAt.kept {X : Nat → Prop} {w w' : World} {g k : Nat} {I : Nat → Bool} (h : InAt w g k I) (kp : Keeps X w w') (hx : ¬ X g) : InAt w' g k I := kp.at h hx
theorem keep_set (w : World) (g i : Nat) (v : Value) : Keeps (fun j => j = g) w (w.setCell ⟨g, i, none⟩ v) := Keeps.of (grownBy_setCell w ⟨g, i, none⟩ v) (by rintro j hj; cases hj; exact Or.inl rfl)

/-- The blocks of the statement: two bitmaps and a row of marks, apart. -/
structure Three (w0 : World) (x y g k m : Nat) (S O I : Nat → Bool) (w : World) : Prop where
  one : BmAt w x k S
  two : BmAt w y m O
  row : InAt w g k I
  ap : x ≠ y ∧ x ≠ g ∧ y ≠ g
  low : w0.heap.size ≤ x ∧ w0.heap.size ≤ y ∧ w0.heap.size ≤ g
  keep : Keeps (fun j => w0.heap.size ≤ j) w0 w

theorem Three.drewN {w0 : World} {x y g k m : Nat} {S O I : Nat → Bool} {w : World} (h : Three w0 x y g k m S O I w) (q : Nat) : Three w0 x y g k m S O I (w.drewN q) :=
  ⟨h.one.kept (Keeps.drewN (fun _ => False) _ _) (by simp), h.two.kept (Keeps.drewN (fun _ => False) _ _) (by simp), h.row, h.ap, h.low, h.keep.trans (Keeps.drewN _ _ _)⟩
theorem Three.turnX {w0 : World} {x y g k m : Nat} {S S' O I : Nat → Bool} {w w' : World} (h : Three w0 x y g k m S O I w) (h1 : BmAt w' x k S') (kp : Keeps (fun j => j = x) w w') : Three w0 x y g k m S' O I w' := by
  have ha := h.ap
  have hl := h.low
  exact ⟨h1, h.two.kept kp (by omega), h.row.kept kp (by omega), h.ap, h.low, h.keep.then kp (fun j hj => by left; omega)⟩
theorem Three.turnY {w0 : World} {x y g k m : Nat} {S O O' I : Nat → Bool} {w w' : World} (h : Three w0 x y g k m S O I w) (h1 : BmAt w' y m O') (kp : Keeps (fun j => j = y) w w') : Three w0 x y g k m S O' I w' := by
  have ha := h.ap
  have hl := h.low
  exact ⟨h.one.kept kp (by omega), h1, h.row.kept kp (by omega), h.ap, h.low, h.keep.then kp (fun j hj => by left; omega)⟩
theorem Three.turnI {w0 : World} {x y g k m : Nat} {S O I : Nat → Bool} {w : World} (h : Three w0 x y g k m S O I w) (i : Nat) (b : Bool) : Three w0 x y g k m S O (upd I i b) (w.setCell ⟨g, i, none⟩ (.bool b)) := by
  have ha := h.ap
  have hl := h.low
  have kp := keep_set w g i (.bool b)
  exact ⟨h.one.kept kp (by omega), h.two.kept kp (by omega), h.row.set i b, h.ap, h.low, h.keep.then kp (fun j hj => by left; omega)⟩

theorem uni_or (S O : Nat → Bool) (i : Nat) : upd (uni S O i) i (S i || O i) = uni S O (i + 1) := by
  cases h : O i with
  | false => rw [uni_skip S O i h, Bool.or_false]; exact upd_id (uni_at S O i)
  | true => rw [uni_next S O i h, Bool.or_true]

set_option maxHeartbeats 2000000 in
set_option maxRecDepth 20000 in
theorem union_walk (w : World) (n : Int) (pa pb : Option Addr) (ca cb : Nat) (a b : List Int) (ha : IntIn w pa a) (hb : IntIn w pb b) (hal : a.length ≤ maxLen) (hbl : b.length ≤ maxLen) (hn : -9223372036854775808 ≤ n ∧ n ≤ 9223372036854775807) :
    Calls Try.prog 4 #[.int .i64 n, .slice pa a.length ca, .slice pb b.length cb] w fun e w' => e = .returned (.bool true) ∧ Keeps (fun k => w.heap.size ≤ k) w w' := by
  have hp80 := fun w => place_any n 80 w (by omega) (by omega)
  have hp3 := fun w => place_any (n.tdiv 80) 3 w (by omega) (by omega)
  have hq := tdiv_wrap (m := 80) hn (by omega)
  have hk80 := plc_lt n (show 1 ≤ 80 by omega)
  have hk3 := plc_lt (n.tdiv 80) (show 1 ≤ 3 by omega)
  unfold maxLen at hal hbl
  generalize plc n 80 = k at *
  generalize plc (n.tdiv 80) 3 = t3 at *
  have hbm := fun w => newBitmap_any (k : Int) w
  have hby := fun w => newBitmap_any ((k : Int) + (t3 : Int) - 1) w
  rw [show bmLen (k : Int) = k by unfold bmLen; omega] at hbm
  obtain ⟨m, hm⟩ : ∃ m, m = bmLen ((k : Int) + (t3 : Int) - 1) := ⟨_, rfl⟩
  rw [← hm] at hby
  have hfi := first_any
  have hmk := fun w => run_make_row' (P := Try.prog) 33 4 (.bool false) 1 Try.underlying33 info4 rfl .i64 .i64 k (by omega) (by omega) w
  have HA := Hid.mk' ha
  have HB := Hid.mk' hb
  clear ha hb hm hn
  go_enter Try.func4, Try.ntmps4
  go_wp2_with (first
    | (go_at_call_of 16 n; refine (hp80 _).mono ?_; clear hp80; rintro e w1 ⟨rfl, hw⟩; subst w1)
    | (go_at_call 16; refine (hp3 _).mono ?_; rintro e w1 ⟨rfl, hw⟩; subst w1)
    | (go_at_call 24; refine (hbm _).mono ?_; clear hbm; rintro e w1 ⟨rfl, hx1, hx2⟩; have HX1 := Hid.mk' (And.intro hx1 hx2); clear hx1 hx2)
    | (go_at_call 24; refine (hby _).mono ?_; clear hby; rintro e w2 ⟨rfl, hy1, hy2⟩; have HY1 := Hid.mk' (And.intro hy1 hy2); clear hy1 hy2)
    | (go_at_call 25; refine (hfi _).mono ?_; clear hfi; rintro e w3 ⟨rfl, hk3⟩; have HF := Hid.mk' hk3; clear hk3))
  have HT0 : Hid (Three w w.heap.size w1.heap.size w3.heap.size k m (fun _ => false) (fun _ => false) (fun _ => false) (w3.alloc (.cells (madeCells #[.bool false] k) 4))) := by
    have k1 := HX1.out.2
    have k2 := HY1.out.2
    have k3 := HF.out
    have l1 := heap_lt HX1.out.1.at_
    have l2 := heap_lt HY1.out.1.at_
    have s1 := k1.size
    have s2 := k2.size
    have s3 := k3.size
    have k4 : Keeps (fun j => w3.heap.size ≤ j) w3 (w3.alloc (.cells (madeCells #[.bool false] k) 4)) := Keeps.of (World.grownBy_alloc w3 _ none) (by simp)
    refine ⟨((HX1.out.1.kept k2 (by omega)).kept k3 (by omega)).kept k4 (by omega), (HY1.out.1.kept k3 (by omega)).kept k4 (by omega), ?_, by omega, by omega, ?_⟩
    · unfold InAt
      rw [boolCells_none]
      exact (MapKept.heap_alloc w3 _).1
    · exact ((k1.then k2 (fun j hj => by right; omega)).then k3 (fun j hj => by right; omega)).then k4 (fun j hj => by right; omega)
  generalize w3.alloc (.cells (madeCells #[.bool false] k) 4) = w5 at *
  generalize w3.heap.size = g at *
  generalize w1.heap.size = y at *
  obtain ⟨x, hx⟩ : ∃ x, x = w.heap.size := ⟨_, rfl⟩
  rw [← hx] at HT0 ⊢
  have HX := Hid.mk' hx
  clear HX1 HY1 HF hmk hp3 hq hx
  go_loopw [13] (fun iv wr => ∃ i : Nat, i ≤ a.length ∧ iv = .int .i64 i ∧ Hid (∃ S, Three w x y g k m S (fun _ => false) S wr)) (fun iv _ => a.length - (intOf iv).toNat)
  case atStart => exact ⟨0, by omega, rfl, _, HT0.out⟩
  case round =>
    obtain ⟨i, hi, rfl, hrel⟩ := hrel
    obtain ⟨S, hT⟩ := hrel.out
    clear hrel
    by_cases hlt : i < a.length
    · have hlt' : (i : Int) < (a.length : Int) := by omega
      obtain ⟨ab, ao, rfl, hab, hac⟩ := HA.out (by omega)
      have HAC : Hid (∀ wx, Keeps (fun j => w.heap.size ≤ j) w wx → wx.cell? ⟨ab, ao + i, none⟩ = some (.int .i64 (a.getD i 0))) := fun wx hk => hk.cell (hac i hlt) (by simp; omega)
      clear hac
      generalize a.getD i 0 = v at *
      have c0 := HAC.out wr hT.keep
      by_cases hv : 0 ≤ v ∧ v < k
      · obtain ⟨j, rfl⟩ := Int.eq_ofNat_of_zero_le hv.1
        obtain ⟨hv1, hv2⟩ := hv
        have hjk : j < k := by omega
        have hst := bset_in wr x k S hT.one j hjk
        have HTT := Hid.mk' hT
        clear hT
        go_wp2_with (first | (go_at_call 26; refine hst.mono ?_; clear hst; rintro e w6 ⟨rfl, hx1, hx2⟩
                              have hT6 := HTT.out.turnX hx1 hx2
                              have c6 := HAC.out w6 hT6.keep
                              have ci := hT6.row.cell j hjk
                              have cf := hT6.row.frozen j
                              have HT6 := Hid.mk' hT6
                              have HT7 := Hid.mk' (hT6.turnI j true)
                              clear hx1 hx2 hT6))
        all_goals
          go_roundw
          case rel => exact ⟨i + 1, by omega, by go_num, _, HT7.out⟩
          case measure => simp [intOf]; omega
      · have hst := bset_out wr x k S hT.one v hv
        have HTT := Hid.mk' hT
        clear hT
        by_cases hv0 : 0 ≤ v
        · have hv1 : ¬ v < (k : Int) := by omega
          clear hv
          go_wp2_with (first | (go_at_call 26; refine hst.mono ?_; clear hst; rintro e w6 ⟨rfl, hx1, hx2⟩
                                have hT6 := HTT.out.turnX hx1 hx2
                                have c6 := HAC.out w6 hT6.keep
                                have HT6 := Hid.mk' hT6
                                clear hx1 hx2 hT6))
          go_roundw
          case rel => exact ⟨i + 1, by omega, by go_num, _, HT6.out⟩
          case measure => simp [intOf]; omega
        · clear hv
          go_wp2_with (first | (go_at_call 26; refine hst.mono ?_; clear hst; rintro e w6 ⟨rfl, hx1, hx2⟩
                                have hT6 := HTT.out.turnX hx1 hx2
                                have c6 := HAC.out w6 hT6.keep
                                have HT6 := Hid.mk' hT6
                                clear hx1 hx2 hT6))
          go_roundw
          case rel => exact ⟨i + 1, by omega, by go_num, _, HT6.out⟩
          case measure => simp [intOf]; omega
    · have hlt' : ¬ (i : Int) < (a.length : Int) := by omega
      have HT1 := Hid.mk' hT
      clear hT HA HT0 hlt hi
      go_wp2
      clear hlt'
      go_loopw [16] (fun iv wr => ∃ i : Nat, i ≤ b.length ∧ iv = .int .i64 i ∧ Hid (∃ O, Three w x y g k m S O S wr)) (fun iv _ => b.length - (intOf iv).toNat)
      case atStart => exact ⟨0, by omega, rfl, _, HT1.out⟩
      case round =>
        obtain ⟨i, hi, rfl, hrel⟩ := hrel
        obtain ⟨O, hT⟩ := hrel.out
        clear hrel
        by_cases hlt : i < b.length
        · have hlt' : (i : Int) < (b.length : Int) := by omega
          obtain ⟨ab, ao, rfl, hab, hac⟩ := HB.out (by omega)
          have c0 := hT.keep.cell (hac i hlt) (by simp; omega)
          clear hac
          generalize b.getD i 0 = v at *
          have hst : Calls Try.prog 26 #[.pointer (some ⟨y, 0, none⟩), .int .i64 v] wr fun e w' => ∃ r O', e = .returned (.bool r) ∧ BmAt w' y m O' ∧ Keeps (fun k => k = y) wr w' := by
            by_cases hv : 0 ≤ v ∧ v < m
            · obtain ⟨j, rfl⟩ := Int.eq_ofNat_of_zero_le hv.1
              exact (bset_in wr y m O hT.two j (by omega)).mono fun e w' ⟨q1, q2, q3⟩ => ⟨_, _, q1, q2, q3⟩
            · exact (bset_out wr y m O hT.two v hv).mono fun e w' ⟨q1, q2, q3⟩ => ⟨_, _, q1, q2, q3⟩
          have HTT := Hid.mk' hT
          clear hT
          go_wp2_with (first | (go_at_call 26; refine hst.mono ?_; clear hst; rintro e w6 ⟨r, O', rfl, hx1, hx2⟩
                                have HT6 := Hid.mk' (HTT.out.turnY hx1 hx2)
                                clear hx1 hx2))
          go_roundw
          case rel => exact ⟨i + 1, by omega, by go_num, _, HT6.out⟩
          case measure => simp [intOf]; omega
        · have hlt' : ¬ (i : Int) < (b.length : Int) := by omega
          have hcy := bcount_any wr y m O hT.two
          have HT2 := Hid.mk' hT
          have hOs := hT.two.sup
          have hml := hT.two.le
          have HOS := Hid.mk' hOs
          clear hT HB HT1 hlt hi hOs
          go_wp2_with (first | (go_at_call 27; refine hcy.mono ?_; clear hcy; rintro e w6 ⟨rfl, hw⟩; subst w6))
          clear hlt'
          go_loopw [11, 18] (fun bv iv wx => ∃ i : Nat, i ≤ k ∧ bv = .int .i64 (lst S O i) ∧ iv = .int .i64 i ∧ Hid (Three w x y g k m S O (uni S O i) wx)) (fun _ iv _ => k - (intOf iv).toNat)
          case atStart => exact ⟨0, by omega, rfl, rfl, by rw [uni_zero]; exact HT2.out⟩
          case round =>
            obtain ⟨i, hi, rfl, rfl, hrel⟩ := hrel
            by_cases hlt : i < k
            · have hlt' : (i : Int) < (k : Int) := by omega
              have hi0 : (0 : Int) ≤ (i : Int) := by omega
              have hh := fun q => bhas_any (wr.drewN q) y m O (hrel.out.drewN q).two (i : Int)
              rw [hasI_sup HOS.out] at hh
              have hh0 := bhas_any wr y m O hrel.out.two (i : Int)
              rw [hasI_sup HOS.out] at hh0
              have ci := hrel.out.row.cell i hlt
              have cf := hrel.out.row.frozen i
              rw [uni_at] at ci
              have hbd := lst_bd S O i
              have HREL := hrel
              have HUO := Hid.mk' (uni_or S O i)
              have HL : Hid (lst S O (i + 1) = if lst S O i < 0 ∧ (S i = true ∧ O i = true) then (i : Int) else lst S O i) := rfl
              have HNX : Hid (∀ q, Three w x y g k m S O (uni S O (i + 1)) ((wr.drewN q).setCell ⟨g, i, none⟩ (.bool (S i || O i)))) := by
                intro q
                rw [← HUO.out]
                exact (HREL.out.drewN q).turnI i _
              clear hrel
              cases hSi : S i with
              | false =>
                rw [hSi] at ci HNX
                have HLN : Hid (lst S O (i + 1) = lst S O i) := by show _ = _; rw [HL.out, if_neg (by simp [hSi])]
                clear hSi
                generalize O i = oi at *
                go_wp2_with (first | (go_at_call 28; refine hh0.mono ?_; clear hh0; rintro e w6 ⟨rfl, q6, hw⟩; subst w6))
                go_roundw
                case rel => exact ⟨i + 1, by omega, by rw [HLN.out], by go_num, Hid.mk' (by have := HNX.out q6; simpa using this)⟩
                case measure => simp [intOf]; omega
              | true =>
                rw [hSi] at ci HNX
                cases hOi : O i with
                | false =>
                  have HLN : Hid (lst S O (i + 1) = lst S O i) := by show _ = _; rw [HL.out, if_neg (by simp [hOi])]
                  rw [hOi] at hh0
                  clear hSi hOi
                  go_wp2_with (first | (go_at_call 28; refine hh0.mono ?_; clear hh0; rintro e w6 ⟨rfl, q6, hw⟩; subst w6))
                  go_roundw
                  case rel => exact ⟨i + 1, by omega, by rw [HLN.out], by go_num, Hid.mk' (by have := HNX.out q6; simpa using this)⟩
                  case measure => simp [intOf]; omega
                | true =>
                  rw [hOi] at hh0
                  by_cases hlz : lst S O i < 0
                  · have HLN : Hid (lst S O (i + 1) = (i : Int)) := by show _ = _; rw [HL.out, if_pos ⟨hlz, hSi, hOi⟩]
                    clear hSi hOi
                    go_wp2_with (first | (go_at_call 28; refine hh0.mono ?_; clear hh0; rintro e w6 ⟨rfl, q6, hw⟩; subst w6))
                    go_roundw
                    case rel => exact ⟨i + 1, by omega, by rw [HLN.out], by go_num, Hid.mk' (by have := HNX.out q6; simpa using this)⟩
                    case measure => simp [intOf]; omega
                  · have HLN : Hid (lst S O (i + 1) = lst S O i) := by show _ = _; rw [HL.out, if_neg (by omega)]
                    clear hSi hOi
                    go_wp2_with (first | (go_at_call 28; refine hh0.mono ?_; clear hh0; rintro e w6 ⟨rfl, q6, hw⟩; subst w6))
                    go_roundw
                    case rel => exact ⟨i + 1, by omega, by rw [HLN.out], by go_num, Hid.mk' (by have := HNX.out q6; simpa using this)⟩
                    case measure => simp [intOf]; omega
            · have hlt' : ¬ (i : Int) < (k : Int) := by omega
              obtain rfl : k = i := by omega
              have HT3 := hrel
              have hme := merge_any wr x y k m S O hrel.out.one hrel.out.two hrel.out.ap.1
              have hbd := lst_bd S O k
              clear hrel HT2 hlt hi hlt'
              obtain ⟨LL, hLL⟩ : ∃ LL, LL = lst S O k := ⟨_, rfl⟩
              rw [← hLL] at hme hbd ⊢
              clear hLL
              go_wp2_with (first
                | (go_at_call 29; refine hme.mono ?_; clear hme; rintro e w6 ⟨rfl, hx1, hx2⟩
                   have hT6 := HT3.out.turnX hx1 hx2
                   have hcy := bcount_any w6 y m O hT6.two
                   have HT6 := Hid.mk' hT6
                   clear hx1 hx2 hT6)
                | (go_at_call 27; refine hcy.mono ?_; clear hcy; rintro e w7 ⟨rfl, hw⟩; subst w7))
              have hbx := (MapKept.heap_alloc w6 (.cells #[.int .i64 0, .int .i64 0, .int .i64 0, .int .i64 0, .slice (some ⟨g, 0, none⟩) k k, .int .i64 0] 35)).1
              have HT7 : Hid (Three w x y g k m (uni S O k) O (uni S O k) (w6.alloc (.cells #[.int .i64 0, .int .i64 0, .int .i64 0, .int .i64 0, .slice (some ⟨g, 0, none⟩) k k, .int .i64 0] 35))) := by
                have l1 := heap_lt HT6.out.one.at_
                have l2 := heap_lt HT6.out.two.at_
                have l3 : g < w6.heap.size := heap_lt HT6.out.row
                have k4 : Keeps (fun j => w6.heap.size ≤ j) w6 (w6.alloc (.cells #[.int .i64 0, .int .i64 0, .int .i64 0, .int .i64 0, .slice (some ⟨g, 0, none⟩) k k, .int .i64 0] 35)) := Keeps.of (World.grownBy_alloc w6 _ none) (by simp)
                exact ⟨HT6.out.one.kept k4 (by omega), HT6.out.two.kept k4 (by omega), HT6.out.row.kept k4 (by omega), HT6.out.ap, HT6.out.low, HT6.out.keep.then k4 (fun j hj => by right; have := HT6.out.keep.size; omega)⟩
              generalize w6.alloc (.cells #[.int .i64 0, .int .i64 0, .int .i64 0, .int .i64 0, .slice (some ⟨g, 0, none⟩) k k, .int .i64 0] 35) = w8 at *
              generalize w6.heap.size = bk at *
              have HBX := Hid.mk' hbx
              clear hbx HT6 HT3
              go_loopw [12, 21] (fun mv iv wx => ∃ i : Nat, i ≤ k ∧ mv = .int .i64 (cn (uni S O k) i) ∧ iv = .int .i64 i ∧ Hid (Keeps (fun _ => False) w8 wx)) (fun _ iv _ => k - (intOf iv).toNat)
              case atStart => exact ⟨0, by omega, rfl, rfl, Keeps.refl _ _⟩
              case round =>
                obtain ⟨i, hi, rfl, rfl, hrel⟩ := hrel
                have hx1 := HT7.out.one.kept hrel.out (by simp)
                have hr1 := HT7.out.row.kept hrel.out (by simp)
                by_cases hlt : i < k
                · have hlt' : (i : Int) < (k : Int) := by omega
                  have hi0 : (0 : Int) ≤ (i : Int) := by omega
                  have hh := fun q => bhas_any (wr.drewN q) x k (uni S O k) (hx1.kept (Keeps.drewN (fun _ => False) _ q) (by simp)) (i : Int)
                  rw [hasI_in hlt] at hh
                  have ci := hr1.cell i hlt
                  have hcs := cn_succ (uni S O k) i
                  have hcl := cn_le (uni S O k) i
                  have HREL := hrel
                  have HCS := Hid.mk' hcs
                  clear hrel hx1 hr1 hcs
                  cases hU : uni S O k i with
                  | false =>
                    rw [hU] at hh ci
                    have HU := Hid.mk' hU
                    clear hU
                    go_wp2
                    go_quiet (first | (go_at_call 28; exact Calls.quiet_of (hh _)))
                    go_wp2
                    go_roundw
                    case rel => exact ⟨i + 1, by omega, by rw [HCS.out, HU.out]; rfl, by go_num, HREL.out.trans (Keeps.drewN _ _ _)⟩
                    case measure => simp [intOf]; omega
                  | true =>
                    rw [hU] at hh ci
                    have HU := Hid.mk' hU
                    clear hU
                    go_wp2
                    go_quiet (first | (go_at_call 28; exact Calls.quiet_of (hh _)))
                    go_wp2
                    go_roundw
                    case rel => exact ⟨i + 1, by omega, by rw [HCS.out, HU.out]; go_num, by go_num, HREL.out.trans (Keeps.drewN _ _ _)⟩
                    case measure => simp [intOf]; omega
                · have hlt' : ¬ (i : Int) < (k : Int) := by omega
                  have hie : i = k := by omega
                  have hcx := bcount_any wr x k (uni S O k) hx1
                  have hho := bholes_any wr x k (uni S O k) hx1 (-1) ((k : Int) + 1)
                  rw [show clamp k (-1) = 0 by unfold clamp; omega, show clamp k ((k : Int) + 1) = k by unfold clamp; omega, Nat.sub_zero] at hho
                  obtain ⟨L, hL⟩ : ∃ L, L = sp (fun j => !uni S O k j) 0 k := ⟨_, rfl⟩
                  rw [← hL] at hho
                  have HL := Hid.mk' hL
                  rw [hie]
                  have HREL := hrel
                  have HX8 := Hid.mk' hx1
                  have HR8 := Hid.mk' hr1
                  have lx := heap_lt hx1.at_
                  have lg : g < wr.heap.size := heap_lt hr1
                  have hbk8 := hrel.out.at HBX.out (by simp)
                  have lb := heap_lt hbk8
                  have HBK8 := Hid.mk' hbk8
                  clear hie hrel hx1 hr1 hlt hi hlt' hL hbk8
                  generalize cn (uni S O k) k = CN at *
                  go_wp2_with (first
                    | (go_at_call 27; refine hcx.mono ?_; clear hcx; rintro e w9 ⟨rfl, hw⟩; subst w9)
                    | (go_at_call 31; refine hho.mono ?_; clear hho; rintro e w10 ⟨v10, rfl, hs10, hk10⟩
                       obtain ⟨p10, cap10, hv10, hin10, _⟩ := hs10.toIn
                       subst v10
                       have hbk10 := hk10.at HBK8.out (by omega)
                       have hr10 := HR8.out.kept hk10 (by omega)
                       have hx10 := HX8.out.kept hk10 (by omega)
                       have hli := listed_any w10 bk g k k (uni S O k) p10 cap10 L 0 k (by simp [World.cell?, hbk10]) (fun i hi => hr10.cell i hi) hin10 (by omega) (Nat.le_refl _) (by omega) (by rw [Nat.sub_zero]; exact HL.out)
                       have hhk := bhas_any w10 x k (uni S O k) hx10 (k : Int)
                       rw [hasI_out (by omega)] at hhk
                       have hhm := fun q => bhas_any (w10.drewN q) x k (uni S O k) (hx10.kept (Keeps.drewN (fun _ => False) _ q) (by simp)) (-1)
                       rw [hasI_out (by omega)] at hhm
                       have HK10 := Hid.mk' (HT7.out.keep.then (HREL.out.then hk10 (fun j hj => by right; have := HREL.out.size; omega)) (fun j hj => by cases hj))
                       clear hs10 hk10 hin10 hbk10 hr10 hx10)
                    | (go_at_call 30; refine hli.mono ?_; clear hli; rintro e w11 ⟨rfl, hw⟩; subst w11)
                    | (go_at_call 28; refine hhk.mono ?_; clear hhk; rintro e w12 ⟨rfl, q12, hw⟩; subst w12)
                    | (go_at_call 28; refine (hhm _).mono ?_; clear hhm; rintro e w13 ⟨rfl, q13, hw⟩; subst w13))
                  go_ret
                  exact ⟨ret_bool (by simp), HK10.out.trans (Keeps.drewN _ _ _)⟩

end Go.Proofs.Ytnafocbgapianab
