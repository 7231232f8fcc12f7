import Derived.Test.YtndojlacdggfcabG3
namespace Go.Proofs.Ytndojlacdggfcab
open Go.RowKit

def okRun (r : Rn) : Bool := decide (1 ≤ r.2.2 ∧ 1 ≤ r.2.1 ∧ 0 ≤ r.1 ∧ r.2.2 ≤ 512 - r.1)
def bdR (r : Rn) : Prop := -9223372036854775808 ≤ r.1 ∧ r.1 ≤ 9223372036854775807 ∧ -9223372036854775808 ≤ r.2.1 ∧ r.2.1 ≤ 9223372036854775807
def layN (f : Nat → Int) (r : Rn) (n : Nat) : Nat → Int := fun o => if r.1.toNat ≤ o ∧ o < r.1.toNat + n then wrap64 (r.2.1 + ((o - r.1.toNat : Nat) : Int)) else f o
theorem layN_zero (f : Nat → Int) (r : Rn) : layN f r 0 = f := by funext o; simp only [layN]; rw [if_neg (by omega)]
theorem layN_succ (f : Nat → Int) (r : Rn) (n : Nat) : layN f r (n + 1) = upd (layN f r n) (r.1.toNat + n) (wrap64 (r.2.1 + (n : Int))) := by
  funext o
  simp only [layN, upd]
  by_cases h : o = r.1.toNat + n
  · rw [if_pos (by omega), if_pos h, h, Nat.add_sub_cancel_left]
  · rw [if_neg h]
    by_cases h2 : r.1.toNat ≤ o ∧ o < r.1.toNat + n
    · rw [if_pos h2, if_pos (by omega)]
    · rw [if_neg h2, if_neg (by omega)]
def loadTo (l : List Rn) : Nat → Int := l.foldl (fun f r => layN f r r.2.2.toNat) (fun _ => 0)
theorem loadTo_snoc (l : List Rn) (r : Rn) : loadTo (l ++ [r]) = layN (loadTo l) r r.2.2.toNat := by simp [loadTo]
def rz : Rn := (0, 0, 0)

/-- A list of runs that lies in memory. -/
def RnIn (w : World) (p : Option Addr) (l : List Rn) : Prop :=
  0 < l.length → ∃ b o, p = some ⟨b, o, none⟩ ∧ b < w.heap.size ∧ ∀ i, i < l.length →
    w.cell? ⟨b, o + i * 3, none⟩ = some (.int .i64 (l.getD i rz).1) ∧ w.cell? ⟨b, o + i * 3 + 1, none⟩ = some (.int .i64 (l.getD i rz).2.1) ∧ w.cell? ⟨b, o + i * 3 + 2, none⟩ = some (.int .i64 (l.getD i rz).2.2)
theorem RnIn.grown {w w' : World} {p : Option Addr} {l : List Rn} (h : RnIn w p l) (k : Keeps (fun _ => False) w w') : RnIn w' p l := by
  intro h0
  obtain ⟨b, o, e, hb, hc⟩ := h h0
  exact ⟨b, o, e, Nat.lt_of_lt_of_le hb k.size, fun i hi => ⟨k.cell (hc i hi).1 id, k.cell (hc i hi).2.1 id, k.cell (hc i hi).2.2 id⟩⟩
theorem take_getD {α : Type} (d : α) {l : List α} {k : Nat} (h : k < l.length) : l.take (k + 1) = l.take k ++ [l.getD k d] := by
  rw [List.take_add_one, List.getElem?_eq_getElem h]; simp [List.getD_eq_getElem?_getD, h]
theorem getD_mem {α : Type} {d : α} {l : List α} {k : Nat} (h : k < l.length) : l.getD k d ∈ l := by
  rw [List.getD_eq_getElem?_getD, List.getElem?_eq_getElem h]; exact List.getElem_mem h

set_option maxHeartbeats 400000 in
theorem isRun_any (r : Rn) (w : World) (hb : bdR r) : Calls Try.prog 27 #[.agg #[.int .i64 r.1, .int .i64 r.2.1, .int .i64 r.2.2]] w fun e w' => e = .returned (.bool (okRun r)) ∧ Keeps (fun _ => False) w w' := by
  obtain ⟨a, b, c⟩ := r
  obtain ⟨h1, h2, _, _⟩ := hb
  simp only at h1 h2 ⊢
  have hK := Keeps.new w (.cells #[.int .i64 a, .int .i64 b, .int .i64 c] 38)
  by_cases e1 : 1 ≤ c
  · by_cases e2 : 1 ≤ b
    · by_cases e3 : 0 ≤ a
      · by_cases e4 : c ≤ 512 - a
        · go_enter Try.func27, Try.ntmps27
          go_wp2
          go_ret
          exact ⟨ret_bool (by simp [okRun, e1, e2, e3, e4]), hK⟩
        · have e4' : 512 - a < c := by omega
          go_enter Try.func27, Try.ntmps27
          go_wp2
          go_ret
          exact ⟨ret_bool (by simp [okRun]; omega), hK⟩
      · have e3' : a < 0 := by omega
        go_enter Try.func27, Try.ntmps27
        go_wp2
        go_ret
        exact ⟨ret_bool (by simp [okRun]; omega), hK⟩
    · have e2' : b < 1 := by omega
      go_enter Try.func27, Try.ntmps27
      go_wp2
      go_ret
      exact ⟨ret_bool (by simp [okRun]; omega), hK⟩
  · have e1' : c < 1 := by omega
    go_enter Try.func27, Try.ntmps27
    go_wp2
    go_ret
    exact ⟨ret_bool (by simp [okRun]; omega), hK⟩

/-- What Load tells. -/
def LoadTold (w : World) (l : List Rn) (TA : World → Nat → (Nat → Int) → Prop) (e : Ending) (w' : World) : Prop :=
  (l.all okRun = true ∧ ∃ t, e = .returned (.tuple #[.pointer (some ⟨t, 0, none⟩), .int .i64 0]) ∧ Hid (t = w.heap.size ∧ Keeps (fun _ => False) w w' ∧ TA w' t (loadTo l))) ∨
  (l.all okRun = false ∧ e = .returned (.tuple #[.pointer none, .int .i64 70]) ∧ Hid (Keeps (fun _ => False) w w'))

set_option maxRecDepth 100000 in
set_option maxHeartbeats 2000000 in
theorem load_any (w : World) (p : Option Addr) (l : List Rn) (cap : Nat) (hp : RnIn w p l) (hl : l.length ≤ maxLen) (hb : ∀ r ∈ l, bdR r) :
    Calls Try.prog 12 #[.slice p l.length cap] w (LoadTold w l TreeAt) := by
  have hml : l.length ≤ 9223372036854775807 := Nat.le_trans hl (by decide)
  have HP := Hid.mk' hp
  have HB := Hid.mk' hb
  have hnew' : Calls Try.prog 24 #[] w fun e w' => ∃ t, e = .returned (.pointer (some ⟨t, 0, none⟩)) ∧ Hid (t = w.heap.size ∧ Keeps (fun _ => False) w w' ∧ TreeAt w' t (fun _ => 0)) :=
    (new_any w).mono fun e w' ⟨he, hw⟩ => ⟨_, he, rfl, by rw [hw]; exact Keeps.new w _, by rw [hw]; exact new_tree w⟩
  clear hp hl hb
  go_enter Try.func12, Try.ntmps12
  go_wp2_with (first | (go_at_call 24; refine hnew'.mono ?_; rintro e w1 ⟨t, rfl, H1⟩))
  go_loopw [11] (fun i wr => ∃ k : Nat, k ≤ l.length ∧ i = .int .i64 k ∧ Hid ((l.take k).all okRun = true ∧ Keeps (fun _ => False) w wr ∧ TreeAt wr t (loadTo (l.take k)))) (fun i _ => l.length - (intOf i).toNat)
  case atStart => exact ⟨0, by omega, rfl, rfl, H1.out.2⟩
  case round =>
    obtain ⟨k, hk, rfl, hrel⟩ := hrel
    by_cases h1 : k < l.length
    · obtain ⟨b, o, rfl, hbl, hc⟩ := HP.out (by omega)
      have c0 := hrel.out.2.1.cell (hc k h1).1 id
      have c1 := hrel.out.2.1.cell (hc k h1).2.1 id
      have c2 := hrel.out.2.1.cell (hc k h1).2.2 id
      have hbd := HB.out _ (getD_mem (d := rz) h1)
      have htk := take_getD rz h1
      have hmem : l.getD k rz ∈ l := getD_mem h1
      have HMEM := Hid.mk' hmem
      generalize l.getD k rz = r at *
      obtain ⟨rO, rP, rC⟩ := r
      simp only at c0 c1 c2
      have h1' : (k : Int) < (l.length : Int) := by omega
      have HTK := Hid.mk' htk
      have hKb := Keeps.new wr (.cells #[.int .i64 rO, .int .i64 rP, .int .i64 rC] 38)
      have hBx := (MapKept.heap_alloc wr (.cells #[.int .i64 rO, .int .i64 rP, .int .i64 rC] 38)).1
      have his := (isRun_any (rO, rP, rC) (wr.alloc (.cells #[.int .i64 rO, .int .i64 rP, .int .i64 rC] 38)) hbd)
      have HX := Hid.mk' (And.intro hKb hBx)
      clear hc htk hmem hKb hBx
      cases hok : okRun (rO, rP, rC) with
      | false =>
        rw [hok] at his
        have HO := Hid.mk' hok
        have his' := his.mono (R' := fun e w' => e = .returned (.bool false) ∧ Hid (Keeps (fun _ => False) w w')) (fun e w' ⟨h1, h2⟩ => ⟨h1, (hrel.out.2.1.trans HX.out.1).trans h2⟩)
        clear hok his
        go_wp2_with (first | (go_at_call 27; refine his'.mono ?_; rintro e w2 ⟨rfl, H2⟩))
        go_ret2
        refine .inr ⟨?_, rfl, H2⟩
        rw [List.all_eq_false]
        exact ⟨_, HMEM.out, by rw [HO.out]; decide⟩
      | true =>
        rw [hok] at his
        have HO := Hid.mk' hok
        have hok' : 1 ≤ rC ∧ 1 ≤ rP ∧ 0 ≤ rO ∧ rC ≤ 512 - rO := by simpa [okRun] using hok
        have hbx : ∀ w2 : World, Keeps (fun _ => False) (wr.alloc (.cells #[.int .i64 rO, .int .i64 rP, .int .i64 rC] 38)) w2 → w2.cell? ⟨wr.heap.size, 0, none⟩ = some (.int .i64 rO) ∧ w2.cell? ⟨wr.heap.size, 1, none⟩ = some (.int .i64 rP) ∧ w2.cell? ⟨wr.heap.size, 2, none⟩ = some (.int .i64 rC) := fun w2 hk2 => by
          have := hk2.at HX.out.2 id
          simp [World.cell?, this]
        have his' := his.mono (R' := fun e w' => e = .returned (.bool true) ∧ Hid (Keeps (fun _ => False) w w' ∧ TreeAt w' t (loadTo (l.take k)) ∧ wr.heap.size < w'.heap.size) ∧ w'.cell? ⟨wr.heap.size, 0, none⟩ = some (.int .i64 rO) ∧ w'.cell? ⟨wr.heap.size, 1, none⟩ = some (.int .i64 rP) ∧ w'.cell? ⟨wr.heap.size, 2, none⟩ = some (.int .i64 rC))
          (fun e w' ⟨h1, h2⟩ => ⟨h1, ⟨(hrel.out.2.1.trans HX.out.1).trans h2, (hrel.out.2.2.keep HX.out.1).keep h2, Nat.lt_of_lt_of_le (heap_lt HX.out.2) h2.size⟩, hbx w' h2⟩)
        obtain ⟨C, rfl⟩ := Int.eq_ofNat_of_zero_le (show 0 ≤ rC by omega)
        obtain ⟨O, rfl⟩ := Int.eq_ofNat_of_zero_le hok'.2.2.1
        have htl := hrel.out.2.2.lt
        have HREL := hrel
        clear hok his hbx hrel
        go_wp2_with (first | (go_at_call 27; refine his'.mono ?_; rintro e w2 ⟨rfl, H2, y0, y1, y2⟩))
        have htw : wr.heap.size ≠ t := by omega
        have hOC : O + C ≤ 512 := by omega
        clear hok'
        go_loopw [20] (fun c wx => ∃ j : Nat, j ≤ C ∧ c = .int .i64 j ∧ Hid (Keeps (fun c => c = t) w2 wx ∧ TreeAt wx t (layN (loadTo (l.take k)) ((O : Int), rP, (C : Int)) j))) (fun c _ => C - (intOf c).toNat)
        case atStart => exact ⟨0, by omega, rfl, Keeps.refl _ _, by rw [layN_zero]; exact H2.out.2.1⟩
        case round =>
          obtain ⟨j, hj, rfl, hrel2⟩ := hrel
          have z0 := hrel2.out.1.cell y0 htw
          have z1 := hrel2.out.1.cell y1 htw
          by_cases hlj : j < C
          · have hlj' : (j : Int) < (C : Int) := by omega
            have hset := (set_any wr t _ ((O + j : Nat) : Int) (wrap64 (rP + (j : Int))) hrel2.out.2).mono (R' := fun e w' => e = .returned (.tuple #[.int .i64 (getF (layN (loadTo (l.take k)) ((O : Int), rP, (C : Int)) j) ((O + j : Nat) : Int)), .int .i64 (errF ((O + j : Nat) : Int))]) ∧ Hid (Keeps (fun c => c = t) w2 w' ∧ TreeAt w' t (layN (loadTo (l.take k)) ((O : Int), rP, (C : Int)) (j + 1))))
              (fun e w' ⟨h1, h2, h3⟩ => ⟨h1, hrel2.out.1.trans h2, by
                rw [layN_succ, Int.toNat_natCast, ← setF_nat _ _ (show O + j < 512 by omega)]
                exact h3⟩)
            rw [Int.natCast_add] at hset
            generalize getF (layN (loadTo (l.take k)) ((O : Int), rP, (C : Int)) j) ((O : Int) + (j : Int)) = gt at hset
            generalize errF ((O : Int) + (j : Int)) = er at hset
            go_wp2_with (first | (go_at_call 22; refine hset.mono ?_; rintro e w4 ⟨rfl, H4⟩))
            go_roundw
            case rel => exact ⟨j + 1, by omega, by go_num, H4⟩
            case measure => simp [intOf]; omega
          · have hlj' : ¬ (j : Int) < (C : Int) := by omega
            have HJ := Hid.mk' (show j = C by omega)
            go_wp2
            go_roundw
            case rel =>
              refine ⟨k + 1, by omega, by go_num, ?_, keeps_new H2.out.1 hrel2.out.1 (Nat.le_of_eq H1.out.1.symm), ?_⟩
              · rw [HTK.out, List.all_append, HREL.out.1]; simp [HO.out]
              · rw [HTK.out, loadTo_snoc]; simp only [Int.toNat_natCast]; rw [← HJ.out]; exact hrel2.out.2
            case measure => simp [intOf]; omega
    · have h1' : ¬ (k : Int) < (l.length : Int) := by omega
      have HE := Hid.mk' (show l.take k = l by rw [List.take_of_length_le (by omega)])
      go_wp2
      go_ret2
      have h := hrel.out
      rw [HE.out] at h
      exact .inl ⟨h.1, t, rfl, H1.out.1, h.2⟩

end Go.Proofs.Ytndojlacdggfcab
