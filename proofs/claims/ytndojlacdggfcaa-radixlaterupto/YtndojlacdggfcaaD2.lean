import Derived.Test.YtndojlacdggfcaaD1
namespace Go.Proofs.Ytndojlacdggfcaa
open Go.RowKit

/-- A tree that has just been made. -/
theorem new_tree (w : World) : TreeAt (w.alloc (.cells #[.pointer none, .int .i64 0] 73)) w.heap.size (fun _ => 0) :=
  ⟨none, 0, (MapKept.heap_alloc w _).1, SlotAt.zeros fun _ _ => rfl⟩
theorem keeps_new {w A B : World} {t : Nat} (h : Keeps (fun _ => False) w A) (k : Keeps (fun c => c = t) A B) (ht : w.heap.size ≤ t) : Keeps (fun _ => False) w B := h.then k (by rintro c rfl; exact .inr ht)

set_option maxRecDepth 100000 in
set_option maxHeartbeats 2000000 in
theorem grown_any (w : World) (p : Option Addr) (l : List Put) (cap : Nat) (hp : PutsIn w p l) (hl : l.length ≤ maxLen) :
    Calls Try.prog 9 #[.slice p l.length cap] w fun e w' => ∃ t, e = .returned (.tuple #[.pointer (some ⟨t, 0, none⟩), .bool true]) ∧ t = w.heap.size ∧ Keeps (fun _ => False) w w' ∧ TreeAt w' t (play (l.take 400)) := by
  have hml : l.length ≤ 9223372036854775807 := Nat.le_trans hl (by decide)
  have HP := Hid.mk' hp
  have hnew := new_any w
  have hK0 := Keeps.new w (.cells #[.pointer none, .int .i64 0] 73)
  have hT0 := new_tree w
  have hnew' : Calls Try.prog 30 #[] w fun e w' => ∃ t, e = .returned (.pointer (some ⟨t, 0, none⟩)) ∧ Hid (t = w.heap.size ∧ Keeps (fun _ => False) w w' ∧ TreeAt w' t (fun _ => 0)) :=
    hnew.mono fun e w' ⟨he, hw⟩ => ⟨_, he, rfl, by rw [hw]; exact hK0, by rw [hw]; exact hT0⟩
  clear hp hl hnew hK0 hT0
  go_enter Try.func9, Try.ntmps9
  go_wp2_with (first | (go_at_call 30; refine hnew'.mono ?_; rintro e w1 ⟨t, rfl, H1⟩))
  go_loopw [5] (fun i wr => ∃ k : Nat, k ≤ l.length ∧ k ≤ 400 ∧ i = .int .i64 k ∧ Hid (Keeps (fun _ => False) w wr ∧ TreeAt wr t (play (l.take k)))) (fun i _ => 400 - (intOf i).toNat)
  case atStart => exact ⟨0, by omega, by omega, rfl, H1.out.2⟩
  case round =>
    obtain ⟨k, hk, hk4, rfl, hrel⟩ := hrel
    by_cases h1 : k < l.length
    · by_cases h2 : k < 400
      · obtain ⟨b, o, rfl, hb, hc⟩ := HP.out (by omega)
        have c0 := hrel.out.1.cell (hc k h1).1 id
        have c1 := hrel.out.1.cell (hc k h1).2.1 id
        have c2 := hrel.out.1.cell (hc k h1).2.2 id
        have hbt : b ≠ t := by have := H1.out.1; omega
        have ht := play_snoc (l.take k) (l.getD k d0)
        rw [← take_getD d0 h1] at ht
        generalize l.getD k d0 = q at *
        obtain ⟨qc, x, y⟩ := q
        simp only at c0 c1 c2
        have HT := Hid.mk' ht
        have h1' : (k : Int) < (l.length : Int) := by omega
        have h2' : (k : Int) < 400 := by omega
        have hd1 : decide ((k : Int) < (l.length : Int)) = true := by simpa using h1
        have htb := hrel.out.2.lt
        clear hc ht
        cases qc with
        | true =>
          have hcut := (cut_any wr t x _ hrel.out.2).mono (R' := fun e w' => ∃ s, e = .returned s ∧ Hid (Keeps (fun _ => False) w w' ∧ TreeAt w' t (play (l.take (k + 1))))) (fun e w' ⟨s, he, hk', hT', _⟩ =>
            ⟨s, he, keeps_new hrel.out.1 hk' (Nat.le_of_eq H1.out.1.symm), by rw [HT.out]; exact hT'⟩)
          go_wp2_with (first | (go_at_call 11; refine hcut.mono ?_; rintro e w2 ⟨s, rfl, H2⟩))
          go_roundw
          case rel => exact ⟨k + 1, by omega, by omega, by go_num, H2⟩
          case measure => simp [intOf]; omega
        | false =>
          have hset : ∀ n, Calls Try.prog 12 #[.pointer (some ⟨t, 0, none⟩), .int .i64 x, .int .i64 y] (wr.drewN n) fun e w' => e = .returned (.tuple #[.int .i64 (getF (play (l.take k)) x), .int .i64 (errF x)]) ∧
              Hid (Keeps (fun _ => False) w w' ∧ TreeAt w' t (play (l.take (k + 1)))) ∧ w'.cell? ⟨b, o + k * 3 + 1, none⟩ = some (.int .i64 x) ∧ w'.cell? ⟨b, o + k * 3 + 2, none⟩ = some (.int .i64 y) := fun n => by
            have hkn := Keeps.drewN (fun _ => False) wr n
            have hw2 := H1.out.1
            refine (set_any (wr.drewN n) t _ x y (hrel.out.2.keep hkn)).mono fun e w' ⟨he, hk', hT'⟩ => ⟨he, ⟨keeps_new (hrel.out.1.trans hkn) hk' (Nat.le_of_eq hw2.symm), by rw [HT.out]; exact hT'⟩, ?_, ?_⟩
            · exact hk'.cell (hkn.cell c1 id) hbt
            · exact hk'.cell (hkn.cell c2 id) hbt
          have hcase : (0 ≤ x ∧ x < 512 ∧ errF x = 0) ∨ (x < 0 ∧ errF x = 70) ∨ (0 ≤ x ∧ 512 ≤ x ∧ errF x = 70) := by
            unfold errF isOff
            by_cases h0 : 0 ≤ x
            · by_cases h5 : x < 512
              · left; exact ⟨h0, h5, by simp [h0, h5]⟩
              · right; right; exact ⟨h0, by omega, by simp [h5]⟩
            · right; left; exact ⟨by omega, by simp [h0]⟩
          generalize errF x = er at *
          generalize getF (play (l.take k)) x = gt at *
          go_wp2
          go_region_held3 (fun wx => wx.cell? ⟨b, o + k * 3 + 1, none⟩ = some (.int .i64 x) ∧ wx.cell? ⟨b, o + k * 3 + 2, none⟩ = some (.int .i64 y))
            (first | go_keep)
            (first
              | (go_at_call 12; refine (hset _).mono ?_; rintro e w2 ⟨rfl, H2, x1, x2⟩))
          all_goals
            rcases hcase with ⟨g0, g1, rfl⟩ | ⟨g0, rfl⟩ | ⟨g0, g1, rfl⟩
            all_goals
              go_wp2
              go_roundw
              case rel => exact ⟨k + 1, by omega, by omega, by go_num, H2⟩
              case measure => simp [intOf]; omega
      · have h2' : ¬ (k : Int) < 400 := by omega
        have h1' : (k : Int) < (l.length : Int) := by omega
        obtain rfl : k = 400 := by omega
        go_wp2
        go_ret2
        exact ⟨t, rfl, H1.out.1, hrel.out⟩
    · have h1' : ¬ (k : Int) < (l.length : Int) := by omega
      have hd1 : decide ((k : Int) < (l.length : Int)) = false := by simpa using h1
      have HE := Hid.mk' (show l.take k = l.take 400 by rw [List.take_of_length_le (by omega), List.take_of_length_le (by omega)])
      go_wp2
      go_ret2
      exact ⟨t, rfl, H1.out.1, hrel.out.1, by rw [← HE.out]; exact hrel.out.2⟩

end Go.Proofs.Ytndojlacdggfcaa
