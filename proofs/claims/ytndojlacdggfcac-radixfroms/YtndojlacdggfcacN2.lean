import Derived.Test.YtndojlacdggfcacL3
import Derived.Test.YtndojlacdggfcacN1
namespace Go.Proofs.Ytndojlacdggfcac
open Go.RowKit

set_option maxRecDepth 100000 in
set_option maxHeartbeats 4000000 in
theorem froms_walk (w : World) (p : Option Addr) (cap : Nat) (l : List OpT) (hl : OpIn w p l) (hall : ∀ i, i < l.length → OpOk w (l.getD i opZ)) (hll : l.length ≤ maxLen) :
    Calls Try.prog 4 #[.slice p l.length cap] w fun e w' => e = .returned (.bool true) ∧ Keeps (fun _ => False) w w' := by
  have hml : l.length ≤ 9223372036854775807 := Nat.le_trans hll (by decide)
  have HL := Hid.mk' hl
  have HALL := Hid.mk' hall
  have hbeg := (begin_any w).mono (R' := fun e w' => ∃ b, e = .returned (.tuple #[.pointer (some ⟨b, 0, none⟩), .bool true]) ∧ Hid (PL w w' b)) (fun e w' ⟨b, he, hh⟩ => by
    obtain ⟨hb, hk, ts, rs, ps, qs, hB, hge⟩ := hh.out
    exact ⟨b, he, ts, rs, _, ps, qs, hB, hk, Nat.le_of_eq hb.symm, hge⟩)
  clear hl hall hll
  go_enter Try.func4, Try.ntmps4
  go_wp2_with (first | (go_at_call 6; refine hbeg.mono ?_; rintro e w1 ⟨b, rfl, H1⟩))
  go_loopw [5] (fun i wr => ∃ k : Nat, k ≤ l.length ∧ k ≤ 400 ∧ i = .int .i64 k ∧ Hid (PL w wr b)) (fun i _ => 400 - (intOf i).toNat)
  case atStart => exact ⟨0, by omega, by omega, rfl, H1⟩
  case round =>
    obtain ⟨i, hi1, hi4, rfl, hrel⟩ := hrel
    by_cases h1 : i < l.length
    · by_cases h2 : i < 400
      · obtain ⟨sb, so, rfl, hsb, hc⟩ := HL.out (by omega)
        have hk0 : Keeps (fun _ => False) w wr := by obtain ⟨_, _, _, _, _, _, hk, _⟩ := hrel.out; exact hk
        obtain ⟨c0, c1, c2, c3, c4⟩ := OpT.kept (hc i h1) hk0
        obtain ⟨q1, q2, q3⟩ := HALL.out i h1
        generalize l.getD i opZ = t at *
        obtain ⟨kd, D, off, v, pp, pc, L⟩ := t
        simp only at c0 c1 c2 c3 c4 q1 q2 q3
        have hKb := Keeps.new wr (.cells #[.int .i64 kd, .int .i64 D, .int .i64 off, .int .i64 v, .slice pp L.length pc] 30)
        have HP4 := Hid.mk' (hrel.out.keep hKb)
        have hbx := (MapKept.heap_alloc wr (.cells #[.int .i64 kd, .int .i64 D, .int .i64 off, .int .i64 v, .slice pp L.length pc] 30)).1
        obtain ⟨W4, hW4⟩ : ∃ W4, wr.alloc (.cells #[.int .i64 kd, .int .i64 D, .int .i64 off, .int .i64 v, .slice pp L.length pc] 30) = W4 := ⟨_, rfl⟩
        rw [hW4] at HP4 hbx
        have hplay := (plays_any w W4 b kd D off v pp pc L HP4.out q1 q2 q3).mono (R' := fun e w' => e = .returned (.bool true) ∧ Hid (PL w w' b)) (fun e w' ⟨h1, h2⟩ => ⟨h1, h2⟩)
        have o0 : W4.cell? ⟨wr.heap.size, 0, none⟩ = some (.int .i64 kd) := by simp [World.cell?, hbx]
        have o1 : W4.cell? ⟨wr.heap.size, 1, none⟩ = some (.int .i64 D) := by simp [World.cell?, hbx]
        have o2 : W4.cell? ⟨wr.heap.size, 2, none⟩ = some (.int .i64 off) := by simp [World.cell?, hbx]
        have o3 : W4.cell? ⟨wr.heap.size, 3, none⟩ = some (.int .i64 v) := by simp [World.cell?, hbx]
        have o4 : W4.cell? ⟨wr.heap.size, 4, none⟩ = some (.slice pp L.length pc) := by simp [World.cell?, hbx]
        have h1' : (i : Int) < (l.length : Int) := by omega
        have h2' : (i : Int) < 400 := by omega
        have hd1 : decide ((i : Int) < (l.length : Int)) = true := by simpa using h1
        clear hc hbx hKb hrel hk0 q1 q2 q3
        by_cases e9 : kd = 9
        · subst e9
          have hP4 := HP4.out
          obtain ⟨ts, rs, fs, ps, qs, hB, hk0, hb0, hn0⟩ := HP4.out
          have hd := plc_lt D (show 1 ≤ 3 by omega)
          have hpl := place_q D
          generalize plc D 3 = d at *
          have hd3 : (d : Int) < 3 := by omega
          have hd0 : (0 : Int) ≤ d := by omega
          obtain ⟨g0, g1⟩ := b_cell hB.blk d hd
          rw [hB.ps_eq d hd] at g0
          rw [hB.qs_eq d hd] at g1
          have HBG := Hid.mk' hB
          have hFr : ∀ n, Calls Try.prog 8 #[.pointer (some ⟨rs d, 0, none⟩), .int .i64 off] (W4.drewN n) fun e w' => ∃ a4 cap4, e = .returned (.slice a4 (els (fs d) off 0 512).length cap4) ∧ Hid (Keeps (fun _ => False) W4 w' ∧ Row w' (.slice a4 (els (fs d) off 0 512).length cap4) (els (fs d) off 0 512).length (pflat (els (fs d) off 0 512)) ∧ (els (fs d) off 0 512).length ≤ cap4) ∧
              w'.cell? ⟨wr.heap.size, 1, none⟩ = some (.int .i64 D) ∧ w'.cell? ⟨wr.heap.size, 2, none⟩ = some (.int .i64 off) ∧ w'.cell? ⟨wr.heap.size, 3, none⟩ = some (.int .i64 v) ∧ w'.cell? ⟨b, d, none⟩ = some (.pointer (some ⟨ts d, 0, none⟩)) ∧ w'.cell? ⟨b, 3 + d, none⟩ = some (.pointer (some ⟨rs d, 0, none⟩)) := fun n => by
            have hkn := Keeps.drewN (fun _ => False) W4 n
            refine (ref_from (W4.drewN n) _ _ off (hkn.at (HBG.out.ref d hd) id)).mono fun e w' ⟨s, he, hh⟩ => ?_
            have hkk := hkn.trans hh.out.1
            obtain ⟨a4, cap4, rfl⟩ := ownsRow_slice hh.out.2
            refine ⟨a4, cap4, he, ⟨hkk, Row.of_own hh.out.2, ?_⟩, hkk.cell o1 id, hkk.cell o2 id, hkk.cell o3 id, hkk.cell g0 id, hkk.cell g1 id⟩
            rcases hh.out.2.2 with ⟨h, h2⟩ | ⟨g, cap, cur, h, _, _, h3, _⟩
            · omega
            · cases h; exact h3
          clear hB hk0 hb0 hn0 hP4
          go_wp2
          go_region_held3 (fun wx => wx.cell? ⟨wr.heap.size, 1, none⟩ = some (.int .i64 D) ∧ wx.cell? ⟨wr.heap.size, 2, none⟩ = some (.int .i64 off) ∧ wx.cell? ⟨b, 3 + d, none⟩ = some (.pointer (some ⟨rs d, 0, none⟩)))
            (first | go_keep)
            (first
              | (go_at_call 7; refine (hpl _).mono ?_; rintro e w' ⟨rfl, hw⟩; subst w')
              | (go_at_call 8; refine (hFr _).mono ?_; rintro e w5 ⟨a4, cap4, rfl, H5, m1, m2, m3, m4, m5⟩))
          all_goals
            have hlaw : ∀ n, Calls Try.prog 9 #[.pointer (some ⟨ts d, 0, none⟩), .slice a4 (els (fs d) off 0 512).length cap4, .int .i64 off, .int .i64 v] (w5.drewN n) fun e w' => e = .returned (.bool true) ∧ Hid (PL w w' b) ∧ w'.cell? ⟨wr.heap.size, 1, none⟩ = some (.int .i64 D) ∧ w'.cell? ⟨wr.heap.size, 2, none⟩ = some (.int .i64 off) ∧ w'.cell? ⟨wr.heap.size, 3, none⟩ = some (.int .i64 v) ∧ w'.cell? ⟨b, d, none⟩ = some (.pointer (some ⟨ts d, 0, none⟩)) := fun n => by
              have hkn := Keeps.drewN (fun _ => False) w5 n
              refine (from_law (w5.drewN n) _ (fs d) off v a4 cap4 _ rfl ((HBG.out.tree d hd).keep (H5.out.1.trans hkn)) (H5.out.2.1.keep hkn) H5.out.2.2).mono fun e w' ⟨h1, h2⟩ => ?_
              have hkk := hkn.trans h2
              exact ⟨h1, HP4.out.keep (H5.out.1.trans hkk), hkk.cell m1 id, hkk.cell m2 id, hkk.cell m3 id, hkk.cell m4 id⟩
            go_wp2
            go_region_held3 (fun wx => wx.cell? ⟨wr.heap.size, 1, none⟩ = some (.int .i64 D) ∧ wx.cell? ⟨wr.heap.size, 2, none⟩ = some (.int .i64 off) ∧ wx.cell? ⟨wr.heap.size, 3, none⟩ = some (.int .i64 v) ∧ wx.cell? ⟨b, d, none⟩ = some (.pointer (some ⟨ts d, 0, none⟩)))
              (first | go_keep)
              (first
                | (go_at_call 7; refine (hpl _).mono ?_; rintro e w' ⟨rfl, hw⟩; subst w')
                | (go_at_call 9; refine (hlaw _).mono ?_; rintro e w6 ⟨rfl, H6, n1, n2, n3, n4⟩))
            all_goals
              go_wp2
              go_roundw
              case rel => exact ⟨i + 1, by omega, by omega, by go_num, H6⟩
              case measure => simp [intOf]; omega
        · have e9b : (kd == 9) = false := by simpa using e9
          by_cases e1 : kd = 1
          · subst e1
            go_wp2_with (first | (go_at_call 10; refine hplay.mono ?_; rintro e w5 ⟨rfl, H5⟩))
            go_roundw
            case rel => exact ⟨i + 1, by omega, by omega, by go_num, H5⟩
            case measure => simp [intOf]; omega
          · by_cases e4 : kd = 4
            · subst e4
              go_wp2_with (first | (go_at_call 10; refine hplay.mono ?_; rintro e w5 ⟨rfl, H5⟩))
              go_roundw
              case rel => exact ⟨i + 1, by omega, by omega, by go_num, H5⟩
              case measure => simp [intOf]; omega
            · have e1b : (kd == 1) = false := by simpa using e1
              have e4b : (kd == 4) = false := by simpa using e4
              by_cases e6 : 6 ≤ kd
              · skip
                go_wp2_with (first | (go_at_call 10; refine hplay.mono ?_; rintro e w5 ⟨rfl, H5⟩))
                go_roundw
                case rel => exact ⟨i + 1, by omega, by omega, by go_num, H5⟩
                case measure => simp [intOf]; omega
              · have e6' : kd < 6 := by omega
                go_wp2
                go_roundw
                case rel => exact ⟨i + 1, by omega, by omega, by go_num, HP4⟩
                case measure => simp [intOf]; omega
      · have h2' : ¬ (i : Int) < 400 := by omega
        have h1' : (i : Int) < (l.length : Int) := by omega
        obtain rfl : i = 400 := by omega
        go_wp2
        go_ret
        exact ⟨rfl, by obtain ⟨_, _, _, _, _, _, hk, _⟩ := hrel.out; exact hk⟩
    · have h1' : ¬ (i : Int) < (l.length : Int) := by omega
      have hd1 : decide ((i : Int) < (l.length : Int)) = false := by simpa using h1
      go_wp2
      go_ret
      exact ⟨rfl, by obtain ⟨_, _, _, _, _, _, hk, _⟩ := hrel.out; exact hk⟩

end Go.Proofs.Ytndojlacdggfcac
