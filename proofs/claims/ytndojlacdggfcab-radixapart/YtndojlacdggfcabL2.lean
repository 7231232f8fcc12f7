import Derived.Test.YtndojlacdggfcabL1
namespace Go.Proofs.Ytndojlacdggfcab
open Go.RowKit

structure OpT where
  k : Int
  D : Int
  off : Int
  v : Int
  pp : Option Addr
  pc : Nat
  l : List Rn
def opZ : OpT := ⟨0, 0, 0, 0, none, 0, []⟩
instance : Inhabited OpT := ⟨opZ⟩
def OpT.at_ (t : OpT) (w : World) (b o : Nat) : Prop :=
  w.cell? ⟨b, o, none⟩ = some (.int .i64 t.k) ∧ w.cell? ⟨b, o + 1, none⟩ = some (.int .i64 t.D) ∧ w.cell? ⟨b, o + 2, none⟩ = some (.int .i64 t.off) ∧ w.cell? ⟨b, o + 3, none⟩ = some (.int .i64 t.v) ∧ w.cell? ⟨b, o + 4, none⟩ = some (.slice t.pp t.l.length t.pc)
def OpIn (w : World) (p : Option Addr) (l : List OpT) : Prop :=
  0 < l.length → ∃ b o, p = some ⟨b, o, none⟩ ∧ b < w.heap.size ∧ ∀ i, i < l.length → (l.getD i opZ).at_ w b (o + i * 5)
theorem OpT.kept {t : OpT} {w w' : World} {b o : Nat} (h : t.at_ w b o) (k : Keeps (fun _ => False) w w') : t.at_ w' b o :=
  ⟨k.cell h.1 id, k.cell h.2.1 id, k.cell h.2.2.1 id, k.cell h.2.2.2.1 id, k.cell h.2.2.2.2 id⟩
def OpOk (w : World) (t : OpT) : Prop := RnIn w t.pp t.l ∧ t.l.length * 24 ≤ 140737488355328 ∧ ∀ r ∈ t.l, bdR r

set_option maxRecDepth 100000 in
set_option maxHeartbeats 4000000 in
theorem upTo_any (w : World) (p : Option Addr) (cap : Nat) (l : List OpT) (lo hi : Int) (hl : OpIn w p l) (hall : ∀ i, i < l.length → OpOk w (l.getD i opZ)) (hll : l.length ≤ maxLen) :
    Calls Try.prog 23 #[.slice p l.length cap, .int .i64 lo, .int .i64 hi] w fun e w' => e = .returned (.bool true) ∧ Keeps (fun _ => False) w w' := by
  have hml : l.length ≤ 9223372036854775807 := Nat.le_trans hll (by decide)
  have HL := Hid.mk' hl
  have HALL := Hid.mk' hall
  have hbeg := (begin_any w).mono (R' := fun e w' => ∃ b, e = .returned (.tuple #[.pointer (some ⟨b, 0, none⟩), .bool true]) ∧ Hid (PL w w' b)) (fun e w' ⟨b, he, hh⟩ => by
    obtain ⟨hb, hk, ts, rs, ps, qs, hB, hge⟩ := hh.out
    exact ⟨b, he, ts, rs, _, ps, qs, hB, hk, Nat.le_of_eq hb.symm, hge⟩)
  clear hl hall hll
  go_enter Try.func23, Try.ntmps23
  go_wp2_with (first | (go_at_call 33; refine hbeg.mono ?_; rintro e w1 ⟨b, rfl, H1⟩))
  go_loopw [9] (fun i wr => ∃ k : Nat, k ≤ l.length ∧ k ≤ 400 ∧ i = .int .i64 k ∧ Hid (PL w wr b)) (fun i _ => 400 - (intOf i).toNat)
  case atStart => exact ⟨0, by omega, by omega, rfl, H1⟩
  case round =>
    obtain ⟨i, hi1, hi4, rfl, hrel⟩ := hrel
    by_cases h1 : i < l.length
    · by_cases h2 : i < 400
      · obtain ⟨sb, so, rfl, hsb, hc⟩ := HL.out (by omega)
        have hk0 : Keeps (fun _ => False) w wr := by obtain ⟨_, _, _, _, _, _, hk, _⟩ := hrel.out; exact hk
        obtain ⟨c0, c1, c2, c3, c4⟩ := OpT.kept (hc i h1) hk0
        obtain ⟨q1, q2, q3⟩ := HALL.out i h1
        generalize l.getD i opZ = t at *
        obtain ⟨kd, D, off, v, pp, pc, L⟩ := t
        simp only at c0 c1 c2 c3 c4 q1 q2 q3
        have hKb := Keeps.new wr (.cells #[.int .i64 kd, .int .i64 D, .int .i64 off, .int .i64 v, .slice pp L.length pc] 68)
        have HP4 := Hid.mk' (hrel.out.keep hKb)
        have hbx := (MapKept.heap_alloc wr (.cells #[.int .i64 kd, .int .i64 D, .int .i64 off, .int .i64 v, .slice pp L.length pc] 68)).1
        obtain ⟨W4, hW4⟩ : ∃ W4, wr.alloc (.cells #[.int .i64 kd, .int .i64 D, .int .i64 off, .int .i64 v, .slice pp L.length pc] 68) = W4 := ⟨_, rfl⟩
        rw [hW4] at HP4 hbx
        have hplay := (plays_any w W4 b kd D off v pp pc L HP4.out q1 q2 q3).mono (R' := fun e w' => e = .returned (.bool true) ∧ Hid (PL w w' b)) (fun e w' ⟨h1, h2⟩ => ⟨h1, h2⟩)
        have o0 : W4.cell? ⟨wr.heap.size, 0, none⟩ = some (.int .i64 kd) := by simp [World.cell?, hbx]
        have o1 : W4.cell? ⟨wr.heap.size, 1, none⟩ = some (.int .i64 D) := by simp [World.cell?, hbx]
        have o2 : W4.cell? ⟨wr.heap.size, 2, none⟩ = some (.int .i64 off) := by simp [World.cell?, hbx]
        have o3 : W4.cell? ⟨wr.heap.size, 3, none⟩ = some (.int .i64 v) := by simp [World.cell?, hbx]
        have o4 : W4.cell? ⟨wr.heap.size, 4, none⟩ = some (.slice pp L.length pc) := by simp [World.cell?, hbx]
        have h1' : (i : Int) < (l.length : Int) := by omega
        have h2' : (i : Int) < 400 := by omega
        have hd1 : decide ((i : Int) < (l.length : Int)) = true := by simpa using h1
        clear hc hbx hKb hrel hk0 q1 q2 q3
        by_cases e1 : kd = 1
        · subst e1
          by_cases hlo : lo ≤ (1 : Int)
          · by_cases hhi : (1 : Int) ≤ hi
            · skip
              go_wp2_with (first | (go_at_call 34; refine hplay.mono ?_; rintro e w5 ⟨rfl, H5⟩))
              go_roundw
              case rel => exact ⟨i + 1, by omega, by omega, by go_num, H5⟩
              case measure => simp [intOf]; omega
            · have hhi' : hi < (1 : Int) := by omega
              go_wp2_with (first | (go_at_call 34; refine hplay.mono ?_; rintro e w5 ⟨rfl, H5⟩))
              go_roundw
              case rel => exact ⟨i + 1, by omega, by omega, by go_num, H5⟩
              case measure => simp [intOf]; omega
          · have hlo' : (1 : Int) < lo := by omega
            go_wp2_with (first | (go_at_call 34; refine hplay.mono ?_; rintro e w5 ⟨rfl, H5⟩))
            go_roundw
            case rel => exact ⟨i + 1, by omega, by omega, by go_num, H5⟩
            case measure => simp [intOf]; omega
        · by_cases e4 : kd = 4
          · subst e4
            by_cases hlo : lo ≤ (4 : Int)
            · by_cases hhi : (4 : Int) ≤ hi
              · skip
                go_wp2_with (first | (go_at_call 34; refine hplay.mono ?_; rintro e w5 ⟨rfl, H5⟩))
                go_roundw
                case rel => exact ⟨i + 1, by omega, by omega, by go_num, H5⟩
                case measure => simp [intOf]; omega
              · have hhi' : hi < (4 : Int) := by omega
                go_wp2_with (first | (go_at_call 34; refine hplay.mono ?_; rintro e w5 ⟨rfl, H5⟩))
                go_roundw
                case rel => exact ⟨i + 1, by omega, by omega, by go_num, H5⟩
                case measure => simp [intOf]; omega
            · have hlo' : (4 : Int) < lo := by omega
              go_wp2_with (first | (go_at_call 34; refine hplay.mono ?_; rintro e w5 ⟨rfl, H5⟩))
              go_roundw
              case rel => exact ⟨i + 1, by omega, by omega, by go_num, H5⟩
              case measure => simp [intOf]; omega
          · have e1b : (kd == 1) = false := by simpa using e1
            have e4b : (kd == 4) = false := by simpa using e4
            by_cases e6 : 6 ≤ kd
            · skip
              by_cases hlo : lo ≤ kd
              · by_cases hhi : kd ≤ hi
                · skip
                  go_wp2_with (first | (go_at_call 34; refine hplay.mono ?_; rintro e w5 ⟨rfl, H5⟩))
                  go_roundw
                  case rel => exact ⟨i + 1, by omega, by omega, by go_num, H5⟩
                  case measure => simp [intOf]; omega
                · have hhi' : hi < kd := by omega
                  go_wp2_with (first | (go_at_call 34; refine hplay.mono ?_; rintro e w5 ⟨rfl, H5⟩))
                  go_roundw
                  case rel => exact ⟨i + 1, by omega, by omega, by go_num, H5⟩
                  case measure => simp [intOf]; omega
              · have hlo' : kd < lo := by omega
                go_wp2_with (first | (go_at_call 34; refine hplay.mono ?_; rintro e w5 ⟨rfl, H5⟩))
                go_roundw
                case rel => exact ⟨i + 1, by omega, by omega, by go_num, H5⟩
                case measure => simp [intOf]; omega
            · have e6' : kd < 6 := by omega
              by_cases hlo : lo ≤ kd
              · by_cases hhi : kd ≤ hi
                · skip
                  go_wp2_with (first | (go_at_call 34; refine hplay.mono ?_; rintro e w5 ⟨rfl, H5⟩))
                  go_roundw
                  case rel => exact ⟨i + 1, by omega, by omega, by go_num, H5⟩
                  case measure => simp [intOf]; omega
                · have hhi' : hi < kd := by omega
                  go_wp2
                  go_roundw
                  case rel => exact ⟨i + 1, by omega, by omega, by go_num, HP4⟩
                  case measure => simp [intOf]; omega
              · have hlo' : kd < lo := by omega
                go_wp2
                go_roundw
                case rel => exact ⟨i + 1, by omega, by omega, by go_num, HP4⟩
                case measure => simp [intOf]; omega
      · have h2' : ¬ (i : Int) < 400 := by omega
        have h1' : (i : Int) < (l.length : Int) := by omega
        obtain rfl : i = 400 := by omega
        go_wp2
        go_ret
        exact ⟨rfl, by obtain ⟨_, _, _, _, _, _, hk, _⟩ := hrel.out; exact hk⟩
    · have h1' : ¬ (i : Int) < (l.length : Int) := by omega
      have hd1 : decide ((i : Int) < (l.length : Int)) = false := by simpa using h1
      go_wp2
      go_ret
      exact ⟨rfl, by obtain ⟨_, _, _, _, _, _, hk, _⟩ := hrel.out; exact hk⟩

end Go.Proofs.Ytndojlacdggfcab
