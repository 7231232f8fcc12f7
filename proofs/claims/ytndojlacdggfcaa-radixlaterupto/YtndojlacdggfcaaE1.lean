import Derived.Test.YtndojlacdggfcaaD2
namespace Go.Proofs.Ytndojlacdggfcaa
open Go.RowKit

theorem els_succ (g : Nat → Int) (lo : Int) (k : Nat) (hk : k < 512) : (els g lo 0 (k + 1)).length = (els g lo 0 k).length + (if lo ≤ (k : Int) ∧ g k ≠ 0 then 1 else 0) := by
  rw [els_add, List.length_append, Nat.zero_add]
  congr 1
  split
  · rename_i h
    rw [els_one hk h.1 h.2]; rfl
  · rename_i h
    rw [els_none]
    · rfl
    · intro o h1 h2
      obtain rfl : o = k := by omega
      by_cases h3 : lo ≤ (o : Int)
      · right
        by_cases h4 : g o = 0
        · exact h4
        · exact absurd ⟨h3, h4⟩ h
      · left; omega
theorem getF_nat (g : Nat → Int) {o : Nat} (h : o < 512) : getF g (o : Int) = g o := by simp [getF, isOff_of h]
theorem getF_no (g : Nat → Int) {x : Int} (h : isOff x = false) : getF g x = 0 := by simp [getF, h]

set_option maxRecDepth 100000 in
set_option maxHeartbeats 2000000 in
theorem last_walk (w : World) (p : Option Addr) (l : List Put) (cap : Nat) (x y : Int) (hp : PutsIn w p l) (hl : l.length ≤ maxLen) :
    Calls Try.prog 6 #[.slice p l.length cap, .int .i64 x, .int .i64 y] w fun e w' => e = .returned (.bool true) ∧ Keeps (fun _ => False) w w' := by
  obtain ⟨g, hg⟩ : ∃ g, g = play (l.take 400) := ⟨_, rfl⟩
  have hgr := grown_any w p l cap hp hl
  rw [← hg] at hgr
  have hpl : ∀ o, o < 512 → g o = lastV l (o : Int) := fun o ho => by rw [hg]; exact play_last _ o ho
  clear hg
  have hgr' : Calls Try.prog 9 #[.slice p l.length cap] w fun e w' => ∃ t, e = .returned (.tuple #[.pointer (some ⟨t, 0, none⟩), .bool true]) ∧ Hid (t = w.heap.size ∧ Keeps (fun _ => False) w w' ∧ TreeAt w' t g) := hgr
  have hLast : ∀ wx (o : Int), Keeps (fun _ => False) w wx → Calls Try.prog 14 #[.slice p l.length cap, .int .i64 o] wx fun e w' => e = .returned (.int .i64 (lastV l o)) ∧ wx = w' := fun wx o hk => (last_any wx p l cap o (hp.grown hk) hl).mono fun e w' ⟨h1, h2⟩ => ⟨h1, h2.symm⟩
  have hpl3 := fun wx => place_any x 512 wx (by omega) (by omega)
  have hq3 := plc_lt x (show 1 ≤ 512 by omega)
  generalize plc x 512 = q at hpl3 hq3
  clear hp hl hgr
  go_enter Try.func6, Try.ntmps6
  go_wp2_with (first | (go_at_call 9; refine hgr'.mono ?_; rintro e w1 ⟨t, rfl, H1⟩))
  have hG : ∀ wx (o : Int), Keeps (fun _ => False) w1 wx → Calls Try.prog 13 #[.pointer (some ⟨t, 0, none⟩), .int .i64 o] wx fun e w' => e = .returned (.int .i64 (getF g o)) ∧ Hid (Keeps (fun _ => False) w1 w') := fun wx o hk =>
    (get_any wx t g o (H1.out.2.2.keep hk)).mono fun e w' ⟨h1, h2⟩ => ⟨h1, hk.trans h2⟩
  have hL : ∀ wx, Keeps (fun _ => False) w1 wx → Calls Try.prog 22 #[.pointer (some ⟨t, 0, none⟩)] wx fun e w' => e = .returned (.int .i64 ((els g 0 0 512).length : Int)) ∧ Hid (Keeps (fun _ => False) w1 w') := fun wx hk =>
    (len_any wx t g (H1.out.2.2.keep hk)).mono fun e w' ⟨h1, h2⟩ => ⟨h1, hk.trans h2⟩
  go_loopw [9, 10] (fun n i wr => ∃ k : Nat, k ≤ 512 ∧ i = .int .i64 k ∧ n = .int .i64 ((els g 0 0 k).length : Int) ∧ Hid (Keeps (fun _ => False) w1 wr)) (fun _ i _ => 512 - (intOf i).toNat)
  case atStart => exact ⟨0, by omega, rfl, rfl, Keeps.refl _ _⟩
  case round =>
    obtain ⟨k, hk, rfl, rfl, H2⟩ := hrel
    by_cases h1 : k < 512
    · have h1' : (k : Int) < 512 := by omega
      have ha := hLast wr (k : Int) (H1.out.2.1.trans H2.out)
      have hb := hG wr (k : Int) H2.out
      rw [← hpl k h1] at ha
      rw [getF_nat g h1] at hb
      have hs := els_succ g 0 k h1
      have hln := els_len g 0 0 k
      by_cases h0 : g k = 0
      · rw [if_neg (by simp [h0])] at hs
        rw [h0] at ha hb
        have HS := Hid.mk' hs
        clear hs hpl hG hL hLast
        go_wp2_with (first
          | (go_at_call 13; refine hb.mono ?_; rintro e w3 ⟨rfl, H3⟩)
          | (go_at_call 14; refine ha.mono ?_; rintro e w2 ⟨rfl, hw⟩; subst hw))
        go_roundw
        case rel => exact ⟨k + 1, by omega, by go_num, by rw [HS.out]; rfl, H3⟩
        case measure => simp [intOf]; omega
      · rw [if_pos ⟨by omega, h0⟩] at hs
        have h0b : (g k == 0) = false := by simpa using h0
        have HS := Hid.mk' hs
        clear hs hpl hG hL hLast
        go_wp2_with (first
          | (go_at_call 13; refine hb.mono ?_; rintro e w3 ⟨rfl, H3⟩)
          | (go_at_call 14; refine ha.mono ?_; rintro e w2 ⟨rfl, hw⟩; subst hw))
        go_roundw
        case rel => exact ⟨k + 1, by omega, by go_num, by rw [HS.out]; go_num, H3⟩
        case measure => simp [intOf]; omega
    · obtain rfl : k = 512 := by omega
      have hS : ∀ wx, Keeps (fun _ => False) w1 wx → Calls Try.prog 12 #[.pointer (some ⟨t, 0, none⟩), .int .i64 (q : Int), .int .i64 y] wx fun e w' => e = .returned (.tuple #[.int .i64 (g q), .int .i64 0]) ∧ Hid (Keeps (fun _ => False) w w' ∧ TreeAt w' t (upd g q y)) := fun wx hk => by
        refine (set_any wx t g q y (H1.out.2.2.keep hk)).mono fun e w' ⟨h1, h2, h3⟩ => ⟨?_, keeps_new (H1.out.2.1.trans hk) h2 (Nat.le_of_eq H1.out.1.symm), ?_⟩
        · rw [h1, getF_nat g hq3]; simp [errF, isOff_of hq3]
        · simpa [setF, isOff_of hq3] using h3
      have hn1 := getF_no g (x := -1) (by decide)
      have hn2 := getF_no g (x := 512) (by decide)
      have hq := hpl q hq3
      have hgq : g q = lastV l (q : Int) := hpl q hq3
      have hG1 := fun wx h => hG wx (-1) h
      have hG2 := fun wx h => hG wx 512 h
      rw [hn1] at hG1
      rw [hn2] at hG2
      have hG3 : ∀ wx, TreeAt wx t (upd g q y) → Calls Try.prog 13 #[.pointer (some ⟨t, 0, none⟩), .int .i64 (q : Int)] wx fun e w' => e = .returned (.int .i64 y) ∧ Hid (Keeps (fun _ => False) wx w') := fun wx hT => by
        have := get_any wx t _ (q : Int) hT
        rw [getF_nat _ hq3] at this
        have e : upd g q y q = y := by simp [upd]
        rw [e] at this
        exact this
      have hLq := fun wx h => hLast wx (q : Int) h
      rw [← hgq] at hLq
      have hlq : (els g 0 0 512).length ≤ 512 := els_len g 0 0 512
      clear hpl hG hLast hn1 hn2 hq hgq
      generalize (els g 0 0 512).length = n at *
      generalize g q = gq at *
      go_wp2_with (first
        | (go_at_call 13; refine (hG3 _ H6.out.2).mono ?_; rintro e w7 ⟨rfl, H7⟩)
        | (go_at_call 14; refine (hLq _ H6.out.1).mono ?_; rintro e w7 ⟨rfl, hw⟩; subst hw)
        | (go_at_call 12; refine (hS _ H5.out).mono ?_; rintro e w6 ⟨rfl, H6⟩)
        | (go_at_call 16; refine (hpl3 _).mono ?_; rintro e w6 ⟨rfl, hw⟩; subst hw)
        | (go_at_call 13; refine (hG2 _ H4.out).mono ?_; rintro e w5 ⟨rfl, H5⟩)
        | (go_at_call 13; refine (hG1 _ H3.out).mono ?_; rintro e w4 ⟨rfl, H4⟩)
        | (go_at_call 22; refine (hL _ H2.out).mono ?_; rintro e w3 ⟨rfl, H3⟩))
      go_ret
      exact ⟨rfl, H6.out.1.trans H7.out⟩

end Go.Proofs.Ytndojlacdggfcaa
