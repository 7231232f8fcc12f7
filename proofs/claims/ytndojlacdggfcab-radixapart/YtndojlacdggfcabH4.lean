import Derived.Test.YtndojlacdggfcabH3
namespace Go.Proofs.Ytndojlacdggfcab
open Go.RowKit

def clr (f : Nat → Int) (pre : List El) : Nat → Int := pre.foldl (fun f x => upd f x.1.val 0) f
theorem clr_snoc (f : Nat → Int) (pre : List El) (x : El) : clr f (pre ++ [x]) = upd (clr f pre) x.1.val 0 := by simp [clr]
theorem clr_els (f : Nat → Int) (lo : Int) (n : Nat) (hn : n ≤ 512) : ∀ o, clr f (els f lo 0 n) o = if o < n ∧ lo ≤ (o : Int) then 0 else f o := by
  induction n with
  | zero => intro o; simp [els_zero, clr]
  | succ n ih =>
    intro o
    rw [els_snoc f lo n (by omega)]
    by_cases h : lo ≤ (n : Int) ∧ f n ≠ 0
    · rw [if_pos h, clr_snoc]
      simp only [upd]
      by_cases h2 : o = n
      · rw [if_pos h2, if_pos ⟨by omega, by rw [h2]; exact h.1⟩]
      · rw [if_neg h2, ih (by omega)]
        by_cases h3 : o < n ∧ lo ≤ (o : Int)
        · rw [if_pos h3, if_pos ⟨by omega, h3.2⟩]
        · rw [if_neg h3, if_neg (by omega)]
    · rw [if_neg h, List.append_nil, ih (by omega)]
      by_cases h2 : o = n
      · subst h2
        rw [if_neg (by omega)]
        by_cases h3 : lo ≤ (o : Int)
        · rw [if_pos ⟨by omega, h3⟩]
          by_cases h4 : f o = 0
          · exact h4
          · exact absurd ⟨h3, h4⟩ h
        · rw [if_neg (by omega)]
      · by_cases h3 : o < n ∧ lo ≤ (o : Int)
        · rw [if_pos h3, if_pos ⟨by omega, h3.2⟩]
        · rw [if_neg h3, if_neg (by omega)]
theorem clr_cut (f : Nat → Int) (lo : Int) : ∀ o, o < 512 → clr f (els f lo 0 512) o = cutF f 0 lo o := by
  intro o ho
  rw [clr_els f lo 512 (by omega)]
  simp only [cutF, Nat.zero_add]
  by_cases h : (o : Int) < lo
  · rw [if_pos h, if_neg (by omega)]
  · rw [if_neg h, if_pos ⟨ho, by omega⟩]

def e0 : El := (⟨0, by decide⟩, 0)
theorem pflat_get (L : List El) (k : Nat) (hk : k < L.length) : (pflat L)[k * 2]? = some (.int .i64 ((L.getD k e0).1.val : Int)) ∧ (pflat L)[k * 2 + 1]? = some (.int .i64 (L.getD k e0).2) := by
  induction L generalizing k with
  | nil => simp at hk
  | cons x L ih =>
    cases k with
    | zero => exact ⟨rfl, rfl⟩
    | succ k =>
      have := ih k (by simpa using hk)
      have e : pflat (x :: L) = .int .i64 (x.1.val : Int) :: .int .i64 x.2 :: pflat L := rfl
      rw [e, show (k + 1) * 2 = k * 2 + 1 + 1 by omega, show k * 2 + 1 + 1 + 1 = (k * 2 + 1) + 1 + 1 by omega]
      simpa using this
theorem info3' : (Try.prog.info? 3).map (fun i => (i.zero, i.size, i.bytes)) = some (some (.int .i64 0), 1, 8) := info3

set_option maxRecDepth 100000 in
set_option maxHeartbeats 2000000 in
theorem ref_cut (w : World) (b : Nat) (f : Nat → Int) (lo : Int) (h : RefAt w b f) : Calls Try.prog 45 #[.pointer (some ⟨b, 0, none⟩), .int .i64 lo] w fun e w' =>
    ∃ s, e = .returned s ∧ Hid (Keeps (fun c => c = b) w w' ∧ RefAt w' b (cutF f 0 lo) ∧ w'.ownsRow w.heap.size 3 1 s (els f lo 0 512).length ((els f lo 0 512).map val)) := by
  obtain ⟨i0, hi, hz0, hz1, hz2⟩ := info_parts info3
  have hll := els_len f lo 0 512
  have hcut := clr_cut f lo
  obtain ⟨L, hL⟩ : ∃ L, els f lo 0 512 = L := ⟨_, rfl⟩
  have hf := (ref_from w b f lo h).mono (R' := fun e w' => ∃ a cap, e = .returned (.slice a L.length cap) ∧ Hid (Keeps (fun _ => False) w w' ∧ w'.ownsRow w.heap.size 90 2 (.slice a L.length cap) L.length (pflat L) ∧ RefAt w' b f)) (fun e w' ⟨s, he, hs⟩ => by
    obtain ⟨a, cap, rfl⟩ := ownsRow_slice hs.out.2
    rw [hL] at he hs
    exact ⟨a, cap, he, hs.out.1, hs.out.2, hs.out.1.at h id⟩)
  have hbl := heap_lt h
  rw [hL] at hll hcut ⊢
  have HCUT := Hid.mk' hcut
  clear hcut hL h
  go_enter Try.func45, Try.ntmps45
  go_wp2_with (first | (go_at_call 49; refine hf.mono ?_; rintro e w1 ⟨a, cap, rfl, H1⟩))
  go_loopw [6, 7] (fun v i wr => ∃ k : Nat, k ≤ L.length ∧ i = .int .i64 k ∧ Hid (Keeps (fun c => c = b) w1 wr ∧ RefAt wr b (clr f (L.take k)) ∧ wr.ownsRow w1.heap.size 3 1 v k ((L.take k).map val))) (fun _ i _ => L.length - (intOf i).toNat)
  case atStart => exact ⟨0, by omega, rfl, Keeps.refl _ _, H1.out.2.2, World.ownsRow_nil _ _ _ _⟩
  case round =>
    obtain ⟨k, hk, rfl, hrel⟩ := hrel
    by_cases h1 : k < L.length
    · have h1' : (k : Int) < (L.length : Int) := by omega
      obtain ⟨gb, cap', hsl⟩ : ∃ gb cap', (Value.slice a L.length cap) = .slice (some ⟨gb, 0, none⟩) L.length cap' := by
        rcases H1.out.2.1.2 with ⟨h, h2⟩ | ⟨g, cap, cur, h, _⟩
        · omega
        · exact ⟨g, cap, h⟩
      cases hsl
      have hown := H1.out.2.1
      have hcs := hown.cells (g := gb) rfl
      have hgl := hown.lt gb rfl
      obtain ⟨p0, p1⟩ := pflat_get L k h1
      have hadd : ∀ j, (⟨gb, 0, none⟩ : Addr).add j = ⟨gb, j, none⟩ := by intro j; unfold Addr.add; split <;> simp_all
      have hne : gb ≠ b := by omega
      have q0 := hrel.out.1.cell (show w1.cell? ⟨gb, k * 2, none⟩ = _ by have := hcs _ _ p0; rwa [hadd] at this) hne
      have q1 := hrel.out.1.cell (show w1.cell? ⟨gb, k * 2 + 1, none⟩ = _ by have := hcs _ _ p1; rwa [hadd] at this) hne
      have htk := take_getD e0 h1
      have hcap : L.length ≤ 512 := hll
      generalize L.getD k e0 = x at *
      obtain ⟨⟨xo, hxo⟩, xv⟩ := x
      simp only at q0 q1
      have hrow := hrel.out.2.2
      have hle := hrel.out.1.size
      have HTK := Hid.mk' htk
      have hxo' : (xo : Int) < 512 := by omega
      clear hown hcs p0 p1 htk
      go_wp2_with (at_builtin; refine wpList_append_own _ rfl _ _ 41 rfl w1.heap.size 3 i0 (.int .i64 0) 1 8 Try.underlying41 hi hz0 hz1 hz2 rfl (by decide) _ _ _ rfl (hrow.alloc _) ⟨wr.heap.size, 0, none⟩ 1 1 [.int .i64 xv] rfl rfl (cell_one_new _ _ _) (by simp [Value.oneCell']) (by simp [maxLen]; omega) (by omega) (by simp; omega) ?_; intro v' w2 hown' hgrow _; have HA := Hid.mk' (And.intro hown' hgrow); clear hown' hgrow)
      have hk12 : Keeps (fun c => c = b) w1 w2 := (hrel.out.1.trans ((Keeps.new wr _).mono (fun _ _ h => h.elim))).step HA.out.2 (fun c hc => .inr (hrow.lt c hc).1)
      have hr2 : RefAt w2 b (clr f (L.take k)) := by
        have h2 := (Keeps.new wr (.cells #[.int .i64 xv] 3)).at hrel.out.2.1 id
        refine (HA.out.2.block b (heap_lt h2) ?_).trans h2
        intro e
        have := (hrow.lt b e.symm).1
        have := H1.out.1.size
        omega
      have q0' : w2.cell? ⟨gb, k * 2, none⟩ = some (.int .i64 (xo : Int)) := by
        have h2 := (Keeps.new wr (.cells #[.int .i64 xv] 3)).cell q0 id
        refine (World.cell?_of_block (HA.out.2.block gb ?_ ?_)).trans h2
        · have := hrel.out.1.size; simp; omega
        · intro e
          have := (hrow.lt gb e.symm).1
          omega
      have s0 := ref_cell hr2 xo hxo
      have s1 := ref_frozen hr2 xo
      have hset := ref_set hr2 xo 0
      have hks := Keeps.of (X := fun c => c = b) (grownBy_setCell w2 ⟨b, xo, none⟩ (.int .i64 0)) (by rintro c hc; cases hc; exact .inl rfl)
      have hown2 := ownsRow_keeps HA.out.1 hks (fun c hc h => by have := (HA.out.1.lt c hc).1; have := H1.out.1.size; omega)
      have HN := Hid.mk' (And.intro (hk12.trans hks) (And.intro hset hown2))
      clear hset hks hown2 hk12 hr2 q0 q1
      go_region
      all_goals
        go_wp2
        go_roundw
        case rel =>
          refine ⟨k + 1, by omega, by go_num, HN.out.1.trans (Keeps.drewN _ _ 1), ?_, ?_⟩
          · rw [HTK.out, clr_snoc]; exact HN.out.2.1
          · rw [HTK.out, List.map_append]; exact HN.out.2.2
        case measure => simp [intOf]; omega
    · have h1' : ¬ (k : Int) < (L.length : Int) := by omega
      have HE := Hid.mk' (show L.take k = L by rw [List.take_of_length_le (by omega)])
      have HKK := Hid.mk' (show k = L.length by omega)
      go_wp2
      go_ret
      have hh := hrel.out
      rw [HE.out, HKK.out] at hh
      refine ⟨_, rfl, (H1.out.1.mono (fun _ _ h => h.elim)).trans hh.1, hh.2.1.congr HCUT.out, ?_⟩
      obtain ⟨h1, h2⟩ := hh.2.2
      refine ⟨h1, h2.imp id (fun ⟨g, c, cur, e1, e2, e3⟩ => ⟨g, c, cur, e1, Nat.le_trans H1.out.1.size e2, e3⟩)⟩

end Go.Proofs.Ytndojlacdggfcab
