import Derived.Test.YtnafocbgapianabA3
namespace Go.Proofs.Ytnafocbgapianab
open Go.RowKit

theorem addP_bd {l : List (Nat × Nat)} {p M : Nat} (h : ∀ s ∈ l, s.1 + s.2 ≤ M) (hp : p < M) : ∀ s ∈ addP l p, s.1 + s.2 ≤ M := by
  rcases list_snoc l with rfl | ⟨l', ⟨f, c⟩, rfl⟩
  · intro s hs; rw [addP_nil] at hs; simp at hs; subst hs; simp; omega
  · by_cases e : f + c = p
    · subst e
      rw [addP_join]
      intro s hs
      rcases List.mem_append.1 hs with hs | hs
      · exact h s (by simp [hs])
      · simp at hs; subst hs; simp; omega
    · rw [addP_new _ _ _ _ e]
      intro s hs
      rcases List.mem_append.1 hs with hs | hs
      · exact h s hs
      · simp at hs; subst hs; simp; omega
theorem addP_len (l : List (Nat × Nat)) (p : Nat) : (addP l p).length ≤ l.length + 1 := by
  rcases list_snoc l with rfl | ⟨l', ⟨f, c⟩, rfl⟩
  · simp [addP_nil]
  · by_cases e : f + c = p
    · subst e; rw [addP_join]; simp
    · rw [addP_new _ _ _ _ e]; simp
theorem fold_bd (ps : List Nat) {l : List (Nat × Nat)} {M : Nat} (h : ∀ s ∈ l, s.1 + s.2 ≤ M) (hp : ∀ p ∈ ps, p < M) : (∀ s ∈ ps.foldl addP l, s.1 + s.2 ≤ M) ∧ (ps.foldl addP l).length ≤ l.length + ps.length := by
  induction ps generalizing l with
  | nil => exact ⟨h, by simp⟩
  | cons p ps ih =>
    obtain ⟨h1, h2⟩ := ih (addP_bd h (hp p (by simp))) (fun q hq => hp q (by simp [hq]))
    have := addP_len l p
    exact ⟨h1, by simp at h2 ⊢; omega⟩
theorem fl_len_le (f : Nat → Bool) (lo n : Nat) : (fl f lo n).length ≤ n := by rw [fl_length]; exact cn_le _ _
theorem sp_bd (f : Nat → Bool) (lo n : Nat) : (∀ s ∈ sp f lo n, s.1 + s.2 ≤ lo + n) ∧ (sp f lo n).length ≤ n := by
  obtain ⟨h1, h2⟩ := fold_bd (fl f lo n) (l := []) (M := lo + n) (by simp) (fun p hp => (mem_fl.1 hp).2.1)
  have := fl_len_le f lo n
  exact ⟨h1, by unfold sp; simp at h2; omega⟩

/-- A number brought into the bitmap. -/
def clamp (n : Nat) (i : Int) : Nat := (max 0 (min i n)).toNat
theorem clamp_le (n : Nat) (i : Int) : clamp n i ≤ n := by unfold clamp; omega
theorem clamp_in {n : Nat} {i : Nat} (h : i ≤ n) : clamp n i = i := by unfold clamp; omega

set_option maxHeartbeats 1000000 in
theorem within_any (w : World) (d n : Nat) (i : Int) (S : Nat → Bool) (rest : List Value) (t : TypeId) (h : w.heap[d]? = some (mkObj n S rest t)) :
    Calls Try.prog 66 #[.pointer (some ⟨d, 0, none⟩), .int .i64 i] w fun e w' => e = .returned (.int .i64 (clamp n i)) ∧ w' = w := by
  have h0 := mk_len h
  have hc : (clamp n i : Int) = max 0 (min i n) := by unfold clamp; omega
  go_enter Try.func66, Try.ntmps66
  go_wp2
  all_goals
    rename_i hA
    go_ret
    refine ⟨ret_int ?_, rfl⟩
    first
      | (rw [if_pos (by omega)] at hA; omega)
      | (rw [if_neg (by omega)] at hA; omega)

set_option maxHeartbeats 1000000 in
theorem spans_any (w : World) (d n : Nat) (lo hi : Int) (b : Bool) (S : Nat → Bool) (rest : List Value) (t : TypeId) (h : w.heap[d]? = some (mkObj n S rest t)) (hn : n ≤ 1024) :
    Calls Try.prog 44 #[.pointer (some ⟨d, 0, none⟩), .int .i64 lo, .int .i64 hi, .bool b] w fun e w' => ∃ v, e = .returned v ∧ SpAt w' w.heap.size v (sp (fun j => S j == b) (clamp n lo) (clamp n hi - clamp n lo)) ∧ Keeps (fun k => w.heap.size ≤ k) w w' := by
  have hw1 := within_any w d n lo S rest t h
  have hw2 := within_any w d n hi S rest t h
  have hL := clamp_le n lo
  have hH := clamp_le n hi
  generalize clamp n lo = L at *
  generalize clamp n hi = H at *
  have HH := Hid.mk' h
  have hdl := heap_lt h
  clear h
  go_enter Try.func44, Try.ntmps44
  go_wp2_with (first
    | (go_at_call 66; refine hw1.mono ?_; clear hw1; rintro e w1 ⟨rfl, hw⟩; subst w1)
    | (go_at_call 66; refine hw2.mono ?_; clear hw2; rintro e w1 ⟨rfl, hw⟩; subst w1))
  go_loopw [9, 20] (fun v i wr => ∃ k : Nat, k ≤ H - L ∧ i = .int .i64 k ∧ Hid (SpAt wr w.heap.size v (sp (fun j => S j == b) L k) ∧ Keeps (fun k => w.heap.size ≤ k) w wr)) (fun _ i _ => H - L - (intOf i).toNat)
  case atStart => exact ⟨0, by omega, rfl, SpAt.nil _ _, Keeps.refl _ _⟩
  case round =>
    obtain ⟨k, hk, rfl, hrel⟩ := hrel
    by_cases hlt : k < H - L
    · have hlt' : (k : Int) < (H : Int) - (L : Int) := by omega
      have hob := hrel.out.2.at HH.out (by omega)
      have hh := has_in wr d n (L + k) S rest t hob hn (by omega)
      rw [Int.natCast_add] at hh
      have hbd := sp_bd (fun j => S j == b) L k
      have hwp := fun m => withPage_any (wr.drewN m) w.heap.size u9 (sp (fun j => S j == b) L k) (L + k) hrel.out.1 (by omega) (fun s hs => by have := hbd.1 s hs; omega) hrel.out.2.size
      rw [Int.natCast_add] at hwp
      have hsucc := Hid.mk' (sp_succ (fun j => S j == b) L k)
      have HREL := hrel
      cases hS : (S (L + k) == b)
      · rw [hS] at hsucc
        clear hbd hob hrel hwp
        go_wp2_with (first
          | (go_at_call 51; refine hh.mono ?_; rintro e w1 ⟨rfl, m, hw⟩; subst w1))
        go_roundw
        case rel =>
          refine ⟨k + 1, by omega, by go_num, ?_⟩
          rw [hsucc.out]
          exact ⟨HREL.out.1, HREL.out.2.trans (Keeps.drewN _ _ _)⟩
        case measure => simp [intOf]; omega
      · rw [hS] at hsucc
        clear hbd hob hrel
        go_wp2_with (first
          | (go_at_call 51; refine hh.mono ?_; rintro e w1 ⟨rfl, m, hw⟩; subst w1)
          | (go_at_call 67; refine (hwp _).mono ?_; rintro e w2 ⟨v2, rfl, hx⟩; have HX := Hid.mk' hx; clear hx))
        go_roundw
        case rel =>
          refine ⟨k + 1, by omega, by go_num, ?_⟩
          rw [hsucc.out]
          exact ⟨HX.out.1, (HREL.out.2.trans (Keeps.drewN _ _ _)).trans HX.out.2⟩
        case measure => simp [intOf]; omega
    · have hlt' : ¬ (k : Int) < (H : Int) - (L : Int) := by omega
      obtain ⟨q1, q2⟩ := hrel.out
      have hk' := Hid.mk' (show H - L = k by omega)
      have HQ1 := Hid.mk' q1
      clear q1 hrel
      go_wp2
      go_ret
      refine ⟨u9, rfl, ?_, q2⟩
      rw [hk'.out]
      exact HQ1.out

end Go.Proofs.Ytnafocbgapianab
