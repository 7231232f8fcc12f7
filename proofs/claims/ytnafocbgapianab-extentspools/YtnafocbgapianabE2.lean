import Derived.Test.YtnafocbgapianabB4
namespace Go.Proofs.Ytnafocbgapianab
open Go.RowKit

/-- A bitmap in memory. -/
structure BmAt (w : World) (b n : Nat) (S : Nat → Bool) : Prop where
  at_ : w.heap[b]? = some (mkObj n S [] 97)
  le : n ≤ 1024
  sup : ∀ i, S i = true → i < n

theorem BmAt.kept {X : Nat → Prop} {w w' : World} {b n : Nat} {S : Nat → Bool} (h : BmAt w b n S) (k : Keeps X w w') (hx : ¬ X b) : BmAt w' b n S := ⟨k.at h.at_ hx, h.le, h.sup⟩

def bmLen (n : Int) : Nat := (max 0 (min n 1024)).toNat

set_option maxHeartbeats 1000000 in
theorem newBitmap_any (n : Int) (w : World) :
    Calls Try.prog 24 #[.int .i64 n] w fun e w' => e = .returned (.pointer (some ⟨w.heap.size, 0, none⟩)) ∧ BmAt w' w.heap.size (bmLen n) (fun _ => false) ∧ Keeps (fun k => w.heap.size ≤ k) w w' := by
  have hc : (bmLen n : Int) = max 0 (min n 1024) := by unfold bmLen; omega
  have hle : bmLen n ≤ 1024 := by unfold bmLen; omega
  have HN : Hid (∀ x : Int, x = (bmLen n : Int) → BmAt (w.alloc (.cells #[.int .i64 x, .int .u64 0, .int .u64 0, .int .u64 0, .int .u64 0, .int .u64 0, .int .u64 0, .int .u64 0, .int .u64 0, .int .u64 0, .int .u64 0, .int .u64 0, .int .u64 0, .int .u64 0, .int .u64 0, .int .u64 0, .int .u64 0] 97)) w.heap.size (bmLen n) (fun _ => false)) := by
    intro x hx
    refine ⟨?_, hle, by simp⟩
    have : mkObj (bmLen n) (fun _ => false) [] 97 = .cells #[.int .i64 x, .int .u64 0, .int .u64 0, .int .u64 0, .int .u64 0, .int .u64 0, .int .u64 0, .int .u64 0, .int .u64 0, .int .u64 0, .int .u64 0, .int .u64 0, .int .u64 0, .int .u64 0, .int .u64 0, .int .u64 0, .int .u64 0] 97 (0, 0) := by
      rw [hx]; simp only [mkObj, mkCells, word_none]; rfl
    rw [this]
    exact (MapKept.heap_alloc w _).1
  go_enter Try.func24, Try.ntmps24
  go_wp2
  all_goals
    go_ret
    refine ⟨rfl, HN.out _ ?_, Keeps.of (World.grownBy_alloc w _ none) (by simp)⟩
    rw [hc]
    first
      | omega
      | (rename_i hA; rw [if_pos (by omega)] at hA; omega)
      | (rename_i hA; rw [if_neg (by omega)] at hA; omega)
      | (rename_i hA _; rw [if_pos (by omega)] at hA; omega)
      | (rename_i hA _; rw [if_neg (by omega)] at hA; omega)

set_option maxHeartbeats 1000000 in
theorem bset_in (w : World) (b n : Nat) (S : Nat → Bool) (h : BmAt w b n S) (i : Nat) (hi : i < n) :
    Calls Try.prog 26 #[.pointer (some ⟨b, 0, none⟩), .int .i64 i] w fun e w' => e = .returned (.bool (!S i)) ∧ BmAt w' b n (upd S i true) ∧ Keeps (fun k => k = b) w w' := by
  have hs := set_do w b n i S [] 97 h.at_ h.le hi
  have HH := Hid.mk' h
  clear h
  go_enter Try.func26, Try.ntmps26
  go_wp2_with (first | (go_at_call 41; refine hs.mono ?_; rintro e w1 ⟨rfl, hx⟩; have HX := Hid.mk' hx; clear hx))
  go_ret
  refine ⟨rfl, ⟨HX.out.1, HH.out.le, ?_⟩, HX.out.2.1⟩
  intro j hj
  unfold upd at hj
  split at hj
  · omega
  · exact HH.out.sup j hj

set_option maxHeartbeats 1000000 in
theorem bset_out (w : World) (b n : Nat) (S : Nat → Bool) (h : BmAt w b n S) (i : Int) (hi : ¬ (0 ≤ i ∧ i < n)) :
    Calls Try.prog 26 #[.pointer (some ⟨b, 0, none⟩), .int .i64 i] w fun e w' => e = .returned (.bool false) ∧ BmAt w' b n S ∧ Keeps (fun k => k = b) w w' := by
  have hs := set_no w b n i S [] 97 h.at_ h.le (by omega)
  have HH := Hid.mk' h
  clear h
  go_enter Try.func26, Try.ntmps26
  go_wp2_with (first | (go_at_call 41; refine hs.mono ?_; rintro e w1 ⟨rfl, m, hw⟩; subst w1))
  go_ret
  exact ⟨rfl, HH.out.kept (Keeps.drewN (fun _ => False) _ _) (by simp), Keeps.drewN _ _ _⟩

set_option maxHeartbeats 1000000 in
theorem bhas_any (w : World) (b n : Nat) (S : Nat → Bool) (h : BmAt w b n S) (i : Int) :
    Calls Try.prog 28 #[.pointer (some ⟨b, 0, none⟩), .int .i64 i] w fun e w' => e = .returned (.bool (hasI n S i)) ∧ ∃ m, w' = w.drewN m := by
  have hs := has_any w b n i S [] 97 h.at_ h.le
  clear h
  go_enter Try.func28, Try.ntmps28
  go_wp2_with (first | (go_at_call 51; refine hs.mono ?_; rintro e w1 ⟨rfl, m, hw⟩; subst w1))
  go_ret
  exact ⟨rfl, m, rfl⟩

/-- The small shape of the examples. -/
def smSh : Sh := ⟨24, 8, 3, 5⟩
theorem smSh_good : smSh.Good := by unfold Sh.Good smSh; decide
theorem smSh_agg : smSh.agg = .agg #[.int .i64 24, .int .i64 8, .int .i64 3, .int .i64 5] := rfl

set_option maxHeartbeats 1000000 in
theorem small_any (w : World) : Calls Try.prog 49 #[] w fun e w' => e = .returned smSh.agg ∧ Keeps (fun k => w.heap.size ≤ k) w w' := by
  rw [smSh_agg]
  go_enter Try.func49, Try.ntmps49
  go_wp2
  refine bodyPost_ret (v := _) (by simp [results, Try.results49, go_sem]; rfl) rfl ?_
  exact ⟨rfl, Keeps.of (World.grownBy_alloc w _ none) (by simp)⟩

theorem first_num : cn (allS smSh) smSh.pages = 19 ∧ (tk smSh 1 (allS smSh) 8).2.2.foldl addP [] = [(11, 8)] ∧ cn (tk smSh 1 (allS smSh) 8).1 smSh.pages = 11 ∧ hasI smSh.pages (tk smSh 1 (allS smSh) 8).1 12 = false ∧ hasI smSh.pages (tk smSh 1 (allS smSh) 8).1 5 = true := by decide +kernel

set_option maxHeartbeats 4000000 in
set_option maxRecDepth 20000 in
theorem first_any (w : World) : Calls Try.prog 25 #[] w fun e w' => e = .returned (.bool true) ∧ Keeps (fun k => w.heap.size ≤ k) w w' := by
  have hsm := small_any
  rw [smSh_agg] at hsm
  have hwh := fun w => whole_any smSh smSh_good w
  have hnw := fun w b h => newWhole smSh smSh_good w b h
  rw [smSh_agg] at hwh hnw
  obtain ⟨f1, f2, f3, f4, f5⟩ := first_num
  have F := Hid.mk' (And.intro f1 (And.intro f2 (And.intro f3 (And.intro f4 f5))))
  have HTK := Hid.mk' (fun w d h => take_yes w d smSh (allS smSh) h 1 8 (by decide) (by rw [f1]; decide))
  clear f1 f2 f3 f4 f5
  have HKs : Hid (Keeps (fun k => w.heap.size ≤ k) w w) := Keeps.refl _ _
  go_enter Try.func25, Try.ntmps25
  go_wp2_with (first
    | (go_at_call 49; refine (hsm _).mono ?_; rintro e w1 ⟨rfl, hk1⟩
       replace HKs := Hid.mk' (HKs.out.then hk1 (fun k hk => by right; have := HKs.out.size; omega))
       clear hk1)
    | (go_at_call 11; refine (hwh _).mono ?_; rintro e w3 ⟨b3, rfl, hx1, hx2, hx3⟩
       replace HKs := Hid.mk' (HKs.out.then hx3 (fun k hk => by right; have := HKs.out.size; omega))
       clear hx3)
    | (go_at_call 10; refine (hnw _ _ hx1).mono ?_; rintro e w4 ⟨d, rfl, hd4, hp4, hk4⟩
       have hfr := free_any w4 d smSh _ hp4
       rw [F.out.1] at hfr
       have htk := HTK.out w4 d hp4
       have hdw : w.heap.size ≤ d := by have := HKs.out.size; omega
       replace HKs := Hid.mk' (HKs.out.then hk4 (fun k hk => by right; have := HKs.out.size; omega))
       clear hk4)
    | (go_at_call 23; refine hfr.mono ?_; clear hfr; rintro e w5 ⟨rfl, hw5⟩; subst w5)
    | (go_at_call 17; refine htk.mono ?_; clear htk; rintro e w6 ⟨v6, rfl, hs6, hp6, hk6⟩
       rw [F.out.2.1] at hs6
       obtain ⟨p6, cap6, hv6, hin6, _⟩ := hs6.toIn
       subst v6
       obtain ⟨b6, o6, hp, hb6, hc6⟩ := hin6 (by simp [castL])
       subst p6
       have e1 := (hc6 0 (by simp [castL])).1
       have e2 := (hc6 0 (by simp [castL])).2
       simp [castL] at e1 e2
       have hfr6 := free_any w6 d smSh _ hp6
       rw [F.out.2.2.1] at hfr6
       have hh12 := phas_any w6 d smSh _ hp6 12
       rw [F.out.2.2.2.1] at hh12
       have hh5 := fun m => phas_any (w6.drewN m) d smSh _ (hp6.kept (Keeps.drewN (fun _ => False) _ m) (by simp)) 5
       rw [F.out.2.2.2.2] at hh5
       have HK6 := Hid.mk' (HKs.out.then hk6 (fun k hk => by left; have := HKs.out.size; omega))
       clear hs6 hin6 hc6 hp6 hk6)
    | (go_at_call 23; refine hfr6.mono ?_; clear hfr6; rintro e w5 ⟨rfl, hw5⟩; subst w5)
    | (go_at_call 50; refine hh12.mono ?_; clear hh12; rintro e w7 ⟨rfl, m7, hw7⟩; subst w7)
    | (go_at_call 50; refine (hh5 _).mono ?_; clear hh5; rintro e w7 ⟨rfl, m8, hw7⟩; subst w7
       have hnb := newBitmap_any 8 (w6.drewN (m7 + m8)))
    | (go_at_call 24; refine hnb.mono ?_; clear hnb; rintro e w9 ⟨rfl, hb9, hk9⟩
       have hbe : bmLen 8 = 8 := by decide
       rw [hbe] at hb9
       have hst := bset_in w9 _ 8 _ hb9 2 (by omega)
       have hs9 := hk9.size
       have HK9 : Hid (Keeps (fun k => w.heap.size ≤ k) w w9) := (HK6.out.trans (Keeps.drewN _ _ _)).then hk9 (fun k hk => by right; have := HK6.out.size; have h2 : (w6.drewN (m7 + m8)).heap.size = w6.heap.size := rfl; omega)
       clear hk9 hb9)
    | (go_at_call 26; refine hst.mono ?_; clear hst; rintro e w10 ⟨rfl, hb10, hk10⟩
       have hbh := bhas_any w10 _ 8 _ hb10 2
       rw [show hasI 8 (upd (fun _ => false) 2 true) 2 = true by decide] at hbh
       have hst2 := fun m => bset_in (w10.drewN m) _ 8 _ (hb10.kept (Keeps.drewN (fun _ => False) _ m) (by simp)) 2 (by omega)
       have HK10 : Hid (Keeps (fun k => w.heap.size ≤ k) w w10) := HK9.out.then hk10 (fun k hk => by left; have := HK6.out.size; have h2 : (w6.drewN (m7 + m8)).heap.size = w6.heap.size := rfl; omega)
       clear hk10 hb10)
    | (go_at_call 28; refine hbh.mono ?_; clear hbh; rintro e w11 ⟨rfl, m11, hw11⟩; subst w11)
    | (go_at_call 26; refine (hst2 _).mono ?_; clear hst2; rintro e w12 ⟨rfl, hb12, hk12⟩))
  go_ret
  refine ⟨ret_bool (by decide), ?_⟩
  exact (HK10.out.trans (Keeps.drewN _ _ _)).then hk12 (fun k hk => by left; have := HK6.out.size; have h2 : (w6.drewN (m7 + m8)).heap.size = w6.heap.size := rfl; omega)

end Go.Proofs.Ytnafocbgapianab
