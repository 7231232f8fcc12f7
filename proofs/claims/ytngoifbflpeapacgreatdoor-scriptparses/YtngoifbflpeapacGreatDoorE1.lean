import Derived.Test.YtngoifbflpeapacGreatDoorD4
import Derived.Test.YtngoifbflpeapacGreatDoorB0
import Derived.Lib.SmallJoins
namespace Go.Proofs.YtngoifbflpeapacGreatDoor
open Go.RowKit Go.Maps
set_option maxRecDepth 100000

/-- The library's tables and errors, as start-up lays them. -/
structure Vars (w : World) : Prop where
  tab : Lib.TabIs Tryz.prog w "internal/strconv.uint64pow10" .u64 Lib.pow10Tab
  syn : ∃ te pe, w.cell? ⟨4, 0, none⟩ = some (.iface te pe)
  rng : ∃ te pe, w.cell? ⟨5, 0, none⟩ = some (.iface te pe)
theorem var_keep {a b : World} (k : Keeps (fun _ => False) a b) {n : String} {x : Array Value} (h : a.var? Tryz.prog n = some x) : b.var? Tryz.prog n = some x := by
  unfold World.var? at h ⊢
  cases hg : Tryz.prog.globalNamed n with
  | none => rw [hg] at h; cases h
  | some g =>
    rw [hg] at h
    simp only [Option.bind_some] at h ⊢
    cases hb : a.heap[g]? with
    | none => rw [hb] at h; cases h
    | some o => rw [k.at hb id]; rw [hb] at h; exact h
theorem Vars.keep {a b : World} (h : Vars a) (k : Keeps (fun _ => False) a b) : Vars b := by
  obtain ⟨t, ⟨te, pe, hs⟩, ⟨te', pe', hr⟩⟩ := h
  exact ⟨var_keep k t, ⟨te, pe, k.cell hs id⟩, ⟨te', pe', k.cell hr id⟩⟩
theorem Keeps.grow (w : World) (k : Nat) (os : Array Obj) : Keeps (fun _ => False) w (Go.Sort.grow (w.drewN k) os) := by
  refine ⟨rfl, rfl, rfl, by simp [Go.Sort.grow, World.drewN], fun i hi _ => ?_⟩
  show (w.heap ++ os)[i]? = w.heap[i]?
  rw [Array.getElem?_append_left hi]
theorem Keeps.bytes (w : World) (t : ByteArray) : Keeps (fun _ => False) w (Lib.bytesWorld w 5 t) := Keeps.ofBelow (Joins.below_bytesWorld _ w 5 t (Nat.le_refl _))

/-- A word's number. -/
def num (t : Bs) : Option Int := match Lib.parseIntB 64 t with
  | .ok v => if Lib.itoa v = t then some v else none
  | _ => none
theorem parse_bounds {t : Bs} {v : Int} (h : Lib.parseIntB 64 t = .ok v) : -9223372036854775808 ≤ v ∧ v ≤ 9223372036854775807 := by
  unfold Lib.parseIntB at h
  split at h
  · cases h
  · simp only at h
    split at h
    · cases h
    · cases h
    · rename_i u _
      split at h
      · cases h
      · split at h
        · cases h
        · rename_i c1 c2
          injection h with h
          subst h
          split
          · rename_i hn
            have : ¬ 2 ^ (64 - 1) < u := fun hh => c2 ⟨hn, hh⟩
            omega
          · rename_i hn
            have : ¬ 2 ^ (64 - 1) ≤ u := fun hh => c1 ⟨hn, hh⟩
            omega
theorem itoa_str (v : Int) : (⟨(Lib.itoa v).toArray⟩ : ByteArray) = mkB (Lib.itoa v) := rfl

set_option maxHeartbeats 2000000 in
theorem number_any (w : World) (hv : Vars w) (s : ByteArray) (hs : s.size ≤ 1000000) :
    Calls Tryz.prog 74 #[.string s] w fun e w' => e = .returned (.tuple #[.int .i64 ((num s.data.toList).getD 0), .bool (num s.data.toList).isSome]) ∧ Keeps (fun _ => False) w w' := by
  cases hp : Lib.parseIntB 64 s.data.toList with
  | ok v =>
    have hb : -9223372036854775808 ≤ v ∧ v ≤ 9223372036854775807 := parse_bounds hp
    have h90 := Tryz.strconv_ParseInt_10_at64_ok s (by omega) v hp w
    have HV := Hid.mk' hv
    by_cases he : Lib.itoa v = s.data.toList
    · have hn : num s.data.toList = some v := by unfold num; rw [hp]; exact if_pos he
      have heq : (⟨(Lib.itoa v).toArray⟩ : ByteArray) = s := by rw [itoa_str, he, mkB_data]
      rw [hn]
      clear hp hn
      go_enter Tryz.func74, Tryz.ntmps74
      go_wp2_with (first
        | (go_at_call 94; refine h90.mono ?_; clear h90; rintro e w1 ⟨rfl, hw1⟩; have HK1 : Hid (Keeps (fun _ => False) w w1) := by (rcases hw1 with rfl | ⟨t, rfl⟩; exact Keeps.refl _ _; exact Keeps.bytes _ _)
           clear hw1)
        | (go_at_call 95; refine (Tryz.strconv_FormatInt_10 v hb.1 hb.2 w1 (HV.out.keep HK1.out).tab).mono ?_; rintro e w2 ⟨rfl, hw2⟩; have HK2 : Hid (Keeps (fun _ => False) w1 w2) := by (obtain ⟨k, os, rfl⟩ := hw2; exact Keeps.grow _ _ _)
           clear hw2; rw [heq]))
      refine bodyPost_ret (v := .tuple #[.int .i64 v, .bool true]) (by simp [results, Tryz.results74, go_sem]) rfl ⟨rfl, HK1.out.trans HK2.out⟩
    · have hn : num s.data.toList = none := by unfold num; rw [hp]; exact if_neg he
      have heq : (Lib.itoa v == s.toList) = false := by
        rw [ByteArray.toList_eq]
        exact beq_eq_false_iff_ne.2 he
      rw [hn]
      clear hp hn he
      go_enter Tryz.func74, Tryz.ntmps74
      go_wp2_with (first
        | (go_at_call 94; refine h90.mono ?_; clear h90; rintro e w1 ⟨rfl, hw1⟩; have HK1 : Hid (Keeps (fun _ => False) w w1) := by (rcases hw1 with rfl | ⟨t, rfl⟩; exact Keeps.refl _ _; exact Keeps.bytes _ _)
           clear hw1)
        | (go_at_call 95; refine (Tryz.strconv_FormatInt_10 v hb.1 hb.2 w1 (HV.out.keep HK1.out).tab).mono ?_; rintro e w2 ⟨rfl, hw2⟩; have HK2 : Hid (Keeps (fun _ => False) w1 w2) := by (obtain ⟨k, os, rfl⟩ := hw2; exact Keeps.grow _ _ _)
           clear hw2))
      refine bodyPost_ret (v := .tuple #[.int .i64 0, .bool false]) (by simp [results, Tryz.results74, go_sem]) rfl ⟨rfl, HK1.out.trans HK2.out⟩
  | «syntax» =>
    obtain ⟨te, pe, hcell⟩ := hv.syn
    have h90 := Tryz.strconv_ParseInt_10_at64_syntax s (by omega) hp _ w hcell (Or.inr ⟨te, pe, rfl⟩)
    have hn : num s.data.toList = none := by unfold num; rw [hp]
    rw [hn]
    clear hp hn hcell
    go_enter Tryz.func74, Tryz.ntmps74
    go_wp2_with (first
      | (go_at_call 94; refine h90.mono ?_; clear h90; rintro e w1 ⟨N, rfl, _, _, hw1⟩; have HK1 := Hid.mk' (Keeps.ofBelow hw1); clear hw1))
    refine bodyPost_ret (v := .tuple #[.int .i64 0, .bool false]) (by simp [results, Tryz.results74, go_sem]) rfl ⟨rfl, HK1.out⟩
  | range =>
    obtain ⟨te, pe, hcell⟩ := hv.rng
    have h90 := Tryz.strconv_ParseInt_10_at64_range s (by omega) hp _ w hcell (Or.inr ⟨te, pe, rfl⟩)
    have hn : num s.data.toList = none := by unfold num; rw [hp]
    rw [hn]
    clear hp hn hcell
    generalize Lib.intSat 64 s.data.toList = Z at *
    go_enter Tryz.func74, Tryz.ntmps74
    go_wp2_with (first
      | (go_at_call 94; refine h90.mono ?_; clear h90; rintro e w1 ⟨N, rfl, _, _, hw1⟩; have HK1 := Hid.mk' (Keeps.ofBelow hw1); clear hw1))
    refine bodyPost_ret (v := .tuple #[.int .i64 0, .bool false]) (by simp [results, Tryz.results74, go_sem]) rfl ⟨rfl, HK1.out⟩
end Go.Proofs.YtngoifbflpeapacGreatDoor

