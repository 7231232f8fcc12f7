import Derived.Test.YtngoifbflpeapacGreatDoorD1
namespace Go.Proofs.YtngoifbflpeapacGreatDoor
open Go.RowKit Go.Maps
set_option maxRecDepth 100000

theorem takeWhile_all {c : UInt8} : ∀ {t : Bs}, (∀ k : Nat, t[k]? ≠ some c) → upto c t = t.length
  | [], _ => rfl
  | b :: t, h => by
    have hb : b ≠ c := fun e => h 0 (by rw [e]; rfl)
    rw [upto_cons hb, takeWhile_all (t := t) (fun k => h (k + 1))]; rfl
theorem takeWhile_at {c : UInt8} : ∀ {t : Bs} {o : Nat}, t[o]? = some c → (∀ k : Nat, k < o → t[k]? ≠ some c) → upto c t = o
  | [], o, h, _ => by simp at h
  | b :: t, 0, h, _ => by
    have hb : b = c := by simpa using h
    subst hb
    unfold upto
    rw [List.takeWhile_cons, if_neg (by simp)]; rfl
  | b :: t, o + 1, h, hk => by
    have hb : b ≠ c := fun e => hk 0 (by omega) (by rw [e]; rfl)
    rw [upto_cons hb, takeWhile_at (t := t) (o := o) (by simpa using h) (fun k hlt => by have := hk (k + 1) (by omega); simpa using this)]
theorem index_upto (t : Bs) (c : UInt8) : (Lib.indexByte t c = -1 ∧ upto c t = t.length) ∨ (Lib.indexByte t c = (upto c t : Int) ∧ upto c t < t.length) := by
  have hge := Lib.indexByte_ge t c
  by_cases h : Lib.indexByte t c = -1
  · exact Or.inl ⟨h, takeWhile_all (fun k => Lib.indexByte_none h k)⟩
  · obtain ⟨o, ho⟩ : ∃ o : Nat, Lib.indexByte t c = o := ⟨(Lib.indexByte t c).toNat, by omega⟩
    have h1 := Lib.indexByte_some ho
    have e := takeWhile_at h1.1 h1.2
    refine Or.inr ⟨by rw [e]; exact ho, ?_⟩
    rw [e]
    exact (List.getElem?_eq_some_iff.1 h1.1).1
def wcell (x : Wd) : Array Value := #[.string x.text, .bool x.quoted]
def wzero : Array Value := #[.string ⟨#[]⟩, .bool false]
theorem info73 : (Tryz.prog.info? 73).map (fun i => (i.zero, i.size, i.bytes)) = some (some (.agg wzero), 2, 24) := by kernel_rfl
theorem size73 : (Tryz.prog.info? 73).map (·.size) = some 2 := by kernel_rfl
theorem results_cell_slot {P : Program} {fn : Func} {p q : Tmp} {ty : TypeId} (h : fn.results = #[.cell p ty, .tmp q]) (tmps : Array Value) (w : World) (g : Nat) (t : TypeId) (cs : Array Value) (fr : Nat × Nat) (d : TypeDesc)
    (hp : tmps.getD p undef = .pointer (some ⟨g, 0, none⟩)) (hg : w.heap[g]? = some (.cells cs t fr))
    (hu : P.underlying ty = some d) (hd : (match d with | .struct _ | .array _ _ => true | _ => false) = true) (hi : (P.info? ty).map (·.size) = some cs.size) :
    (results fn tmps).run P w = .ok (.tuple #[.agg cs, tmps.getD q undef]) w := by
  have hp' : tmps[p]?.getD undef = .pointer (some ⟨g, 0, none⟩) := by simpa using hp
  simp [results, h, hp', asAddr, run_loadVar_row w g t ty cs fr d hg hu hd hi]
theorem index_any (s : ByteArray) (c : UInt8) (k : Int) (hk : (c.toNat : Int) = k) (w : World) :
    Calls Tryz.prog 84 #[.string s, .int .u8 k] w fun e w' => e = .returned (.int .i64 (Lib.indexByte s.data.toList c)) ∧ w' = w := by
  have h := index s k w
  have e1 : k.toNat.toUInt8 = c := by rw [← hk]; simp
  rw [e1] at h
  exact h
theorem index_has (t : Bs) (c : UInt8) : (Lib.indexByte t c < 0) = (t.all (· != c) = true) := by
  have := index_lt t c
  rw [← this]; simp

set_option maxHeartbeats 2000000 in
theorem plainWord_any (w : World) (s : ByteArray) (_hs : s.size ≤ 1000000) :
    Calls Tryz.prog 58 #[.string s] w fun e w' => e = .returned (.tuple #[.agg (wcell (fwP s.data.toList).1), .int .i64 ((fwP s.data.toList).2 : Int)]) ∧ Keeps (fun _ => False) w w' := by
  have h1 := fun w => index_any s 32 32 rfl w
  have HS := Hid.mk' (size_len s)
  have hu := index_upto s.data.toList 32
  have hle := upto_le 32 s.data.toList
  rw [← HS.out] at hu hle
  have h2 := fun w => index_any (s.extract 0 (upto 32 s.data.toList)) 34 34 rfl w
  rw [extr, List.drop_zero, Nat.sub_zero] at h2
  have hx : s.extract 0 (upto 32 s.data.toList) = mkB (s.data.toList.take (upto 32 s.data.toList)) := by rw [mkB_extr, List.drop_zero, Nat.sub_zero]
  rw [hx] at h2
  have hfw : fwP s.data.toList = if (s.data.toList.take (upto 32 s.data.toList)).all (· != 34) = true then (⟨mkB (s.data.toList.take (upto 32 s.data.toList)), false⟩, upto 32 s.data.toList) else (⟨⟨#[]⟩, false⟩, 0) := rfl
  have hin := index_has (s.data.toList.take (upto 32 s.data.toList)) 34
  generalize s.data.toList.take (upto 32 s.data.toList) = P at *
  generalize upto 32 s.data.toList = n at *
  generalize Lib.indexByte s.data.toList 32 = I at *
  generalize Lib.indexByte P 34 = J at *
  by_cases hj : J < 0
  · have hp : P.all (· != 34) = true := by rw [← hin]; exact hj
    rw [hfw, if_pos hp]
    have hj' : ¬ 0 ≤ J := by omega
    clear hin hfw hp
    rcases hu with ⟨rfl, hn⟩ | ⟨rfl, hn⟩
    · subst hn
      go_enter Tryz.func58, Tryz.ntmps58
      go_wp2_with (first
        | (go_at_call 84; refine (h1 _).mono ?_; clear h1; rintro e w1 ⟨rfl, hw1⟩; subst w1)
        | (go_at_call 84; refine (h2 _).mono ?_; clear h2; rintro e w1 ⟨rfl, hw1⟩; subst w1))
      exact bodyPost_ret (results_cell_slot rfl _ _ w.heap.size 73 (wcell ⟨mkB P, false⟩) (0, 0) _ rfl (heap_last w _) Tryz.underlying73 rfl size73) rfl ⟨rfl, (Keeps.refl _ w).alloc _⟩
    · have hn' : ¬ (n : Int) < 0 := by omega
      go_enter Tryz.func58, Tryz.ntmps58
      go_wp2_with (first
        | (go_at_call 84; refine (h1 _).mono ?_; clear h1; rintro e w1 ⟨rfl, hw1⟩; subst w1)
        | (go_at_call 84; refine (h2 _).mono ?_; clear h2; rintro e w1 ⟨rfl, hw1⟩; subst w1))
      exact bodyPost_ret (results_cell_slot rfl _ _ w.heap.size 73 (wcell ⟨mkB P, false⟩) (0, 0) _ rfl (heap_last w _) Tryz.underlying73 rfl size73) rfl ⟨rfl, (Keeps.refl _ w).alloc _⟩
  · have hp : ¬ P.all (· != 34) = true := by rw [← hin]; exact hj
    rw [hfw, if_neg hp]
    have hj' : 0 ≤ J := by omega
    clear hin hfw hp
    rcases hu with ⟨rfl, hn⟩ | ⟨rfl, hn⟩
    · subst hn
      go_enter Tryz.func58, Tryz.ntmps58
      go_wp2_with (first
        | (go_at_call 84; refine (h1 _).mono ?_; clear h1; rintro e w1 ⟨rfl, hw1⟩; subst w1)
        | (go_at_call 84; refine (h2 _).mono ?_; clear h2; rintro e w1 ⟨rfl, hw1⟩; subst w1))
      exact bodyPost_ret (results_cell_slot rfl _ _ w.heap.size 73 (wcell ⟨⟨#[]⟩, false⟩) (0, 0) _ rfl (heap_last w _) Tryz.underlying73 rfl size73) rfl ⟨rfl, (Keeps.refl _ w).alloc _⟩
    · have hn' : ¬ (n : Int) < 0 := by omega
      go_enter Tryz.func58, Tryz.ntmps58
      go_wp2_with (first
        | (go_at_call 84; refine (h1 _).mono ?_; clear h1; rintro e w1 ⟨rfl, hw1⟩; subst w1)
        | (go_at_call 84; refine (h2 _).mono ?_; clear h2; rintro e w1 ⟨rfl, hw1⟩; subst w1))
      exact bodyPost_ret (results_cell_slot rfl _ _ w.heap.size 73 (wcell ⟨⟨#[]⟩, false⟩) (0, 0) _ rfl (heap_last w _) Tryz.underlying73 rfl size73) rfl ⟨rfl, (Keeps.refl _ w).alloc _⟩
end Go.Proofs.YtngoifbflpeapacGreatDoor

