import Derived.Test.YtdlhdompemkjfaaGreatDoorK05
namespace Go.Proofs.YtdlhdompemkjfaaGreatDoor
open Go.RowKit Go.Maps
set_option maxRecDepth 100000

/-! A line's words, by themselves. -/
structure Wd where
  text : ByteArray
  quoted : Bool
/-- How many bytes stand ahead of the first one that is c. -/
def upto (c : UInt8) (t : Bs) : Nat := (t.takeWhile (· != c)).length
theorem upto_le (c : UInt8) (t : Bs) : upto c t ≤ t.length := by
  unfold upto
  exact (List.takeWhile_sublist _).length_le
theorem upto_cons {c b : UInt8} {t : Bs} (h : b ≠ c) : upto c (b :: t) = upto c t + 1 := by
  unfold upto
  rw [List.takeWhile_cons, if_pos (by simpa using h)]; rfl
/-- The first word, and how many bytes it takes; 0: its quotes are wrong. -/
def fwP (t : Bs) : Wd × Nat := if (t.take (upto 32 t)).all (· != 34) = true then (⟨mkB (t.take (upto 32 t)), false⟩, upto 32 t) else (⟨⟨#[]⟩, false⟩, 0)
def fwQ (t : Bs) : Wd × Nat := match uq t with
  | none => (⟨⟨#[]⟩, false⟩, 0)
  | some (a, n) => if n < t.length ∧ t.getD n 0 ≠ 32 then (⟨⟨#[]⟩, false⟩, 0) else (⟨mkB a, true⟩, n)
def fw (t : Bs) : Wd × Nat := if t.getD 0 0 = 34 then fwQ t else fwP t
theorem unq_le : ∀ (n : Nat) (t acc : Bs) (k : Nat), t.length ≤ n → ∀ a m, unq acc k t = some (a, m) → m ≤ k + t.length ∧ k < m := by
  intro n
  induction n with
  | zero =>
    intro t acc k h a m e
    have : t = [] := List.length_eq_zero_iff.1 (by omega)
    subst this
    rw [unq_nil] at e; cases e
  | succ n ih =>
    intro t acc k h a m e
    match t with
    | [] => rw [unq_nil] at e; cases e
    | b :: r =>
      rw [List.length_cons] at h
      by_cases h34 : b = 34
      · subst h34
        rw [unq_end] at e
        cases e
        rw [List.length_cons]; omega
      · by_cases h92 : b = 92
        · subst h92
          by_cases hm : (mnt r).2 = 0
          · rw [unq_bad _ _ _ hm] at e; cases e
          · rw [unq_esc _ _ _ hm] at e
            have hle := mnt_le r
            have := ih (r.drop (mnt r).2) _ _ (by rw [List.length_drop]; omega) a m e
            rw [List.length_drop] at this
            rw [List.length_cons]; omega
        · cases hp : prt b with
          | true =>
            rw [unq_prt _ _ _ _ h34 h92 hp] at e
            have := ih r _ _ (by omega) a m e
            rw [List.length_cons]; omega
          | false => rw [unq_not _ _ _ _ h34 h92 hp] at e; cases e
theorem uq_le {t a : Bs} {m : Nat} (h : uq t = some (a, m)) : m ≤ t.length ∧ 0 < m := by
  match t with
  | [] => cases h
  | b :: r =>
    have e : (if b = 34 then unq [] 1 r else none) = some (a, m) := h
    by_cases hb : b = 34
    · rw [if_pos hb] at e
      have := unq_le r.length r [] 1 (Nat.le_refl _) a m e
      rw [List.length_cons]; omega
    · rw [if_neg hb] at e; cases e
theorem fw_le (t : Bs) : (fw t).2 ≤ t.length := by
  unfold fw
  split
  · unfold fwQ
    split
    · exact Nat.zero_le _
    · rename_i a n h
      split
      · exact Nat.zero_le _
      · exact (uq_le h).1
  · unfold fwP
    split
    · exact upto_le _ _
    · exact Nat.zero_le _
def wds (acc : List Wd) (t : Bs) : Option (List Wd) :=
  match t with
  | [] => some acc
  | b :: r => if b = 32 then wds acc r else if (fw (b :: r)).2 = 0 then none else wds (acc ++ [(fw (b :: r)).1]) ((b :: r).drop (fw (b :: r)).2)
termination_by t.length
decreasing_by
  · simp
  · rw [List.length_drop, List.length_cons]; omega
theorem wds_nil (acc : List Wd) : wds acc [] = some acc := by rw [wds]
theorem wds_blank (acc : List Wd) (r : Bs) : wds acc (32 :: r) = wds acc r := by rw [wds, if_pos rfl]
theorem wds_bad {acc : List Wd} {b : UInt8} {r : Bs} (h : b ≠ 32) (hf : (fw (b :: r)).2 = 0) : wds acc (b :: r) = none := by rw [wds, if_neg h, if_pos hf]
theorem wds_word {acc : List Wd} {b : UInt8} {r : Bs} (h : b ≠ 32) (hf : (fw (b :: r)).2 ≠ 0) : wds acc (b :: r) = wds (acc ++ [(fw (b :: r)).1]) ((b :: r).drop (fw (b :: r)).2) := by rw [wds, if_neg h, if_neg hf]
/-- What wordsOf's loop holds. -/
def WI (t : Bs) (k : Nat) (acc : List Wd) : Prop := k ≤ t.length ∧ acc.length ≤ k ∧ wds acc (t.drop k) = wds [] t
theorem WI.start (t : Bs) : WI t 0 [] := ⟨Nat.zero_le _, Nat.le_refl _, rfl⟩
theorem WI.fin {t : Bs} {k : Nat} {acc : List Wd} (h : WI t k acc) (hk : ¬ k < t.length) : wds [] t = some acc := by
  rw [← h.2.2, List.drop_of_length_le (by omega), wds_nil]
theorem WI.blank {t : Bs} {k : Nat} {acc : List Wd} (h : WI t k acc) (hk : k < t.length) (hb : t.getD k 0 = 32) : WI t (k + 1) acc := by
  refine ⟨by omega, by have := h.2.1; omega, ?_⟩
  rw [← h.2.2, drop_cons hk, hb, wds_blank]
theorem WI.bad {t : Bs} {k : Nat} {acc : List Wd} (h : WI t k acc) (hk : k < t.length) (hb : ¬ t.getD k 0 = 32) (hf : (fw (t.drop k)).2 = 0) : wds [] t = none := by
  have e := drop_cons hk
  rw [← h.2.2, e, wds_bad hb (by rw [← e]; exact hf)]
theorem WI.word {t : Bs} {k : Nat} {acc : List Wd} (h : WI t k acc) (hk : k < t.length) (hb : ¬ t.getD k 0 = 32) (hf : (fw (t.drop k)).2 ≠ 0) : WI t (k + (fw (t.drop k)).2) (acc ++ [(fw (t.drop k)).1]) := by
  have e := drop_cons hk
  have hle := fw_le (t.drop k)
  rw [List.length_drop] at hle
  refine ⟨by omega, by rw [List.length_append, List.length_singleton]; have := h.2.1; omega, ?_⟩
  have h2 := h.2.2
  rw [e, wds_word hb (by rw [← e]; exact hf), ← e, List.drop_drop] at h2
  exact h2
end Go.Proofs.YtdlhdompemkjfaaGreatDoor

namespace Go.Proofs.YtdlhdompemkjfaaGreatDoor
open Go.RowKit Go.Maps
set_option maxRecDepth 100000

theorem takeWhile_all {c : UInt8} : ∀ {t : Bs}, (∀ k : Nat, t[k]? ≠ some c) → upto c t = t.length
  | [], _ => rfl
  | b :: t, h => by
    have hb : b ≠ c := fun e => h 0 (by rw [e]; rfl)
    rw [upto_cons hb, takeWhile_all (t := t) (fun k => h (k + 1))]; rfl
theorem takeWhile_at {c : UInt8} : ∀ {t : Bs} {o : Nat}, t[o]? = some c → (∀ k : Nat, k < o → t[k]? ≠ some c) → upto c t = o
  | [], o, h, _ => by simp at h
  | b :: t, 0, h, _ => by
    have hb : b = c := by simpa using h
    subst hb
    unfold upto
    rw [List.takeWhile_cons, if_neg (by simp)]; rfl
  | b :: t, o + 1, h, hk => by
    have hb : b ≠ c := fun e => hk 0 (by omega) (by rw [e]; rfl)
    rw [upto_cons hb, takeWhile_at (t := t) (o := o) (by simpa using h) (fun k hlt => by have := hk (k + 1) (by omega); simpa using this)]
theorem index_upto (t : Bs) (c : UInt8) : (Lib.indexByte t c = -1 ∧ upto c t = t.length) ∨ (Lib.indexByte t c = (upto c t : Int) ∧ upto c t < t.length) := by
  have hge := Lib.indexByte_ge t c
  by_cases h : Lib.indexByte t c = -1
  · exact Or.inl ⟨h, takeWhile_all (fun k => Lib.indexByte_none h k)⟩
  · obtain ⟨o, ho⟩ : ∃ o : Nat, Lib.indexByte t c = o := ⟨(Lib.indexByte t c).toNat, by omega⟩
    have h1 := Lib.indexByte_some ho
    have e := takeWhile_at h1.1 h1.2
    refine Or.inr ⟨by rw [e]; exact ho, ?_⟩
    rw [e]
    exact (List.getElem?_eq_some_iff.1 h1.1).1
def wcell (x : Wd) : Array Value := #[.string x.text, .bool x.quoted]
def wzero : Array Value := #[.string ⟨#[]⟩, .bool false]
theorem info92 : (Tryz.prog.info? 92).map (fun i => (i.zero, i.size, i.bytes)) = some (some (.agg wzero), 2, 24) := by kernel_rfl
theorem size92 : (Tryz.prog.info? 92).map (·.size) = some 2 := by kernel_rfl
theorem results_cell_slot {P : Program} {fn : Func} {p q : Tmp} {ty : TypeId} (h : fn.results = #[.cell p ty, .tmp q]) (tmps : Array Value) (w : World) (g : Nat) (t : TypeId) (cs : Array Value) (fr : Nat × Nat) (d : TypeDesc)
    (hp : tmps.getD p undef = .pointer (some ⟨g, 0, none⟩)) (hg : w.heap[g]? = some (.cells cs t fr))
    (hu : P.underlying ty = some d) (hd : (match d with | .struct _ | .array _ _ => true | _ => false) = true) (hi : (P.info? ty).map (·.size) = some cs.size) :
    (results fn tmps).run P w = .ok (.tuple #[.agg cs, tmps.getD q undef]) w := by
  have hp' : tmps[p]?.getD undef = .pointer (some ⟨g, 0, none⟩) := by simpa using hp
  simp [results, h, hp', asAddr, run_loadVar_row w g t ty cs fr d hg hu hd hi]
theorem index_any (s : ByteArray) (c : UInt8) (k : Int) (hk : (c.toNat : Int) = k) (w : World) :
    Calls Tryz.prog 93 #[.string s, .int .u8 k] w fun e w' => e = .returned (.int .i64 (Lib.indexByte s.data.toList c)) ∧ w' = w := by
  have h := index s k w
  have e1 : k.toNat.toUInt8 = c := by rw [← hk]; simp
  rw [e1] at h
  exact h
theorem index_has (t : Bs) (c : UInt8) : (Lib.indexByte t c < 0) = (t.all (· != c) = true) := by
  have := index_lt t c
  rw [← this]; simp

set_option maxHeartbeats 2000000 in
theorem plainWord_any (w : World) (s : ByteArray) (_hs : s.size ≤ 1000000) :
    Calls Tryz.prog 66 #[.string s] w fun e w' => e = .returned (.tuple #[.agg (wcell (fwP s.data.toList).1), .int .i64 ((fwP s.data.toList).2 : Int)]) ∧ Keeps (fun _ => False) w w' := by
  have h1 := fun w => index_any s 32 32 rfl w
  have HS := Hid.mk' (size_len s)
  have hu := index_upto s.data.toList 32
  have hle := upto_le 32 s.data.toList
  rw [← HS.out] at hu hle
  have h2 := fun w => index_any (s.extract 0 (upto 32 s.data.toList)) 34 34 rfl w
  rw [extr, List.drop_zero, Nat.sub_zero] at h2
  have hx : s.extract 0 (upto 32 s.data.toList) = mkB (s.data.toList.take (upto 32 s.data.toList)) := by rw [mkB_extr, List.drop_zero, Nat.sub_zero]
  rw [hx] at h2
  have hfw : fwP s.data.toList = if (s.data.toList.take (upto 32 s.data.toList)).all (· != 34) = true then (⟨mkB (s.data.toList.take (upto 32 s.data.toList)), false⟩, upto 32 s.data.toList) else (⟨⟨#[]⟩, false⟩, 0) := rfl
  have hin := index_has (s.data.toList.take (upto 32 s.data.toList)) 34
  generalize s.data.toList.take (upto 32 s.data.toList) = P at *
  generalize upto 32 s.data.toList = n at *
  generalize Lib.indexByte s.data.toList 32 = I at *
  generalize Lib.indexByte P 34 = J at *
  by_cases hj : J < 0
  · have hp : P.all (· != 34) = true := by rw [← hin]; exact hj
    rw [hfw, if_pos hp]
    have hj' : ¬ 0 ≤ J := by omega
    clear hin hfw hp
    rcases hu with ⟨rfl, hn⟩ | ⟨rfl, hn⟩
    · subst hn
      go_enter Tryz.func66, Tryz.ntmps66
      go_wp2_with (first
        | (go_at_call 93; refine (h1 _).mono ?_; clear h1; rintro e w1 ⟨rfl, hw1⟩; subst w1)
        | (go_at_call 93; refine (h2 _).mono ?_; clear h2; rintro e w1 ⟨rfl, hw1⟩; subst w1))
      exact bodyPost_ret (results_cell_slot rfl _ _ w.heap.size 92 (wcell ⟨mkB P, false⟩) (0, 0) _ rfl (heap_last w _) Tryz.underlying92 rfl size92) rfl ⟨rfl, (Keeps.refl _ w).alloc _⟩
    · have hn' : ¬ (n : Int) < 0 := by omega
      go_enter Tryz.func66, Tryz.ntmps66
      go_wp2_with (first
        | (go_at_call 93; refine (h1 _).mono ?_; clear h1; rintro e w1 ⟨rfl, hw1⟩; subst w1)
        | (go_at_call 93; refine (h2 _).mono ?_; clear h2; rintro e w1 ⟨rfl, hw1⟩; subst w1))
      exact bodyPost_ret (results_cell_slot rfl _ _ w.heap.size 92 (wcell ⟨mkB P, false⟩) (0, 0) _ rfl (heap_last w _) Tryz.underlying92 rfl size92) rfl ⟨rfl, (Keeps.refl _ w).alloc _⟩
  · have hp : ¬ P.all (· != 34) = true := by rw [← hin]; exact hj
    rw [hfw, if_neg hp]
    have hj' : 0 ≤ J := by omega
    clear hin hfw hp
    rcases hu with ⟨rfl, hn⟩ | ⟨rfl, hn⟩
    · subst hn
      go_enter Tryz.func66, Tryz.ntmps66
      go_wp2_with (first
        | (go_at_call 93; refine (h1 _).mono ?_; clear h1; rintro e w1 ⟨rfl, hw1⟩; subst w1)
        | (go_at_call 93; refine (h2 _).mono ?_; clear h2; rintro e w1 ⟨rfl, hw1⟩; subst w1))
      exact bodyPost_ret (results_cell_slot rfl _ _ w.heap.size 92 (wcell ⟨⟨#[]⟩, false⟩) (0, 0) _ rfl (heap_last w _) Tryz.underlying92 rfl size92) rfl ⟨rfl, (Keeps.refl _ w).alloc _⟩
    · have hn' : ¬ (n : Int) < 0 := by omega
      go_enter Tryz.func66, Tryz.ntmps66
      go_wp2_with (first
        | (go_at_call 93; refine (h1 _).mono ?_; clear h1; rintro e w1 ⟨rfl, hw1⟩; subst w1)
        | (go_at_call 93; refine (h2 _).mono ?_; clear h2; rintro e w1 ⟨rfl, hw1⟩; subst w1))
      exact bodyPost_ret (results_cell_slot rfl _ _ w.heap.size 92 (wcell ⟨⟨#[]⟩, false⟩) (0, 0) _ rfl (heap_last w _) Tryz.underlying92 rfl size92) rfl ⟨rfl, (Keeps.refl _ w).alloc _⟩
end Go.Proofs.YtdlhdompemkjfaaGreatDoor
