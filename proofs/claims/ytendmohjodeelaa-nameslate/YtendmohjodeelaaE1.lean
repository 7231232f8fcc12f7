import Derived.Test.YtendmohjodeelaaK0
namespace Go.Proofs.Ytendmohjodeelaa
open Go.RowKit Go.Maps Go.Great Go.Sort Go.Shelf

/-! Counts below a number. -/
def dirLt (k : Int) (r : Rw) : Bool := decide (r.1 < k)
def inoLt (k : Int) (r : Rw) : Bool := decide (r.2.2 < k)
theorem dir_step (S : List Rw) (k : Int) : (S.filter (dirLt k)).length + (S.filter (inDir k)).length = (S.filter (dirLt (k + 1))).length := by
  induction S with
  | nil => rfl
  | cons r S ih =>
    have h : dirLt (k + 1) r = (dirLt k r || inDir k r) := by
      simp only [dirLt, inDir, ← Bool.decide_or]
      exact decide_eq_decide.2 (by omega)
    have h2 : (dirLt k r && inDir k r) = false := by
      simp only [dirLt, inDir, ← Bool.decide_and]
      exact decide_eq_false (by omega)
    cases h3 : dirLt k r <;> cases h4 : inDir k r <;> simp_all <;> omega
theorem ino_step (S : List Rw) (k : Int) : (S.filter (inoLt k)).length + (S.filter (toIno k)).length = (S.filter (inoLt (k + 1))).length := by
  induction S with
  | nil => rfl
  | cons r S ih =>
    have h : inoLt (k + 1) r = (inoLt k r || toIno k r) := by
      simp only [inoLt, toIno, ← Bool.decide_or]
      exact decide_eq_decide.2 (by omega)
    have h2 : (inoLt k r && toIno k r) = false := by
      simp only [inoLt, toIno, ← Bool.decide_and]
      exact decide_eq_false (by omega)
    cases h3 : inoLt k r <;> cases h4 : toIno k r <;> simp_all <;> omega
theorem dir_start {S : List Rw} (h : ∀ r ∈ S, OkR r) : (S.filter (dirLt 1)).length = 0 := by
  rw [List.length_eq_zero_iff, List.filter_eq_nil_iff]
  intro r hr; have := (h r hr).1; simp [dirLt]; omega
theorem ino_start {S : List Rw} (h : ∀ r ∈ S, OkR r) : (S.filter (inoLt 1)).length = 0 := by
  rw [List.length_eq_zero_iff, List.filter_eq_nil_iff]
  intro r hr; have := (h r hr).2.2; simp [inoLt]; omega
theorem dir_end {S : List Rw} (h : ∀ r ∈ S, OkR r) : S.filter (dirLt 257) = S := by
  rw [List.filter_eq_self]
  intro r hr; have := (h r hr).1; simp [dirLt]; omega
theorem ino_end {S : List Rw} (h : ∀ r ∈ S, OkR r) : S.filter (inoLt 257) = S := by
  rw [List.filter_eq_self]
  intro r hr; have := (h r hr).2.2; simp [inoLt]; omega
theorem dir_none {S : List Rw} (h : ∀ r ∈ S, OkR r) (d : Int) (hd : d < 1 ∨ 256 < d) : (S.filter (inDir d)).length = 0 := by
  rw [List.length_eq_zero_iff, List.filter_eq_nil_iff]
  intro r hr; have := (h r hr).1; simp [inDir]; omega
theorem ino_none {S : List Rw} (h : ∀ r ∈ S, OkR r) (d : Int) (hd : d < 1 ∨ 256 < d) : (S.filter (toIno d)).length = 0 := by
  rw [List.length_eq_zero_iff, List.filter_eq_nil_iff]
  intro r hr; have := (h r hr).2.2; simp [toIno]; omega

/-! What is known of a list's entry. -/
theorem getD_lt {l : List De} {i : Nat} (h : i < l.length) : l.getD i dz = l[i] := by
  rw [List.getD_eq_getElem?_getD, List.getElem?_eq_getElem h, Option.getD_some]
theorem lst_entry {S : List Rw} (hr : Rise S) (hok : ∀ r ∈ S, OkR r) {d : Int} {i : Nat} (hi : i < (lstS S d).length) {q : De} (hq : (lstS S d).getD i dz = q) : getS S d q.1 = q.2 ∧ 1 ≤ q.2 ∧ q.2 ≤ 256 := by
  have hm : q ∈ lstS S d := by rw [← hq, getD_lt hi]; exact List.getElem_mem ..
  have hS := mem_lst.1 hm
  exact ⟨getS_mem hr hS, (hok _ hS).2.2⟩
theorem lst_rises {S : List Rw} (hr : Rise S) {d : Int} {i : Nat} (hi : i + 1 < (lstS S d).length) : blt ((lstS S d).getD i dz).1 ((lstS S d).getD (i + 1) dz).1 = true := by
  rw [getD_lt (by omega), getD_lt hi]
  exact List.pairwise_iff_getElem.1 (lst_sorted hr d) i (i + 1) (by omega) hi (by omega)

theorem less_cmp : ∀ a b : List UInt8, Op.bytesLess a b = decide (Lib.compareBytes a b < 0)
  | [], [] => rfl
  | [], _ :: _ => rfl
  | _ :: _, [] => rfl
  | a :: l, b :: m => by
    simp only [Op.bytesLess, Lib.compareBytes]
    by_cases h1 : a < b
    · simp [h1]
    · by_cases h2 : b < a
      · have : ¬ a = b := fun e => by subst e; exact absurd h2 (UInt8.lt_irrefl _)
        simp [h1, h2, this]
      · have e : a = b := UInt8.le_antisymm (UInt8.not_lt.1 h2) (UInt8.not_lt.1 h1)
        subst e
        simp [UInt8.lt_irrefl, less_cmp l m]
theorem less_blt (a b : ByteArray) : Op.bytesLess a.toList b.toList = blt a b := by
  rw [ByteArray.toList_eq, ByteArray.toList_eq, less_cmp]; rfl

/-! What the steps put in. -/
def sameK (t u : OpT) : Bool := decide (u.s = t.s) && decide (inoF u.d = inoF t.d)
theorem putS_sub {S : List Rw} {r : Rw} (h : r ∈ S) (d : Int) (s : ByteArray) (n : Int) : r ∈ putS S d s n := by
  unfold putS; split
  · exact mem_ins.2 (.inr h)
  · exact h
theorem fold_sub : ∀ (l : List OpT) {S : List Rw} {r : Rw}, r ∈ S → r ∈ l.foldl (fun S t => putS S (inoF t.d) t.s (inoF t.i)) S
  | [], _, _, h => h
  | _ :: l, _, _, h => fold_sub l (putS_sub h _ _ _)
theorem fill_sub (l : List OpT) (i : Nat) {r : Rw} (h : r ∈ fillS (l.take i)) : r ∈ fillS l := by
  have e : fillS l = (l.drop i).foldl (fun S t => putS S (inoF t.d) t.s (inoF t.i)) (fillS (l.take i)) := by
    unfold fillS
    rw [← List.foldl_append, List.take_append_drop]
  rw [e]
  exact fold_sub _ h
theorem fill_take {l : List OpT} {i : Nat} (h : i < l.length) : fillS (l.take (i + 1)) = putS (fillS (l.take i)) (inoF (l.getD i opZ).d) (l.getD i opZ).s (inoF (l.getD i opZ).i) := by
  rw [take_getD opZ h, fill_snoc]
theorem puts_bad {S : List Rw} {d n : Int} {s : ByteArray} (h : valid s = false) : putS S d s n = S := by
  unfold putS putE
  rw [h]
  cases isIno d && isIno n <;> simp
theorem puts_have {S : List Rw} {d n : Int} {s : ByteArray} (h : hasS S d s = true) : putS S d s n = S := by
  unfold putS putE
  rw [h]
  cases isIno d && isIno n <;> cases valid s <;> simp
theorem puts_new {S : List Rw} {t : OpT} (hv : valid t.s = true) (h : hasS S (inoF t.d) t.s = false) : putS S (inoF t.d) t.s (inoF t.i) = insS (inoF t.d, t.s, inoF t.i) S := by
  unfold putS putE
  rw [h, hv, inoF_is, inoF_is]
  simp
/-- A good step's name is there behind the first i steps just where one of these has it. -/
theorem fill_has (t : OpT) (hv : valid t.s = true) : ∀ (i : Nat) (l : List OpT), i ≤ l.length → hasS (fillS (l.take i)) (inoF t.d) t.s = (l.take i).any (sameK t)
  | 0, l, _ => rfl
  | i + 1, l, hi => by
    have ih := fill_has t hv i l (by omega)
    rw [fill_take (by omega), take_getD opZ (show i < l.length by omega), List.any_append, ← ih]
    generalize l.getD i opZ = u
    simp only [List.any_cons, List.any_nil, Bool.or_false]
    by_cases hk : u.s = t.s ∧ inoF u.d = inoF t.d
    · have e : sameK t u = true := by simp [sameK, hk.1, hk.2]
      rw [e, Bool.or_true, hk.1, hk.2]
      cases hh : hasS (fillS (l.take i)) (inoF t.d) t.s with
      | true => rw [puts_have hh, hh]
      | false =>
        have h2 := puts_new (S := fillS (l.take i)) (t := ⟨0, 0, 0, t.d, t.s, u.i⟩) hv hh
        simp only at h2
        rw [h2, hasS_iff]
        exact ⟨_, mem_ins.2 (.inl rfl), rfl, rfl⟩
    · have e : sameK t u = false := by
        simp only [sameK, ← Bool.decide_and]; exact decide_eq_false hk
      rw [e, Bool.or_false]
      unfold putS
      split
      · cases hh : hasS (fillS (l.take i)) (inoF t.d) t.s with
        | true =>
          obtain ⟨r, hr, h1, h2⟩ := hasS_iff.1 hh
          exact hasS_iff.2 ⟨r, mem_ins.2 (.inr hr), h1, h2⟩
        | false =>
          rw [hasS_not] at hh ⊢
          intro r hr
          rcases mem_ins.1 hr with rfl | hr
          · rintro ⟨h1, h2⟩; exact hk ⟨h2, h1⟩
          · exact hh r hr
      · rfl
/-- A good step whose name was not there: one more, and its inode stays. -/
theorem fill_first {l : List OpT} {i : Nat} (hi : i < l.length) {t : OpT} (ht : l.getD i opZ = t) (hv : valid t.s = true) (ha : (l.take i).any (sameK t) = false) :
    (fillS (l.take (i + 1))).length = (fillS (l.take i)).length + 1 ∧ getS (fillS l) (inoF t.d) t.s = inoF t.i := by
  have hh := fill_has t hv i l (by omega)
  rw [ha] at hh
  have e : fillS (l.take (i + 1)) = insS (inoF t.d, t.s, inoF t.i) (fillS (l.take i)) := by rw [fill_take hi, ht]; exact puts_new hv hh
  refine ⟨by rw [e, ins_len], ?_⟩
  have hm : (inoF t.d, t.s, inoF t.i) ∈ fillS l := fill_sub l (i + 1) (by rw [e]; exact mem_ins.2 (.inl rfl))
  exact getS_mem (fillS_ok l).1 hm
theorem fill_again {l : List OpT} {i : Nat} (hi : i < l.length) {t : OpT} (ht : l.getD i opZ = t) (h : valid t.s = false ∨ (l.take i).any (sameK t) = true) : (fillS (l.take (i + 1))).length = (fillS (l.take i)).length := by
  rw [fill_take hi, ht]
  cases hv : valid t.s with
  | false => rw [puts_bad hv]
  | true =>
    rw [hv] at h
    have hh := fill_has t hv i l (by omega)
    rw [puts_have (by rw [hh]; simpa using h)]

theorem beq_toList {a b : ByteArray} : (a.toList == b.toList) = decide (a = b) := by
  rw [ByteArray.toList_eq, ByteArray.toList_eq]
  by_cases h : a = b
  · simp [h]
  · have : ¬ a.data.toList = b.data.toList := fun e => h (bytes_ext e)
    have h2 : (a.data.toList == b.data.toList) = false := by rw [Bool.eq_false_iff]; exact fun e => this (by simpa using e)
    rw [h2]; simp [h]
theorem quiet_skip {C : World → Prop} {ops : Array Oper} {Q : Act → Prop} {a : Act} {o : Oper} {rest : List Oper} (hw : Region.wanted o (yielded ops a.tmps) = false) (h : wpQuiet Try.prog ops C Q rest (a.put o.dst undef)) : wpQuiet Try.prog ops C Q (o :: rest) a := by
  unfold wpQuiet
  rw [if_neg (by simp [hw])]
  exact h

end Go.Proofs.Ytendmohjodeelaa
