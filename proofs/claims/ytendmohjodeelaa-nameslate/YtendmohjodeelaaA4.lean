import Derived.Test.YtendmohjodeelaaA3
namespace Go.Proofs.Ytendmohjodeelaa
open Go.RowKit Go.Maps

/-! The names of all directories: a rising list of (directory, name, inode). -/
abbrev Rw := Int × ByteArray × Int

def bcmp (a b : ByteArray) : Int := Lib.compareBytes a.data.toList b.data.toList
def blt (a b : ByteArray) : Bool := decide (bcmp a b < 0)

theorem cmpL_self : ∀ a : List UInt8, Lib.compareBytes a a = 0
  | [] => rfl
  | a :: l => by simp [Lib.compareBytes, cmpL_self l]
theorem cmpL_zero : ∀ a b : List UInt8, Lib.compareBytes a b = 0 → a = b
  | [], [], _ => rfl
  | [], _ :: _, h => by simp [Lib.compareBytes] at h
  | _ :: _, [], h => by simp [Lib.compareBytes] at h
  | a :: l, b :: m, h => by
    simp only [Lib.compareBytes] at h
    split at h
    · simp at h
    · split at h
      · simp at h
      · rename_i h1 h2
        have e : a = b := UInt8.le_antisymm (UInt8.not_lt.1 h2) (UInt8.not_lt.1 h1)
        rw [e, cmpL_zero l m h]
theorem cmpL_swap : ∀ a b : List UInt8, Lib.compareBytes b a = - Lib.compareBytes a b
  | [], [] => rfl
  | [], _ :: _ => rfl
  | _ :: _, [] => rfl
  | a :: l, b :: m => by
    simp only [Lib.compareBytes]
    by_cases h1 : a < b
    · have h2 : ¬ b < a := fun h => absurd (UInt8.lt_trans h1 h) (UInt8.lt_irrefl _)
      simp [h1, h2]
    · by_cases h2 : b < a
      · simp [h1, h2]
      · simp [h1, h2, cmpL_swap l m]
theorem cmpL_trans : ∀ a b c : List UInt8, Lib.compareBytes a b < 0 → Lib.compareBytes b c < 0 → Lib.compareBytes a c < 0
  | [], [], c, h, _ => by simp [Lib.compareBytes] at h
  | _ :: _, [], c, h, _ => by simp [Lib.compareBytes] at h
  | [], _ :: _, [], _, h => by simp [Lib.compareBytes] at h
  | [], _ :: _, _ :: _, _, _ => by simp [Lib.compareBytes]
  | _ :: _, _ :: _, [], _, h => by simp [Lib.compareBytes] at h
  | a :: l, b :: m, c :: n, h, k => by
    simp only [Lib.compareBytes] at h k ⊢
    by_cases h1 : a < b
    · by_cases k1 : b < c
      · simp [UInt8.lt_trans h1 k1]
      · by_cases k2 : c < b
        · simp [k1, k2] at k
        · have e : b = c := UInt8.le_antisymm (UInt8.not_lt.1 k2) (UInt8.not_lt.1 k1)
          subst e; simp [h1]
    · by_cases h2 : b < a
      · simp [h1, h2] at h
      · have e : a = b := UInt8.le_antisymm (UInt8.not_lt.1 h2) (UInt8.not_lt.1 h1)
        subst e
        simp only [UInt8.lt_irrefl, if_false] at h
        by_cases k1 : a < c
        · simp [k1]
        · by_cases k2 : c < a
          · simp [k1, k2] at k
          · simp only [k1, k2, if_false] at k ⊢
            exact cmpL_trans l m n h k

theorem bytes_ext {a b : ByteArray} (h : a.data.toList = b.data.toList) : a = b := by
  obtain ⟨⟨l⟩⟩ := a
  obtain ⟨⟨m⟩⟩ := b
  simp at h
  rw [h]
theorem blt_irrefl (a : ByteArray) : blt a a = false := by simp [blt, bcmp, cmpL_self]
theorem blt_trans {a b c : ByteArray} (h : blt a b = true) (k : blt b c = true) : blt a c = true := by
  have h1 : bcmp a b < 0 := of_decide_eq_true h
  have k1 : bcmp b c < 0 := of_decide_eq_true k
  exact decide_eq_true (cmpL_trans _ _ _ h1 k1)
theorem blt_total {a b : ByteArray} (h : blt a b = false) (k : blt b a = false) : a = b := by
  have h1 : ¬ Lib.compareBytes a.data.toList b.data.toList < 0 := of_decide_eq_false h
  have k1 : ¬ Lib.compareBytes b.data.toList a.data.toList < 0 := of_decide_eq_false k
  rw [cmpL_swap] at k1
  exact bytes_ext (cmpL_zero _ _ (by omega))
theorem blt_asymm {a b : ByteArray} (h : blt a b = true) : blt b a = false := by
  cases k : blt b a with
  | false => rfl
  | true => have := blt_trans h k; rw [blt_irrefl] at this; cases this

/-- The order of rows. -/
def rlt (r q : Rw) : Bool := decide (r.1 < q.1) || (decide (r.1 = q.1) && blt r.2.1 q.2.1)
/-- One place: directory and name. -/
def same (d : Int) (s : ByteArray) (r : Rw) : Bool := decide (r.1 = d) && decide (r.2.1 = s)

theorem same_iff {d : Int} {s : ByteArray} {r : Rw} : same d s r = true ↔ r.1 = d ∧ r.2.1 = s := by simp [same]
theorem rlt_ne {r q : Rw} (h : rlt r q = true) : ¬ (r.1 = q.1 ∧ r.2.1 = q.2.1) := by
  rintro ⟨h1, h2⟩
  simp only [rlt, Bool.or_eq_true, Bool.and_eq_true, decide_eq_true_eq] at h
  rcases h with h | ⟨_, h⟩
  · omega
  · rw [h2, blt_irrefl] at h; cases h
theorem rlt_trans {a b c : Rw} (h : rlt a b = true) (k : rlt b c = true) : rlt a c = true := by
  simp only [rlt, Bool.or_eq_true, Bool.and_eq_true, decide_eq_true_eq] at h k ⊢
  rcases h with h | ⟨h1, h2⟩
  · rcases k with k | ⟨k1, k2⟩
    · left; omega
    · left; omega
  · rcases k with k | ⟨k1, k2⟩
    · left; omega
    · right; exact ⟨by omega, blt_trans h2 k2⟩
theorem rlt_total {a b : Rw} (h : rlt a b = false) (k : ¬ (a.1 = b.1 ∧ a.2.1 = b.2.1)) : rlt b a = true := by
  simp only [rlt, Bool.or_eq_false_iff, Bool.and_eq_false_iff, decide_eq_false_iff_not] at h
  simp only [rlt, Bool.or_eq_true, Bool.and_eq_true, decide_eq_true_eq]
  by_cases e : a.1 = b.1
  · right
    refine ⟨e.symm, ?_⟩
    rcases h.2 with h2 | h2
    · exact absurd e h2
    · cases hb : blt b.2.1 a.2.1 with
      | true => rfl
      | false => exact absurd ⟨e, blt_total h2 hb⟩ k
  · left; omega

def Rise (S : List Rw) : Prop := S.Pairwise (fun r q => rlt r q = true)
def OkR (r : Rw) : Prop := (1 ≤ r.1 ∧ r.1 ≤ 256) ∧ valid r.2.1 = true ∧ (1 ≤ r.2.2 ∧ r.2.2 ≤ 256)

def getS (S : List Rw) (d : Int) (s : ByteArray) : Int := match S.find? (same d s) with | some r => r.2.2 | none => 0
def hasS (S : List Rw) (d : Int) (s : ByteArray) : Bool := S.any (same d s)
def insS (x : Rw) : List Rw → List Rw
  | [] => [x]
  | r :: l => if rlt x r then x :: r :: l else r :: insS x l
def delS (S : List Rw) (d : Int) (s : ByteArray) : List Rw := S.filter fun r => !same d s r
def lstS (S : List Rw) (d : Int) : List (ByteArray × Int) := (S.filter fun r => decide (r.1 = d)).map fun r => (r.2.1, r.2.2)
def lksS (S : List Rw) (i : Int) : Nat := (S.filter fun r => decide (r.2.2 = i)).length

theorem ins_perm (x : Rw) : ∀ S : List Rw, (insS x S).Perm (x :: S)
  | [] => List.Perm.refl _
  | r :: l => by
    unfold insS
    split
    · exact List.Perm.refl _
    · exact ((ins_perm x l).cons r).trans (List.Perm.swap x r l)
theorem ins_len (x : Rw) (S : List Rw) : (insS x S).length = S.length + 1 := by rw [(ins_perm x S).length_eq]; rfl
theorem mem_ins {x r : Rw} {S : List Rw} : r ∈ insS x S ↔ r = x ∨ r ∈ S := by rw [(ins_perm x S).mem_iff, List.mem_cons]
theorem hasS_iff {S : List Rw} {d : Int} {s : ByteArray} : hasS S d s = true ↔ ∃ r ∈ S, r.1 = d ∧ r.2.1 = s := by
  simp [hasS, List.any_eq_true, same_iff]
theorem hasS_not {S : List Rw} {d : Int} {s : ByteArray} : hasS S d s = false ↔ ∀ r ∈ S, ¬ (r.1 = d ∧ r.2.1 = s) := by
  rw [← Bool.not_eq_true, hasS_iff]
  exact ⟨fun h r hr e => h ⟨r, hr, e⟩, fun h ⟨r, hr, e⟩ => h r hr e⟩
theorem ins_rise {x : Rw} : ∀ {S : List Rw}, Rise S → hasS S x.1 x.2.1 = false → Rise (insS x S)
  | [], _, _ => List.pairwise_singleton ..
  | r :: l, h, hn => by
    have hn' := hasS_not.1 hn
    unfold insS
    cases hx : rlt x r with
    | true =>
      simp only [if_true]
      refine List.pairwise_cons.2 ⟨fun q hq => ?_, h⟩
      rcases List.mem_cons.1 hq with rfl | hq
      · exact hx
      · exact rlt_trans hx ((List.pairwise_cons.1 h).1 q hq)
    | false =>
      simp only [Bool.false_eq_true, if_false]
      have hr : rlt r x = true := rlt_total hx (fun e => hn' r (List.mem_cons_self ..) ⟨e.1.symm, e.2.symm⟩)
      refine List.pairwise_cons.2 ⟨fun q hq => ?_, ins_rise (List.pairwise_cons.1 h).2 (hasS_not.2 fun q hq => hn' q (List.mem_cons_of_mem _ hq))⟩
      rcases mem_ins.1 hq with rfl | hq
      · exact hr
      · exact (List.pairwise_cons.1 h).1 q hq
theorem del_rise {S : List Rw} (h : Rise S) (d : Int) (s : ByteArray) : Rise (delS S d s) := List.Pairwise.filter _ h
theorem Rise.inj {S : List Rw} (h : Rise S) {r q : Rw} (hr : r ∈ S) (hq : q ∈ S) (e : r.1 = q.1 ∧ r.2.1 = q.2.1) : r = q := by
  induction S with
  | nil => cases hr
  | cons a l ih =>
    have h1 := List.pairwise_cons.1 h
    rcases List.mem_cons.1 hr with hr' | hr'
    · rcases List.mem_cons.1 hq with hq' | hq'
      · rw [hr', hq']
      · exact absurd (by rw [← hr']; exact e) (rlt_ne (h1.1 q hq'))
    · rcases List.mem_cons.1 hq with hq' | hq'
      · exact absurd (by rw [← hq']; exact ⟨e.1.symm, e.2.symm⟩) (rlt_ne (h1.1 r hr'))
      · exact ih h1.2 hr' hq'
theorem getS_mem {S : List Rw} (h : Rise S) {r : Rw} (hr : r ∈ S) : getS S r.1 r.2.1 = r.2.2 := by
  unfold getS
  cases hf : S.find? (same r.1 r.2.1) with
  | none =>
    have := List.find?_eq_none.1 hf r hr
    simp [same] at this
  | some q =>
    have h1 := List.find?_some hf
    have h2 := List.mem_of_find?_eq_some hf
    have := h.inj h2 hr (same_iff.1 h1)
    rw [this]
theorem getS_none {S : List Rw} {d : Int} {s : ByteArray} (h : hasS S d s = false) : getS S d s = 0 := by
  unfold getS
  rw [List.find?_eq_none.2 (fun r hr hs => hasS_not.1 h r hr (same_iff.1 hs))]
theorem getS_some {S : List Rw} {d : Int} {s : ByteArray} (h : hasS S d s = true) : ∃ i, (d, s, i) ∈ S ∧ getS S d s = i := by
  unfold getS
  cases hf : S.find? (same d s) with
  | none =>
    obtain ⟨r, hr, h1⟩ := hasS_iff.1 h
    exact absurd (same_iff.2 h1) (by simpa using List.find?_eq_none.1 hf r hr)
  | some q =>
    have h1 := same_iff.1 (List.find?_some hf)
    have h2 := List.mem_of_find?_eq_some hf
    obtain ⟨a, b, c⟩ := q
    obtain ⟨rfl, rfl⟩ := h1
    exact ⟨c, h2, rfl⟩

/-! The tie between the map's reading and the list. -/
structure Tie (D : DataW Unit) (S : List Rw) : Prop where
  has : ∀ kl, Maps.has D kl = true ↔ ∃ r ∈ S, kl = kL r.1 r.2.1
  val : ∀ r ∈ S, ∀ z, D.atKey (kL r.1 r.2.1) z = .lit (.int .i64 r.2.2)
  size : Maps.size D = S.length
  rise : Rise S
  ok : ∀ r ∈ S, OkR r

theorem valid_size {s : ByteArray} (h : valid s = true) : s.size ≤ 28 ∧ 1 ≤ s.size := by
  simp only [valid, toList_empty, Bool.and_eq_true, decide_eq_true_eq, Bool.not_eq_true', decide_eq_false_iff_not] at h
  omega
theorem OkR.wf {r : Rw} (h : OkR r) : (Lit.int .i64 r.1).wf = true := wf64 (by have := h.1; omega) (by have := h.1; omega)
theorem OkR.sz {r : Rw} (h : OkR r) : r.2.1.size ≤ 28 := (valid_size h.2.1).1

theorem Tie.has_eq {D : DataW Unit} {S : List Rw} (h : Tie D S) {d : Int} {s : ByteArray} (hd : (Lit.int .i64 d).wf = true) (hs : s.size ≤ 28) : Maps.has D (kL d s) = hasS S d s := by
  rw [Bool.eq_iff_iff, h.has, hasS_iff]
  constructor
  · rintro ⟨r, hr, e⟩
    have := kL_inj hd (h.ok r hr).wf hs (h.ok r hr).sz e
    exact ⟨r, hr, this.1.symm, this.2.symm⟩
  · rintro ⟨r, hr, rfl, rfl⟩
    exact ⟨r, hr, rfl⟩
theorem kL_key (d : Int) (s : ByteArray) : WideAt.IsKeyLit (kL d s) := trivial
theorem Tie.put {D : DataW Unit} {S : List Rw} (h : Tie D S) (ht : Tidy D) {x : Rw} (hx : OkR x) (hn : hasS S x.1 x.2.1 = false) : Tie (D.put (kL x.1 x.2.1) (.lit (.int .i64 x.2.2))) (insS x S) where
  has kl := by
    by_cases e : kl = kL x.1 x.2.1
    · subst e
      rw [has_put_same ht.isMap (kL_key _ _)]
      exact ⟨fun _ => ⟨x, mem_ins.2 (Or.inl rfl), rfl⟩, fun _ => rfl⟩
    · rw [has_put_other e, h.has]
      constructor
      · rintro ⟨r, hr, e2⟩; exact ⟨r, mem_ins.2 (Or.inr hr), e2⟩
      · rintro ⟨r, hr, e2⟩
        rcases mem_ins.1 hr with rfl | hr
        · exact absurd e2 e
        · exact ⟨r, hr, e2⟩
  val r hr z := by
    rcases mem_ins.1 hr with rfl | hr
    · exact atKey_put_same ht.isMap (kL_key _ _) _ _
    · rw [atKey_put_other (fun e => hasS_not.1 hn r hr (kL_inj (h.ok r hr).wf hx.wf (h.ok r hr).sz hx.sz e))]
      exact h.val r hr z
  size := by
    rw [size_put ht, h.has_eq hx.wf hx.sz, hn, ins_len, h.size]; rfl
  rise := ins_rise h.rise hn
  ok r hr := by
    rcases mem_ins.1 hr with rfl | hr
    · exact hx
    · exact h.ok r hr
theorem del_len {S : List Rw} (h : Rise S) {d : Int} {s : ByteArray} (hh : hasS S d s = true) : (delS S d s).length + 1 = S.length := by
  induction S with
  | nil => simp [hasS] at hh
  | cons a l ih =>
    have h1 := List.pairwise_cons.1 h
    unfold delS
    by_cases e : same d s a = true
    · have hl : l.filter (fun r => !same d s r) = l := List.filter_eq_self.2 (fun q hq => by
        have e1 := same_iff.1 e
        simp only [Bool.not_eq_true', Bool.eq_false_iff]
        intro e2
        have e2 := same_iff.1 e2
        exact rlt_ne (h1.1 q hq) ⟨e1.1.trans e2.1.symm, e1.2.trans e2.2.symm⟩)
      simp [e, hl]
    · have e' : same d s a = false := by simpa using e
      have hl : hasS l d s = true := by simpa [hasS, e'] using hh
      have := ih h1.2 hl
      unfold delS at this
      simp [e', this]
theorem mem_del {S : List Rw} {d : Int} {s : ByteArray} {r : Rw} : r ∈ delS S d s ↔ r ∈ S ∧ ¬ (r.1 = d ∧ r.2.1 = s) := by
  simp only [delS, List.mem_filter, Bool.not_eq_true', Bool.eq_false_iff, ne_eq, same_iff]
theorem Tie.del {D : DataW Unit} {S : List Rw} (h : Tie D S) (ht : Tidy D) {d : Int} {s : ByteArray} (hd : (Lit.int .i64 d).wf = true) (hs : s.size ≤ 28) (hh : hasS S d s = true) : Tie (D.del (kL d s)) (delS S d s) where
  has kl := by
    by_cases e : kl = kL d s
    · subst e
      rw [has_del_same]
      constructor
      · intro h; cases h
      · rintro ⟨r, hr, e2⟩
        have hr := mem_del.1 hr
        have := kL_inj hd (h.ok r hr.1).wf hs (h.ok r hr.1).sz e2
        exact absurd ⟨this.1.symm, this.2.symm⟩ hr.2
    · rw [has_del_other e, h.has]
      constructor
      · rintro ⟨r, hr, e2⟩
        exact ⟨r, mem_del.2 ⟨hr, fun e3 => e (by rw [e2, e3.1, e3.2])⟩, e2⟩
      · rintro ⟨r, hr, e2⟩; exact ⟨r, (mem_del.1 hr).1, e2⟩
  val r hr z := by
    have hr := mem_del.1 hr
    rw [atKey_del_other (fun e => hr.2 (kL_inj (h.ok r hr.1).wf hd (h.ok r hr.1).sz hs e))]
    exact h.val r hr.1 z
  size := by
    have h1 := size_del (k := kL d s) ht
    rw [h.has_eq hd hs, hh, h.size] at h1
    have := del_len h.rise hh
    simp at h1; omega
  rise := del_rise h.rise d s
  ok r hr := h.ok r (mem_del.1 hr).1
theorem Tie.at {D : DataW Unit} {S : List Rw} (h : Tie D S) {d : Int} {s : ByteArray} (hd : (Lit.int .i64 d).wf = true) (hs : s.size ≤ 28) : D.atKey (kL d s) (.lit (.int .i64 0)) = .lit (.int .i64 (getS S d s)) := by
  cases hh : hasS S d s with
  | false => rw [getS_none hh]; exact atKey_of_not_has (by rw [h.has_eq hd hs, hh]) _
  | true =>
    obtain ⟨i, hi, e⟩ := getS_some hh
    rw [e]; exact h.val _ hi _
theorem tie_nil : Tie (.map []) [] := ⟨fun kl => by simp [Maps.has], by simp, rfl, List.Pairwise.nil, by simp⟩

end Go.Proofs.Ytendmohjodeelaa
