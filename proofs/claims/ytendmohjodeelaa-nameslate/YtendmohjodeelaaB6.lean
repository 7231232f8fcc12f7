import Derived.Test.YtendmohjodeelaaB5
namespace Go.Proofs.Ytendmohjodeelaa
open Go.RowKit Go.Maps Go.Great Go.Sort Go.Shelf

theorem del_ins {x : Rw} : ∀ {S : List Rw}, hasS S x.1 x.2.1 = false → delS (insS x S) x.1 x.2.1 = S
  | [], _ => by simp [delS, insS, same]
  | r :: l, h => by
    have hn := hasS_not.1 h
    have hr : same x.1 x.2.1 r = false := by rw [Bool.eq_false_iff]; exact fun e => hn r (List.mem_cons_self ..) (same_iff.1 e)
    have hl : hasS l x.1 x.2.1 = false := hasS_not.2 fun q hq => hn q (List.mem_cons_of_mem _ hq)
    have hx : same x.1 x.2.1 x = true := by simp [same]
    unfold insS
    split
    · have := del_none (S := r :: l) h
      unfold delS at this ⊢
      rw [List.filter_cons, hx]
      simpa using this
    · have ih := del_ins (x := x) hl
      unfold delS at ih ⊢
      rw [List.filter_cons, hr, ih]; rfl

theorem lst_del (S : List Rw) (d : Int) (s : ByteArray) : lstS (delS S d s) d = (lstS S d).filter (fun x => !decide (x.1 = s)) := by
  rw [lstS_eq, lstS_eq, List.filter_map, delS, List.filter_filter, List.filter_filter]
  congr 1
  apply List.filter_congr
  intro r _
  simp only [inDir, same, Function.comp, toDe]
  by_cases h : r.1 = d
  · simp [h]; exact decide_eq_decide.2 Iff.rfl
  · simp [h]

theorem mem_lst {S : List Rw} {d : Int} {x : De} : x ∈ lstS S d ↔ (d, x.1, x.2) ∈ S := by
  rw [lstS_eq, List.mem_map]
  constructor
  · rintro ⟨r, hr, rfl⟩
    have := List.mem_filter.1 hr
    have h2 : r.1 = d := by simpa [inDir] using this.2
    have : (d, (toDe r).1, (toDe r).2) = r := by rw [← h2]; rfl
    rw [this]; exact (List.mem_filter.1 hr).1
  · intro h
    exact ⟨_, List.mem_filter.2 ⟨h, by simp [inDir]⟩, rfl⟩

theorem lst_len (S : List Rw) (d : Int) : (lstS S d).length = (S.filter (inDir d)).length := by rw [lstS_eq, List.length_map]
theorem filt_le (S : List Rw) (p : Rw → Bool) : (S.filter p).length ≤ S.length := List.length_filter_le ..
theorem ins_filt (x : Rw) (S : List Rw) (p : Rw → Bool) : ((insS x S).filter p).length = (S.filter p).length + (if p x then 1 else 0) := by
  rw [((ins_perm x S).filter p).length_eq, List.filter_cons]
  split <;> simp

theorem fill_ok (l : List OpT) (S : List Rw) (h : Rise S ∧ ∀ r ∈ S, OkR r) : Rise (l.foldl (fun S t => putS S (inoF t.d) t.s (inoF t.i)) S) ∧ ∀ r ∈ l.foldl (fun S t => putS S (inoF t.d) t.s (inoF t.i)) S, OkR r := by
  induction l generalizing S with
  | nil => exact h
  | cons t l ih =>
    rw [List.foldl_cons]
    refine ih _ ?_
    unfold putS
    split
    · rename_i he
      unfold putE at he
      rw [inoF_is, inoF_is] at he
      have hv : valid t.s = true := by
        cases hv : valid t.s with
        | true => rfl
        | false => simp [hv] at he
      have hh : hasS S (inoF t.d) t.s = false := by
        cases hh : hasS S (inoF t.d) t.s with
        | false => rfl
        | true => simp [hv, hh] at he
      refine ⟨ins_rise h.1 hh, fun r hr => ?_⟩
      rcases mem_ins.1 hr with rfl | hr
      · exact ⟨inoF_bd _, hv, inoF_bd _⟩
      · exact h.2 r hr
    · exact h
theorem fillS_ok (l : List OpT) : Rise (fillS l) ∧ ∀ r ∈ fillS l, OkR r := fill_ok l [] ⟨List.Pairwise.nil, by simp⟩
theorem fillS_len (l : List OpT) : (fillS l).length ≤ l.length := by have := fill_len l []; simpa [fillS] using this

/-- A name that is there has a number that isn't 0. -/
theorem get_zero {S : List Rw} (ok : ∀ r ∈ S, OkR r) {d : Int} {s : ByteArray} (h : getS S d s = 0) : hasS S d s = false := by
  cases hh : hasS S d s with
  | false => rfl
  | true =>
    obtain ⟨i, hi, e⟩ := getS_some hh
    have := (ok _ hi).2.2
    simp only at this
    omega
theorem get_pos {S : List Rw} {d : Int} {s : ByteArray} (h : getS S d s ≠ 0) : hasS S d s = true := by
  cases hh : hasS S d s with
  | true => rfl
  | false => exact absurd (getS_none hh) h

/-- Going over the longer list: how many names have been other ones. -/
def oth (s : ByteArray) (x : De) : Bool := !decide (x.1 = s)
theorem oth_step (s : ByteArray) {l : List De} {k : Nat} (h : k < l.length) : (l.take (k + 1)).filter (oth s) = (l.take k).filter (oth s) ++ (if oth s (l.getD k dz) then [l.getD k dz] else []) := by
  rw [take_getD dz h, List.filter_append]
  congr 1
  simp only [List.filter_cons, List.filter_nil]
theorem oth_at (s : ByteArray) {l : List De} {k : Nat} (h : k < l.length) (ho : oth s (l.getD k dz) = true) : ((l.take k).filter (oth s)).length < (l.filter (oth s)).length ∧ (l.filter (oth s)).getD ((l.take k).filter (oth s)).length dz = l.getD k dz := by
  have e : l.filter (oth s) = (l.take k).filter (oth s) ++ l.getD k dz :: (l.drop (k + 1)).filter (oth s) := by
    conv => lhs; rw [← List.take_append_drop (k + 1) l]
    rw [List.filter_append, oth_step s h, ho]
    simp
  rw [e]
  constructor
  · simp
  · simp [List.getD_eq_getElem?_getD]

end Go.Proofs.Ytendmohjodeelaa
