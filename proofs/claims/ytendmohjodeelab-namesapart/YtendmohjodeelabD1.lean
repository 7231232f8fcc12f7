import Derived.Test.YtendmohjodeelabC1
import Derived.Test.YtendmohjodeelabK0
namespace Go.Proofs.Ytendmohjodeelab
open Go.RowKit Go.Maps Go.Great

theorem clr_dir (S : List Rw) (d : Int) : (clrS S d).filter (inDir d) = [] := by
  simp [clrS, List.filter_filter]
theorem clr_lst (S : List Rw) (d : Int) : lstS (clrS S d) d = [] := by rw [lstS_eq, clr_dir]; rfl
theorem clr_clr (S : List Rw) (d : Int) : clrS (clrS S d) d = clrS S d := by simp [clrS, List.filter_filter]
theorem clr_oth (S : List Rw) (d k : Int) (h : k ≠ d) : lstS (clrS S d) k = lstS S k := by
  rw [lstS_eq, lstS_eq, clrS, List.filter_filter]
  congr 1
  apply List.filter_congr
  intro r _
  by_cases e : r.1 = k
  · have : ¬ r.1 = d := by omega
    simp [inDir, e, h]
  · simp [inDir, e]
def isIn (k : Int) (x : De) : Bool := decide (x.2 = k)
theorem clr_links (S : List Rw) (d k : Int) : ((clrS S d).filter (toIno k)).length + ((lstS S d).filter (isIn k)).length = (S.filter (toIno k)).length := by
  induction S with
  | nil => rfl
  | cons r S ih =>
    simp only [lstS_eq, clrS] at ih ⊢
    have h3 : isIn k (toDe r) = toIno k r := rfl
    cases h1 : inDir d r <;> cases h2 : toIno k r <;> simp only [List.filter_cons, List.map_cons, h1, h2, h3, Bool.not_true, Bool.not_false, if_true, if_false, Bool.false_eq_true, List.length_cons] <;> omega
theorem getD_lt {l : List De} {i : Nat} (h : i < l.length) : l.getD i dz = l[i] := by
  rw [List.getD_eq_getElem?_getD, List.getElem?_eq_getElem h, Option.getD_some]
theorem cnt_step (k : Int) {l : List De} {i : Nat} (h : i < l.length) : ((l.take (i + 1)).filter (isIn k)).length = ((l.take i).filter (isIn k)).length + (if (l.getD i dz).2 = k then 1 else 0) := by
  rw [take_getD dz h, List.filter_append, List.length_append]
  by_cases e : (l.getD i dz).2 = k
  · simp only [List.filter_cons, isIn, e, decide_true, if_true]; rfl
  · simp only [List.filter_cons, isIn, e, decide_false, if_false]; rfl
theorem cnt_le (k : Int) (l : List De) (i : Nat) : ((l.take i).filter (isIn k)).length ≤ l.length := Nat.le_trans (List.length_filter_le ..) (by simp [Nat.min_le_right])

def ofDe (d : Int) (x : De) : Rw := (d, x.1, x.2)
/-- The names of S but d's, and d's first i. -/
def RP (S : List Rw) (d : Int) (i : Nat) (R : List Rw) : Prop := Rise R ∧ R.Perm (clrS S d ++ ((lstS S d).take i).map (ofDe d))
theorem rp_zero {S : List Rw} (h : Rise S) (d : Int) : RP S d 0 (clrS S d) := ⟨List.Pairwise.filter _ h, by simp⟩
theorem clr_len2 (S : List Rw) (d : Int) : (clrS S d).length + (lstS S d).length = S.length := by
  rw [lst_len]
  simp only [clrS]
  induction S with
  | nil => rfl
  | cons r S ih => cases h1 : inDir d r <;> simp only [List.filter_cons, h1, Bool.not_true, Bool.not_false, if_true, if_false, Bool.false_eq_true, List.length_cons] <;> omega
theorem rp_len {S R : List Rw} {d : Int} {i : Nat} (h : RP S d i R) : R.length ≤ S.length := by
  rw [h.2.length_eq, List.length_append, List.length_map, List.length_take]
  have := clr_len2 S d
  omega
theorem rp_step {S R : List Rw} {d : Int} {i : Nat} (hS : Rise S) (hok : ∀ r ∈ S, OkR r) (h : RP S d i R) (hi : i < (lstS S d).length) {q : De} (hq : (lstS S d).getD i dz = q) :
    getS R d q.1 = 0 ∧ putE R d q.1 q.2 = 0 ∧ RP S d (i + 1) (putS R d q.1 q.2) := by
  have hqm : q ∈ lstS S d := by
    rw [← hq, getD_lt hi]; exact List.getElem_mem ..
  have hqS := mem_lst.1 hqm
  have hokq := hok _ hqS
  have hno : hasS R d q.1 = false := by
    rw [hasS_not]
    rintro r hr ⟨e1, e2⟩
    rw [h.2.mem_iff, List.mem_append] at hr
    rcases hr with hr | hr
    · have := (List.mem_filter.1 hr).2
      simp [inDir, e1] at this
    · obtain ⟨z, hz, rfl⟩ := List.mem_map.1 hr
      obtain ⟨j, hj, e⟩ := List.getElem_of_mem hz
      rw [List.length_take] at hj
      rw [List.getElem_take] at e
      have hs := List.pairwise_iff_getElem.1 (lst_sorted hS d) j i (by omega) hi (by omega)
      rw [e] at hs
      rw [getD_lt hi] at hq
      rw [hq] at hs
      simp only [ofDe] at e2
      rw [e2, blt_irrefl] at hs
      cases hs
  have hE : putE R d q.1 q.2 = 0 := by
    obtain ⟨o1, o2, o3⟩ := hokq
    simp only at o1 o2 o3
    simp [putE, isIno, o1, o2, o3, hno]
  refine ⟨getS_none hno, hE, ?_⟩
  have hp : putS R d q.1 q.2 = insS (d, q.1, q.2) R := by rw [putS, hE]; rfl
  rw [hp]
  refine ⟨ins_rise h.1 hno, (ins_perm _ _).trans ?_⟩
  rw [take_getD dz hi, hq, List.map_append, ← List.append_assoc]
  refine ((List.Perm.cons _ h.2).trans ?_)
  exact (List.perm_append_singleton (ofDe d q) _).symm
theorem rp_end {S R : List Rw} {d : Int} (hS : Rise S) (h : RP S d (lstS S d).length R) : lstS R d = lstS S d := by
  refine sorted_unique _ _ (lst_sorted hS d) ?_ ((lst_sorted h.1 d).imp (fun h => by first | exact blt_asymm h | (rw [ltD]; exact blt_asymm h)))
  rw [lstS_eq R]
  have h1 := (h.2.filter (inDir d)).map toDe
  refine h1.trans ?_
  rw [List.filter_append, clr_dir, List.nil_append, List.take_length]
  have : ∀ l : List De, ((l.map (ofDe d)).filter (inDir d)).map toDe = l := by
    intro l
    induction l with
    | nil => rfl
    | cons a l ih => simp [ofDe, inDir, toDe] at ih ⊢; exact ih
  rw [this]

end Go.Proofs.Ytendmohjodeelab
