import Derived.Test.YtendmohjodeelaaG4
namespace Go.Proofs.Ytendmohjodeelaa
open Go.RowKit Go.Maps Go.Great Go.Shelf

def mB : ByteArray := ⟨#[109]⟩
theorem valid_m : valid mB = true := by kernel_rfl
def isM (x : De) : Bool := decide (x.1 = mB)
/-- How often m has come. -/
def cntM (l : List De) : Nat := (l.filter isM).length
/-- What the index holds while the first round goes on. -/
def lateR (S : List Rw) (d : Int) (pre : List De) : List Rw := if pre.any isM then delS S d mB else S
theorem lateR_snoc_m {S : List Rw} {d : Int} {pre : List De} {y : De} (h : y.1 = mB) : delS (lateR S d pre) d mB = lateR S d (pre ++ [y]) := by
  have e : (pre ++ [y]).any isM = true := by simp [isM, h]
  rw [lateR, lateR, e, if_pos rfl]
  split
  · unfold delS; rw [List.filter_filter]; simp
  · rfl
theorem lateR_snoc {S : List Rw} {d : Int} {pre : List De} {y : De} (h : y.1 ≠ mB) : lateR S d (pre ++ [y]) = lateR S d pre := by
  have e : (pre ++ [y]).any isM = pre.any isM := by simp [isM, h]
  rw [lateR, lateR, e]
theorem lateR_len (S : List Rw) (d : Int) (pre : List De) : (lateR S d pre).length ≤ S.length := by
  unfold lateR; split
  · exact List.length_filter_le ..
  · omega
theorem cnt_snoc_m {pre : List De} {y : De} (h : y.1 = mB) : cntM (pre ++ [y]) = cntM pre + 1 := by simp [cntM, isM, h]
theorem cnt_snoc {pre : List De} {y : De} (h : y.1 ≠ mB) : cntM (pre ++ [y]) = cntM pre := by simp [cntM, isM, h]
theorem cnt_le (l : List De) : cntM l ≤ l.length := List.length_filter_le ..

/-- What is in the index ahead of the rounds. -/
structure LT (S : List Rw) (d : Int) (n : Nat) : Prop where
  rise : Rise S
  ok : ∀ r ∈ S, OkR r
  few : S.length ≤ n
  has : hasS S d mB = true
theorem lt_one {S : List Rw} {d : Int} {n : Nat} (h : LT S d n) : cntM (lstS S d) = 1 ∧ (lstS S d).any isM = true := by
  obtain ⟨r, hr, h1, h2⟩ := hasS_iff.1 h.has
  have hm : (r.2.1, r.2.2) ∈ lstS S d := mem_lst.2 (by rw [← h1]; exact hr)
  have hap := lst_apart h.rise d
  have hmem : ∀ a ∈ (lstS S d).filter isM, a = (r.2.1, r.2.2) := by
    intro a ha
    obtain ⟨h3, h4⟩ := List.mem_filter.1 ha
    have e : a.1 = mB := by simpa [isM] using h4
    have hra : (d, a.1, a.2) ∈ S := mem_lst.1 h3
    have := h.rise.inj hra hr ⟨h1.symm, by rw [e]; exact h2.symm⟩
    rw [← this]
  have hin : (r.2.1, r.2.2) ∈ (lstS S d).filter isM := List.mem_filter.2 ⟨hm, by simp [isM, h2]⟩
  refine ⟨?_, List.any_eq_true.2 ⟨_, hm, by simp [isM, h2]⟩⟩
  unfold cntM
  have hnd : ((lstS S d).filter isM).Nodup := (names_apart hap).filter _
  generalize (lstS S d).filter isM = F at *
  match F with
  | [] => cases hin
  | [a] => rfl
  | a :: b :: F =>
    have ha := hmem a (by simp)
    have hb := hmem b (by simp)
    have := (List.nodup_cons.1 hnd).1
    rw [ha, hb] at this
    simp at this
theorem lt_gone {S : List Rw} {d : Int} : cntM (lstS (delS S d mB) d) = 0 ∧ getS (delS S d mB) d mB = 0 ∧ dropE (delS S d mB) d mB = 82 := by
  have hno : hasS (delS S d mB) d mB = false := hasS_not.2 fun r hr => (mem_del.1 hr).2
  refine ⟨?_, getS_none hno, by simp [dropE, hno]⟩
  unfold cntM
  rw [List.length_eq_zero_iff, List.filter_eq_nil_iff]
  intro a ha
  have h1 : (d, a.1, a.2) ∈ delS S d mB := mem_lst.1 ha
  intro h2
  exact (mem_del.1 h1).2 ⟨rfl, by simpa [isM] using h2⟩
theorem lateR_end {S : List Rw} {d : Int} {n : Nat} (h : LT S d n) : lateR S d (lstS S d) = delS S d mB := by rw [lateR, (lt_one h).2, if_pos rfl]

/-- The two names are dropped, m is put in. -/
theorem late_put {S : List Rw} {d t : Int} (hr : Rise S) (ok : ∀ r ∈ S, OkR r) (hd : 1 ≤ d ∧ d ≤ 256) (ht : 1 ≤ t ∧ t ≤ 256) (s : ByteArray) :
    putE (delS (delS S d mB) d s) d mB t = 0 ∧ LT (putS (delS (delS S d mB) d s) d mB t) d (S.length + 1) ∧ (s ≠ mB → hasS (putS (delS (delS S d mB) d s) d mB t) d s = false) := by
  have hno : hasS (delS (delS S d mB) d s) d mB = false := hasS_not.2 fun r hr => (mem_del.1 (mem_del.1 hr).1).2
  have hd' : isIno d = true := by simp [isIno, hd]
  have ht' : isIno t = true := by simp [isIno, ht]
  have he : putE (delS (delS S d mB) d s) d mB t = 0 := by simp [putE, hd', ht', valid_m, hno]
  have hl1 : (delS S d mB).length ≤ S.length := List.length_filter_le ..
  have hl2 : (delS (delS S d mB) d s).length ≤ (delS S d mB).length := List.length_filter_le ..
  refine ⟨he, ?_, fun hs => ?_⟩
  · rw [putS, if_pos he]
    refine ⟨ins_rise (del_rise (del_rise hr _ _) _ _) hno, fun r hr' => ?_, by rw [ins_len]; omega, hasS_iff.2 ⟨_, mem_ins.2 (Or.inl rfl), rfl, rfl⟩⟩
    rcases mem_ins.1 hr' with rfl | hr'
    · exact ⟨hd, valid_m, ht⟩
    · exact ok r (mem_del.1 (mem_del.1 hr').1).1
  · rw [putS, if_pos he]
    rw [hasS_not]
    intro r hr'
    rcases mem_ins.1 hr' with rfl | hr'
    · rintro ⟨_, e⟩; exact hs e.symm
    · exact (mem_del.1 hr').2
theorem late_more {S : List Rw} {d t : Int} {n : Nat} (h : LT S d n) (hd : 1 ≤ d ∧ d ≤ 256) (ht : 1 ≤ t ∧ t ≤ 256) {s : ByteArray} (hv : valid s = true) (hno : hasS S d s = false) : putE S d s t = 0 ∧ LT (putS S d s t) d (n + 1) := by
  have hd' : isIno d = true := by simp [isIno, hd]
  have ht' : isIno t = true := by simp [isIno, ht]
  have he : putE S d s t = 0 := by simp [putE, hd', ht', hv, hno]
  refine ⟨he, ?_⟩
  rw [putS, if_pos he]
  refine ⟨ins_rise h.rise hno, fun r hr' => ?_, by rw [ins_len]; have := h.few; omega, ?_⟩
  · rcases mem_ins.1 hr' with rfl | hr'
    · exact ⟨hd, hv, ht⟩
    · exact h.ok r hr'
  · obtain ⟨r, hr, h1, h2⟩ := hasS_iff.1 h.has
    exact hasS_iff.2 ⟨r, mem_ins.2 (Or.inr hr), h1, h2⟩

end Go.Proofs.Ytendmohjodeelaa
