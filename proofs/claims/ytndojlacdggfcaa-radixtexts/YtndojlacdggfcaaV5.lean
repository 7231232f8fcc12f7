import Derived.Test.YtndojlacdggfcaaV4
namespace Go.Proofs.Ytndojlacdggfcaa
open Go.RowKit

/-- The texts of a tree of numbers. -/
def TXf (g : Nat → Int) : Nat → ByteArray := fun o => TX (g o)
theorem TXf_set (g : Nat → Int) (x y : Int) : setFS (TXf g) x (TX y) = TXf (setF g x y) := by
  unfold setFS setF
  split
  · funext o
    simp only [updS, TXf, upd]
    split <;> rfl
  · rfl
theorem TXf_cut (g : Nat → Int) (x : Int) : cutFS (TXf g) 0 x = TXf (cutF g 0 x) := by
  funext o
  simp only [cutFS, TXf, cutF]
  split
  · rfl
  · exact TX_zero.symm
theorem TXf_get (g : Nat → Int) (x : Int) : getFS (TXf g) x = TX (getF g x) := by
  unfold getFS getF
  split
  · rfl
  · exact TX_zero.symm
theorem TXf_els (g : Nat → Int) (lo : Int) (a n : Nat) : elsS (TXf g) lo a n = (els g lo a n).map (fun x => (x.1, TX x.2)) := by
  simp only [elsS, els, List.map_filterMap]
  congr 1
  funext o
  simp only [elS, el]
  split
  · by_cases h : g o = 0
    · rw [if_neg (by simp [TXf, h, TX_zero]), if_neg (by simp [h])]; rfl
    · by_cases h2 : lo ≤ (o : Int)
      · rw [if_pos ⟨h2, TX_no h⟩, if_pos ⟨h2, h⟩]; rfl
      · rw [if_neg (by omega), if_neg (by omega)]; rfl
  · rfl
theorem TXf_vals (g : Nat → Int) (lo : Int) (a n : Nat) : (elsS (TXf g) lo a n).map valS = (els g lo a n).map (fun x => .string (TX x.2)) := by
  rw [TXf_els, List.map_map]; rfl
theorem TXf_len (g : Nat → Int) (lo : Int) (a n : Nat) : (elsS (TXf g) lo a n).length = (els g lo a n).length := by
  rw [TXf_els, List.length_map]
theorem new_treeS (w : World) : TreeAtS (w.alloc (.cells #[.pointer none, .string ⟨#[]⟩] 92)) w.heap.size (TXf (play [])) :=
  ⟨none, ⟨#[]⟩, (MapKept.heap_alloc w _).1, SlotAtS.zeros (fun _ _ => TX_zero)⟩

theorem PutsIn.take {w : World} {p : Option Addr} {l : List Put} (h : PutsIn w p l) (i : Nat) (hi : i ≤ l.length) : PutsIn w p (l.take i) := by
  intro h0
  rw [List.length_take] at h0
  obtain ⟨b, o, e, hb, hc⟩ := h (by omega)
  refine ⟨b, o, e, hb, fun j hj => ?_⟩
  rw [List.length_take] at hj
  have e2 : (l.take i).getD j d0 = l.getD j d0 := by
    simp only [List.getD_eq_getElem?_getD, List.getElem?_take]
    rw [if_pos (by omega)]
  rw [e2]
  exact hc j (by omega)
theorem lastV_take {l : List Put} {i : Nat} (hi : i ≤ 400) (off : Int) : lastV (l.take i) off = lastW (l.take i) off := by
  rw [lastV, List.take_take, Nat.min_eq_right hi]
theorem lastW_bound (P : Int → Prop) (h0 : P 0) (l : List Put) (off : Int) (h : ∀ q ∈ l, P q.2.2) : P (lastW l off) := by
  have : ∀ v, P v → P (l.foldl (lastS off) v) := by
    induction l with
    | nil => intro v hv; exact hv
    | cons q l ih =>
      intro v hv
      simp only [List.foldl_cons]
      refine ih (fun q' hq' => h q' (List.mem_cons_of_mem _ hq')) _ ?_
      unfold lastS
      split
      · split
        · exact h0
        · exact hv
      · split
        · exact h q (List.mem_cons_self ..)
        · exact hv
  exact this 0 h0

/-- A tree of numbers beside one of texts that turns. -/
theorem TreeAt.besideS {A B : World} {t u : Nat} {f : Nat → Int} {g : Nat → ByteArray} (h : TreeAt A t f) (h' : TreeAtS A u g) (hk : Keeps (fun c => c = u) A B) : TreeAt B t f := by
  obtain ⟨p', v', hu, _⟩ := h'
  refine h.keepN (hk.nodes ?_) (hk.block _ h.lt ?_)
  · rintro b q u' rfl hn
    have := hu.symm.trans hn
    simp at this
  · rintro rfl
    obtain ⟨p, v, ht, _⟩ := h
    have := hu.symm.trans ht
    simp at this

end Go.Proofs.Ytndojlacdggfcaa
