import Derived.Test.YtendmohjodeelaaB0
import Derived.Test.YtendmohjodeelaaA8
namespace Go.Proofs.Ytendmohjodeelaa
open Go.RowKit Go.Maps Go.Great Go.Sort Go.Shelf

abbrev De := ByteArray × Int
def encD (x : De) : List Value := [.string x.1, .int .i64 x.2]
def dcells (l : List De) : List Value := l.flatMap encD

theorem dcells_len (l : List De) : (dcells l).length = l.length * 2 := by
  induction l with
  | nil => rfl
  | cons a l ih => simp only [dcells, List.flatMap_cons, List.length_append] at ih ⊢; rw [ih]; simp [encD]; omega
theorem dcells_get : ∀ (l : List De) (t : Nat), t < l.length * 2 → (dcells l)[t]? = some (encD l.toArray[t / 2]!)[t % 2]!
  | [], t, h => by simp at h
  | a :: l, 0, _ => rfl
  | a :: l, 1, _ => rfl
  | a :: l, t + 2, h => by
    have ih := dcells_get l t (by simp at h; omega)
    have e1 : (dcells (a :: l))[t + 2]? = (dcells l)[t]? := rfl
    rw [e1, ih, Nat.add_div_right t (by omega), Nat.add_mod_right]
    have e2 : (a :: l).toArray[t / 2 + 1]! = l.toArray[t / 2]! := by simp
    rw [e2]
theorem flat_list (l : List De) : (flatK encD 2 l.toArray).toList = dcells l := by
  apply List.ext_getElem?
  intro t
  by_cases ht : t < l.length * 2
  · rw [dcells_get l t ht]
    have h1 : t < (flatK encD 2 l.toArray).toList.length := by simpa using ht
    rw [List.getElem?_eq_getElem h1]
    have h2 := get_flatK encD 2 l.toArray t (by simpa using ht)
    rw [getElem!_pos _ t (by simpa using ht)] at h2
    rw [← h2]
    simp
  · rw [List.getElem?_eq_none (by simpa using ht), List.getElem?_eq_none (by rw [dcells_len]; omega)]

theorem holds_dents {w : World} {g : Nat} {cur : Array Value} {e : TypeId} {l : List De} (hb : w.heap[g]? = some (.cells cur e (0, 0))) (ht : cur.toList.take (l.length * 2) = dcells l) : HoldsK encD 2 w g 0 l.toArray := by
  intro j hj
  have hj' : j < l.length * 2 := by simpa using hj
  refine ⟨?_, by simp [World.frozen?, hb]⟩
  have h1 : (cur.toList.take (l.length * 2))[j]? = (dcells l)[j]? := by rw [ht]
  rw [List.getElem?_take_of_lt hj'] at h1
  simp only [World.cell?, hb, Nat.zero_add]
  simp only [Option.isSome_none, Bool.false_eq_true, if_false]
  rw [← Array.getElem?_toList, h1, dcells_get l j hj', get_flatK _ _ _ _ (by simpa using hj')]
  rfl

theorem heap_sortedD {w : World} {g n : Nat} {os : Array Obj} {cur : Array Value} {e : TypeId} {fr : Nat × Nat} (d : Array De) (hb : w.heap[g]? = some (.cells cur e fr)) :
    (sortWorldK encD 2 w g 0 n d os).heap[g]? = some (.cells (putCells id 0 (flatK encD 2 d) cur) e fr) := by
  have hg : g < w.heap.size := (Array.getElem?_eq_some_iff.1 hb).1
  unfold sortWorldK putRowK
  rw [heap_grow_old _ _ (by simpa using hg)]
  simp [putRow, mapBlock, Sort.ahead, Array.getElem?_modify, hb, onCells]

theorem grownBy_sortedD {w : World} {g n : Nat} {os : Array Obj} (d : Array De) : w.grownBy (sortWorldK encD 2 w g 0 n d os) (some g) := by
  refine ⟨rfl, rfl, rfl, by simp [sortWorldK, putRowK], fun k hk hne => ?_⟩
  unfold sortWorldK putRowK
  rw [heap_grow_old _ _ (by simpa using hk)]
  have : g ≠ k := fun e => hne (by rw [e])
  simp [putRow, mapBlock, Sort.ahead, Array.getElem?_modify, this]

theorem take_putD (cur : Array Value) (ts : List De) (h : ts.length * 2 ≤ cur.size) : (putCells id 0 (flatK encD 2 ts.toArray) cur).toList.take (ts.length * 2) = dcells ts := by
  apply List.ext_getElem?
  intro j
  by_cases hj : j < ts.length * 2
  · rw [List.getElem?_take_of_lt hj, Array.getElem?_toList, dcells_get ts j hj, ← get_flatK encD 2 ts.toArray j (by simpa using hj)]
    have hj2 : j < cur.size := by omega
    have hj3 : j < (flatK encD 2 ts.toArray).size := by simpa using hj
    simp only [putCells, Array.getElem?_mapIdx, Array.getElem?_eq_getElem hj2, Option.map_some, Nat.zero_le, true_and, Nat.zero_add, hj3, if_true, id, Nat.sub_zero]
  · rw [List.getElem?_take_eq_none (by omega), List.getElem?_eq_none (by rw [dcells_len]; omega)]

def cmpD (x y : De) : Int := bcmp x.1 y.1
theorem ltD (x y : De) : ltOf cmpD x y = blt x.1 y.1 := by
  unfold ltOf cmpD blt; rfl
theorem swoD : SWO (ltOf cmpD) where
  irrefl x := by rw [ltD]; exact blt_irrefl _
  trans x y z h1 h2 := by rw [ltD] at *; exact blt_trans h1 h2
  ntrans x y z h1 h2 := by
    rw [ltD] at *
    cases h3 : blt x.1 z.1 with
    | false => rfl
    | true =>
      rcases Bool.eq_false_or_eq_true (blt y.1 x.1) with h4 | h4
      · rw [blt_trans h4 h3] at h2; cases h2
      · have e := blt_total h1 h4
        rw [e] at h3; rw [h3] at h2; cases h2

theorem compareS (a b : ByteArray) (w : World) : Calls Try.prog 34 #[.string a, .string b] w fun e w' => e = .returned (.int .i64 (bcmp a b)) ∧ w' = w := by
  go_enter Try.func34, Try.ntmps34
  go_wp2
  rw [run_callFunc_extern Try.func46 (by kernel_rfl) (by kernel_rfl) (by kernel_rfl) (e := Extern.BytealgCompare.compare) (by kernel_rfl), Lib.run_compareString]
  simp only [Result.andThen]
  rw [Oper.upon_value]
  go_wp2
  go_ret
  exact ⟨rfl, rfl⟩
theorem compare_any (a b : ByteArray) (w : World) : Calls Try.prog 28 #[.string a, .string b] w fun e w' => e = .returned (.int .i64 (bcmp a b)) ∧ w' = w := by
  have h := compareS a b
  go_enter Try.func28, Try.ntmps28
  go_wp2_with (first | (go_at_call 34; refine (h _).mono ?_; rintro e w1 ⟨rfl, rfl⟩))
  go_ret
  exact ⟨rfl, rfl⟩

set_option maxHeartbeats 1000000 in
theorem closure27 (x y : De) (W : World) : Calls Try.prog 27 #[.agg #[.string x.1, .int .i64 x.2], .agg #[.string y.1, .int .i64 y.2]] W fun e w' => e = .returned (.int .i64 (cmpD x y)) ∧ ∃ q os', w' = grow (W.drewN q) os' := by
  have hcon := fun W' => compare_any x.1 y.1 W'
  unfold cmpD
  generalize bcmp x.1 y.1 = r at hcon ⊢
  go_enter Try.func27, Try.ntmps27
  go_wp2_with (go_at_call 28; refine (hcon _).mono ?_; rintro e w' ⟨rfl, rfl⟩)
  go_ret
  exact ⟨rfl, 0, _, by rw [alloc_eq_grow, alloc_eq_grow, grow_grow]; rfl⟩
theorem cmpLays27 (blk off size : Nat) (w : World) : CmpLays Try.prog 27 #[] encD 2 cmpD blk off size w :=
  fun _ _ _ _ x y => closure27 x y _

/-- No later name below an earlier one. -/
def NoInv (l : List De) : Prop := l.Pairwise (fun a b => blt b.1 a.1 = false)

theorem sort_dents (w : World) (base n : Nat) (v : Value) (l : List De) (hl : l.length = n) (h : w.ownsRow base 30 2 v n (dcells l)) (hn : n < 4611686018427387904) :
    Calls Try.prog 26 #[v, .func (.func 27) #[] #[]] w fun e w' => e = .returned (.tuple #[]) ∧ Hid (∃ l', l'.Perm l ∧ NoInv l' ∧ w'.ownsRow base 30 2 v n (dcells l') ∧ w.grownBy w' v.ownBlock) := by
  rcases h.2 with ⟨rfl, rfl⟩ | ⟨g, cap, cur, rfl, hbase, hb, h1, h2, h3, h4⟩
  · have hl0 : l = [] := List.length_eq_zero_iff.1 hl
    subst hl0
    refine (AnyF.slices_SortFunc_none Try.sortD none 0 (.func (.func 27) #[] #[]) w).mono ?_
    rintro e w' ⟨rfl, rfl⟩
    exact ⟨rfl, [], List.Perm.refl _, List.Pairwise.nil, h, ⟨rfl, rfl, rfl, Nat.le_refl _, fun _ _ _ => rfl⟩⟩
  · subst hl
    have eg : ∀ args w, (callFunc 27 args).run Try.prog w = .ok (.enter 27 args) w := enters_of Try.func27 (by kernel_rfl) rfl
    have hH : HoldsK encD 2 w g 0 l.toArray := holds_dents hb h4
    have hcon := AnyQ.slices_SortFunc Try.sortD 2 Try.isAgg30 Try.sizeOf30 encD (fun _ => rfl) (fun x v hv => by simp [encD] at hv; rcases hv with rfl | rfl <;> rfl) cmpD swoD 27 #[] g 0 cap l.toArray w eg (cmpLays27 g 0 l.toArray.size w) hH (heap_lt hb) (by simpa using hn)
    rw [List.size_toArray] at hcon
    refine hcon.mono ?_
    rintro e w' ⟨rfl, d', m, os, hp, hs, rfl⟩
    have hsz : d'.size = l.length := by have := hp.1; simpa using this
    have hpl : d'.toList.Perm l := by
      have := hp.2.2
      have e1 : d'.extract 0 l.length = d' := by rw [← hsz]; simp
      have e2 : l.toArray.extract 0 l.length = l.toArray := by rw [← List.size_toArray]; exact Array.extract_size
      rw [e1, e2] at this
      simpa using this
    have hdd : d'.toList.toArray = d' := by simp
    refine ⟨rfl, d'.toList, hpl, ?_, ⟨?_, .inr ⟨g, cap, _, rfl, hbase, heap_sortedD d' hb, h1, h2, by simp [putCells, h3], ?_⟩⟩, grownBy_sortedD d'⟩
    · unfold NoInv
      rw [List.pairwise_iff_getElem]
      intro i j hi hj hij
      have hi' : i < d'.size := by simpa using hi
      have hj' : j < d'.size := by simpa using hj
      have := hs i j (Nat.zero_le _) hij (by omega)
      rw [ltD, getElem!_pos d' j hj', getElem!_pos d' i hi'] at this
      simpa using this
    · rw [dcells_len]; simp [hsz]
    · have := take_putD cur d'.toList (by simp [hsz, h3]; omega)
      rw [hdd] at this
      simpa [hsz] using this

theorem sorted_unique : ∀ (L l : List De), L.Pairwise (fun a b => blt a.1 b.1 = true) → l.Perm L → NoInv l → l = L
  | [], l, _, hp, _ => List.perm_nil.1 hp
  | a :: L, [], _, hp, _ => (List.not_perm_cons_nil hp.symm).elim
  | a :: L, b :: l, hL, hp, hi => by
    have hL' := List.pairwise_cons.1 hL
    have hi' := List.pairwise_cons.1 hi
    have hba : b = a := by
      have hb : b ∈ a :: L := hp.mem_iff.1 (List.mem_cons_self ..)
      have ha : a ∈ b :: l := hp.mem_iff.2 (List.mem_cons_self ..)
      rcases List.mem_cons.1 hb with h | h
      · exact h
      · rcases List.mem_cons.1 ha with h2 | h2
        · exact h2.symm
        · have h3 := hL'.1 b h
          have h4 := hi'.1 a h2
          rw [h3] at h4; cases h4
    subst hba
    rw [sorted_unique L l hL'.2 (List.Perm.cons_inv hp) hi'.2]

end Go.Proofs.Ytendmohjodeelaa
