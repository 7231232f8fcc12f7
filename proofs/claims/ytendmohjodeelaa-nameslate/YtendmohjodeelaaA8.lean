import Derived.Test.YtendmohjodeelaaA7
namespace Go.Proofs.Ytendmohjodeelaa
open Go.RowKit Go.Maps Go.Great

theorem Rise.nodup {S : List Rw} (h : Rise S) : S.Nodup := List.Pairwise.imp (fun {a b} hab e => by
  subst e
  exact rlt_ne hab ⟨rfl, rfl⟩) h

theorem filter_step {α : Type} [DecidableEq α] (p lf lf' : α → Bool) (r : α) : ∀ S : List α, S.Nodup → r ∈ S → lf r = true → (∀ q ∈ S, lf' q = (lf q && !decide (q = r))) →
    (S.filter (fun q => p q && !lf' q)).Perm ((if p r then [r] else []) ++ S.filter (fun q => p q && !lf q))
  | [], _, h, _, _ => by cases h
  | a :: l, hn, hr, hl, hq => by
    have hn' := List.nodup_cons.1 hn
    by_cases e : a = r
    · subst e
      have h1 : l.filter (fun q => p q && !lf' q) = l.filter (fun q => p q && !lf q) := List.filter_congr (fun q hq' => by
        have hne : q ≠ a := fun e => hn'.1 (e ▸ hq')
        rw [hq q (List.mem_cons_of_mem _ hq')]; simp [hne])
      have h2 : lf' a = false := by rw [hq a (List.mem_cons_self ..)]; simp
      rw [List.filter_cons, List.filter_cons, h1, h2, hl]
      cases p a <;> simp
    · have hr' : r ∈ l := by
        rcases List.mem_cons.1 hr with h | h
        · exact absurd h.symm e
        · exact h
      have ih := filter_step p lf lf' r l hn'.2 hr' hl (fun q hq' => hq q (List.mem_cons_of_mem _ hq'))
      have h2 : lf' a = lf a := by rw [hq a (List.mem_cons_self ..)]; simp [e]
      rw [List.filter_cons, List.filter_cons, h2]
      split
      · exact (ih.cons a).trans (List.perm_middle.symm)
      · exact ih

/-- Is the row still to come? -/
def lfR (left : Lit → Bool) (q : Rw) : Bool := left (kL q.1 q.2.1)
theorem sameKey_kL {D : DataW Unit} {S : List Rw} (h : Tie D S) {q r : Rw} (hq : q ∈ S) (hr : r ∈ S) : (kL q.1 q.2.1).sameKey (kL r.1 r.2.1) = decide (q = r) := by
  by_cases e : q = r
  · subst e; simp [kL, Lit.sameKey]
  · rw [sameKey_ne (fun e2 => e (h.rise.inj hq hr (kL_inj (h.ok q hq).wf (h.ok r hr).wf (h.ok q hq).sz (h.ok r hr).sz e2)))]
    simp [e]
theorem lf_step {D : DataW Unit} {S : List Rw} (h : Tie D S) (left : Lit → Bool) {r : Rw} (hr : r ∈ S) : ∀ q ∈ S, lfR (fun z => left z && !z.sameKey (kL r.1 r.2.1)) q = (lfR left q && !decide (q = r)) := by
  intro q hq
  show (left (kL q.1 q.2.1) && !(kL q.1 q.2.1).sameKey (kL r.1 r.2.1)) = _
  rw [sameKey_kL h hq hr]; rfl

/-- The rows that have come, of those that p picks. -/
def came (S : List Rw) (p : Rw → Bool) (left : Lit → Bool) : List Rw := S.filter fun q => p q && !lfR left q
theorem came_step {D : DataW Unit} {S : List Rw} (h : Tie D S) (p : Rw → Bool) (left : Lit → Bool) {r : Rw} (hr : r ∈ S) (hl : left (kL r.1 r.2.1) = true) :
    (came S p (fun z => left z && !z.sameKey (kL r.1 r.2.1))).Perm ((if p r then [r] else []) ++ came S p left) :=
  filter_step p (lfR left) _ r S h.rise.nodup hr hl (lf_step h left hr)
theorem came_start {D : DataW Unit} {S : List Rw} (h : Tie D S) (p : Rw → Bool) : came S p (Maps.has D) = [] := by
  unfold came
  exact List.filter_eq_nil_iff.2 (fun q hq => by simp [lfR, (h.has _).2 ⟨q, hq, rfl⟩])
theorem came_end {S : List Rw} (p : Rw → Bool) (left : Lit → Bool) (hl : ∀ kl, left kl = false) : came S p left = S.filter p := by
  unfold came
  exact List.filter_congr (fun q _ => by simp [lfR, hl])
theorem came_le (S : List Rw) (p : Rw → Bool) (left : Lit → Bool) : (came S p left).length ≤ S.length := List.length_filter_le ..

/-- What a loop over the map holds. -/
structure Rng (w0 w : World) (bm rb : Nat) (S : List Rw) (D : DataW Unit) (left : Lit → Bool) (cnt : Nat) : Prop where
  rg : w.ranges Try.prog 55 (plainElem Try.prog 3) bm rb S.length D left cnt
  sub : ∀ kl, left kl = true → Maps.has D kl = true
  keep : Keeps (fun _ => False) w0 w

theorem invK55 (key : Value) (kl : Lit) (_ : keyOf Try.prog 55 key = some kl) : ∃ x : Value, key = id x := ⟨key, rfl⟩
theorem invV55 (v : Value) (y : DataW Unit × List MemPlace) (h : plainElem Try.prog 3 v = some y) : ∃ c, v = Value.int .i64 c := by
  obtain ⟨c, rfl, _⟩ := plainElem_int_inv Try.underlying3 h; exact ⟨c, rfl⟩

/-- What comes out of a step. -/
theorem came_out {D : DataW Unit} {S : List Rw} (h : Tie D S) {key : Value} {kl : Lit} {c : Int} {yd : DataW Unit} {yp : List MemPlace} (hkey : keyOf Try.prog 55 key = some kl) (hh : Maps.has D kl = true)
    (hv : plainElem (H := Unit) Try.prog 3 (.int .i64 c) = some (yd, yp)) (hat : ∀ zd, D.atKey kl zd = yd) : ∃ r ∈ S, key = .agg (kcells r.1 r.2.1) ∧ kl = kL r.1 r.2.1 ∧ c = r.2.2 := by
  obtain ⟨r, hr, e⟩ := (h.has kl).1 hh
  refine ⟨r, hr, ?_, e, ?_⟩
  · subst e
    exact keyLaw.inj hkey (keyOf_mk _ _ (h.ok r hr).wf (h.ok r hr).sz)
  · obtain ⟨c', e1, e2, _⟩ := plainElem_int_inv Try.underlying3 hv
    have h1 := hat .nil
    rw [e, h.val r hr] at h1
    rw [← h1] at e2
    simp at e2 e1
    rw [e1, ← e2.1]

theorem key_dir (w : World) (d : Int) (s : ByteArray) : (w.alloc (.cells (kcells d s) 55)).cell? ⟨w.heap.size, 0, none⟩ = some (.int .i64 d) := by
  rw [cell_of_row _ _ 0 _ 55 (0, 0) (heap_alloc_last w _)]; rfl

def inDir (d : Int) (r : Rw) : Bool := decide (r.1 = d)
def toIno (i : Int) (r : Rw) : Bool := decide (r.2.2 = i)

set_option maxHeartbeats 1000000 in
theorem len_any (w : World) (x bm : Nat) (S : List Rw) (h : IxAt w x bm S) (d : Int) (hl : S.length < 35184372088832) :
    Calls Try.prog 12 #[.pointer (some ⟨x, 0, none⟩), .int .i64 d] w fun e w' => e = .returned (.int .i64 ((S.filter (inDir d)).length : Int)) ∧ Keeps (fun _ => False) w w' := by
  obtain ⟨D, ho, ht⟩ := h.map
  have c0 := cell0 h.cell
  have HT : Hid (Tie D S) := ht
  clear h ht
  go_enter Try.func12, Try.ntmps12
  go_wp2_with (first | (at_range; refine wpList_range_own _ rfl _ 50 rfl 55 3 keyLaw Try.underlying50 (plainElem Try.prog 3) bm S.length D rfl ho ?_; intro w0 hrg0 hg0 hs0))
  try go_frame
  have HR0 : Hid (∃ left cnt, Rng w w0 bm w.heap.size S D left cnt ∧ (came S (inDir d) left).length = 0) :=
    ⟨_, _, ⟨hrg0, fun _ h => h, (Keeps.refl _ w).step hg0 (by simp)⟩, by rw [came_start HT.out]; rfl⟩
  clear hrg0 hg0 hs0 ho c0
  go_loopw [5] (fun v wr => ∃ k : Nat, v = .int .i64 k ∧ Hid (∃ left cnt, Rng w wr bm w.heap.size S D left cnt ∧ (came S (inDir d) left).length = k)) (fun _ wr => wr.rangeLeft bm w.heap.size)
  case atStart => exact ⟨0, rfl, HR0⟩
  case round =>
    obtain ⟨k, rfl, hh⟩ := hrel
    obtain ⟨left, cnt, hr, hk⟩ := hh.out
    clear hh
    have hkl : k ≤ S.length := by rw [← hk]; exact came_le ..
    have hrg := hr.rg
    have HR : Hid (Rng w wr bm w.heap.size S D left cnt) := hr
    have HKN : Hid ((came S (inDir d) left).length = k) := hk
    clear hr hk
    go_wp2_with (first | (at_next; refine wpList_next_ranges _ rfl _ rfl 55 keyLaw (plainElem Try.prog 3) id (Value.int .i64) invK55 invV55 bm w.heap.size S.length D left cnt rfl hrg ?_ ?_))
    · intro _ hl0
      go_wp2
      go_ret
      exact ⟨ret_int (by rw [← HKN.out, came_end _ _ hl0]), HR.out.keep⟩
    · intro key c kl yd yp w1 cnt1 hkey hlk hv hat hrg1 hlt hg1 hs1 hen
      obtain ⟨r, hrS, e1, e2, e3⟩ := came_out HT.out hkey (HR.out.sub kl hlk) hv hat
      subst e2 e3
      subst e1
      clear hat hv hkey
      have HK1 : Hid (Keeps (fun _ => False) w w1) := HR.out.keep.step hg1 (by simp)
      have hc := key_dir w1 r.1 r.2.1
      have HP := came_step HT.out (inDir d) left hrS hlk
      have HN : ∀ n : Nat, n = k + (if inDir d r then 1 else 0) → Hid (∃ left cnt, Rng w (w1.alloc (.cells (kcells r.1 r.2.1) 55)) bm w.heap.size S D left cnt ∧ (came S (inDir d) left).length = n) := by
        intro n hn
        refine ⟨_, cnt1, ⟨hrg1.alloc _, fun kl hk => HR.out.sub kl (by simp at hk; exact hk.1), HK1.out.alloc _⟩, ?_⟩
        rw [HP.length_eq, List.length_append, HKN.out, hn]
        split <;> simp <;> omega
      have HM : Hid ((w1.alloc (.cells (kcells r.1 r.2.1) 55)).rangeLeft bm w.heap.size < wr.rangeLeft bm w.heap.size) := by
        have h1 := (hrg1.alloc (.cells (kcells r.1 r.2.1) 55)).left_eq
        have h2 := HR.out.rg.left_eq
        show _ < _
        rw [h1, h2]; exact hlt
      clear HP hg1 hs1 hrg1 hrg
      rcases Bool.eq_false_or_eq_true (decide (r.1 = d)) with hdd | hdd
      · have hn := HN (k + 1) (by simp [inDir, hdd])
        have hd2 : (r.1 == d) = true := by simpa using hdd
        clear HN hdd
        go_wp2_with (first
          | (refine wpList_alloc_k rfl rfl ?_)
          | (refine wpList_store_row rfl 55 _ _ rfl _ (kcells r.1 r.2.1) rfl rfl 55 kzero (heap_alloc_last _ _) (size55' _ _) (by rw [size_kcells]; exact size_kzero) (kcells_one _ _) ?_; rw [World.setRow_alloc_new]))
        go_roundw
        case rel => exact ⟨k + 1, by simp, hn⟩
        case measure => exact HM.out
      · have hn := HN k (by simp [inDir, hdd])
        have hd2 : (r.1 == d) = false := by simpa using hdd
        clear HN hdd
        go_wp2_with (first
          | (refine wpList_alloc_k rfl rfl ?_)
          | (refine wpList_store_row rfl 55 _ _ rfl _ (kcells r.1 r.2.1) rfl rfl 55 kzero (heap_alloc_last _ _) (size55' _ _) (by rw [size_kcells]; exact size_kzero) (kcells_one _ _) ?_; rw [World.setRow_alloc_new]))
        go_roundw
        case rel => exact ⟨k, rfl, hn⟩
        case measure => exact HM.out

set_option maxHeartbeats 1000000 in
theorem links_any (w : World) (x bm : Nat) (S : List Rw) (h : IxAt w x bm S) (d : Int) (hl : S.length < 35184372088832) :
    Calls Try.prog 14 #[.pointer (some ⟨x, 0, none⟩), .int .i64 d] w fun e w' => e = .returned (.int .i64 ((S.filter (toIno d)).length : Int)) ∧ Keeps (fun _ => False) w w' := by
  obtain ⟨D, ho, ht⟩ := h.map
  have c0 := cell0 h.cell
  have HT : Hid (Tie D S) := ht
  clear h ht
  go_enter Try.func14, Try.ntmps14
  go_wp2_with (first | (at_range; refine wpList_range_own _ rfl _ 50 rfl 55 3 keyLaw Try.underlying50 (plainElem Try.prog 3) bm S.length D rfl ho ?_; intro w0 hrg0 hg0 hs0))
  try go_frame
  have HR0 : Hid (∃ left cnt, Rng w w0 bm w.heap.size S D left cnt ∧ (came S (toIno d) left).length = 0) :=
    ⟨_, _, ⟨hrg0, fun _ h => h, (Keeps.refl _ w).step hg0 (by simp)⟩, by rw [came_start HT.out]; rfl⟩
  clear hrg0 hg0 hs0 ho c0
  go_loopw [5] (fun v wr => ∃ k : Nat, v = .int .i64 k ∧ Hid (∃ left cnt, Rng w wr bm w.heap.size S D left cnt ∧ (came S (toIno d) left).length = k)) (fun _ wr => wr.rangeLeft bm w.heap.size)
  case atStart => exact ⟨0, rfl, HR0⟩
  case round =>
    obtain ⟨k, rfl, hh⟩ := hrel
    obtain ⟨left, cnt, hr, hk⟩ := hh.out
    clear hh
    have hkl : k ≤ S.length := by rw [← hk]; exact came_le ..
    have hrg := hr.rg
    have HR : Hid (Rng w wr bm w.heap.size S D left cnt) := hr
    have HKN : Hid ((came S (toIno d) left).length = k) := hk
    clear hr hk
    go_wp2_with (first | (at_next; refine wpList_next_ranges _ rfl _ rfl 55 keyLaw (plainElem Try.prog 3) id (Value.int .i64) invK55 invV55 bm w.heap.size S.length D left cnt rfl hrg ?_ ?_))
    · intro _ hl0
      go_wp2
      go_ret
      exact ⟨ret_int (by rw [← HKN.out, came_end _ _ hl0]), HR.out.keep⟩
    · intro key c kl yd yp w1 cnt1 hkey hlk hv hat hrg1 hlt hg1 hs1 hen
      obtain ⟨r, hrS, e1, e2, e3⟩ := came_out HT.out hkey (HR.out.sub kl hlk) hv hat
      subst e2 e3
      subst e1
      clear hat hv hkey
      have HK1 : Hid (Keeps (fun _ => False) w w1) := HR.out.keep.step hg1 (by simp)
      have HP := came_step HT.out (toIno d) left hrS hlk
      have HN : ∀ n : Nat, n = k + (if toIno d r then 1 else 0) → Hid (∃ left cnt, Rng w w1 bm w.heap.size S D left cnt ∧ (came S (toIno d) left).length = n) := by
        intro n hn
        refine ⟨_, cnt1, ⟨hrg1, fun kl hk => HR.out.sub kl (by simp at hk; exact hk.1), HK1.out⟩, ?_⟩
        rw [HP.length_eq, List.length_append, HKN.out, hn]
        split <;> simp <;> omega
      have HM : Hid (w1.rangeLeft bm w.heap.size < wr.rangeLeft bm w.heap.size) := by
        have h1 := hrg1.left_eq
        have h2 := HR.out.rg.left_eq
        show _ < _
        rw [h1, h2]; exact hlt
      clear HP hg1 hs1 hrg1 hrg
      rcases Bool.eq_false_or_eq_true (decide (r.2.2 = d)) with hdd | hdd
      · have hn := HN (k + 1) (by simp [toIno, hdd])
        have hd2 : (r.2.2 == d) = true := by simpa using hdd
        clear HN hdd
        go_wp2
        go_roundw
        case rel => exact ⟨k + 1, by simp, hn⟩
        case measure => exact HM.out
      · have hn := HN k (by simp [toIno, hdd])
        have hd2 : (r.2.2 == d) = false := by simpa using hdd
        clear HN hdd
        go_wp2
        go_roundw
        case rel => exact ⟨k, rfl, hn⟩
        case measure => exact HM.out

end Go.Proofs.Ytendmohjodeelaa
