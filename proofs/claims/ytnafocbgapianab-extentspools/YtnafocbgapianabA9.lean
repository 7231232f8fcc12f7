import Derived.Test.YtnafocbgapianabA8
namespace Go.Proofs.Ytnafocbgapianab
open Go.RowKit

theorem upd_id {S : Nat → Bool} {i : Nat} {b : Bool} (h : S i = b) : upd S i b = S := by
  funext j; unfold upd; split
  · rename_i e; rw [e, h]
  · rfl

/-- set of a mark of the bitmap, whether it was set or not. -/
theorem set_do (w : World) (d n i : Nat) (S : Nat → Bool) (rest : List Value) (t : TypeId) (h : w.heap[d]? = some (mkObj n S rest t)) (hn : n ≤ 1024) (hi : i < n) :
    Calls Try.prog 41 #[.pointer (some ⟨d, 0, none⟩), .int .i64 i] w fun e w' => e = .returned (.bool (!S i)) ∧ w'.heap[d]? = some (mkObj n (upd S i true) rest t) ∧ Keeps (fun k => k = d) w w' ∧ w'.heap.size = w.heap.size := by
  cases hs : S i with
  | false => exact set_yes w d n i S rest t h hn hi hs
  | true =>
    refine (set_no w d n i S rest t h hn (by simp [hs])).mono ?_
    rintro e w' ⟨rfl, m, rfl⟩
    exact ⟨rfl, by rw [upd_id hs]; exact h, Keeps.drewN _ _ _, rfl⟩

/-- Marks and a row of further ones. -/
def addR (S : Nat → Bool) (f n : Nat) : Nat → Bool := fun j => S j || (decide (f ≤ j) && decide (j < f + n))
theorem addR_zero (S : Nat → Bool) (f : Nat) : addR S f 0 = S := by
  funext j; unfold addR
  have : (decide (f ≤ j) && decide (j < f + 0)) = false := by
    by_cases h : f ≤ j
    · have : ¬ j < f + 0 := by omega
      simp
    · simp [h]
  rw [this]; simp
theorem addR_succ (S : Nat → Bool) (f n : Nat) : upd (addR S f n) (f + n) true = addR S f (n + 1) := by
  funext j; unfold upd addR
  by_cases h : j = f + n
  · subst h
    have h1 : f ≤ f + n := by omega
    have h2 : f + n < f + (n + 1) := by omega
    simp [h1]
  · rw [if_neg h]
    congr 1
    by_cases h1 : f ≤ j
    · have : (j < f + n) ↔ (j < f + (n + 1)) := by omega
      simp [h1, this]
    · simp [h1]

/-- The marks of a list of spans. -/
def inSp (l : List (Int × Int)) : Nat → Bool := fun j => l.any fun s => decide (s.1 ≤ (j : Int)) && decide ((j : Int) < s.1 + s.2)
theorem inSp_nil : inSp [] = fun _ => false := by funext j; rfl
theorem inSp_snoc (l : List (Int × Int)) (f n : Nat) : inSp (l ++ [((f : Int), (n : Int))]) = addR (inSp l) f n := by
  funext j
  unfold inSp addR
  rw [List.any_append]
  congr 1
  have h1 : ((f : Int) ≤ (j : Int)) ↔ f ≤ j := by omega
  have h2 : ((j : Int) < (f : Int) + (n : Int)) ↔ j < f + n := by omega
  simp [h1, h2]

theorem gsp_mem {p d : Int} {l : List (Int × Int)} (h : gsp p d l = true) : ∀ s ∈ l, d ≤ s.1 ∧ 1 ≤ s.2 ∧ s.1 + s.2 ≤ p := by
  induction l generalizing d with
  | nil => simp
  | cons s l ih =>
    simp only [gsp] at h
    split at h
    · simp at h
    · rename_i hn
      intro t ht
      rcases List.mem_cons.1 ht with rfl | ht
      · omega
      · have := ih h t ht; omega

theorem num_none (n : Nat) : num (fun _ => false) n = 0 := by
  induction n with
  | zero => rfl
  | succ n ih => simp [num, ih]
theorem word_none (k : Nat) : word (fun _ => false) k = 0 := num_none 64

theorem pool_new (s : Sh) : mkObj s.pages (fun _ => false) s.rest 89 = .cells #[.int .i64 s.pages, .int .u64 0, .int .u64 0, .int .u64 0, .int .u64 0, .int .u64 0, .int .u64 0, .int .u64 0, .int .u64 0, .int .u64 0, .int .u64 0, .int .u64 0, .int .u64 0, .int .u64 0, .int .u64 0, .int .u64 0, .int .u64 0, .int .i64 s.pages, .int .i64 s.inodes, .int .i64 s.cores, .int .i64 s.data] 89 (0, 0) := by
  simp only [mkObj, mkCells, word_none]
  rfl

theorem goodI_iff (s : Sh) : (goodI s.pages s.inodes s.cores ∧ (s.data : Int) = dataOf s.inodes) ↔ s.Good := by
  unfold goodI dataOf Sh.Good; omega

set_option maxHeartbeats 2000000 in
theorem newPool_shape (p i c d : Int) (w : World) (sp : Option Addr) (n cap : Nat) (hn : ¬ (goodI p i c ∧ d = dataOf i)) :
    Calls Try.prog 10 #[.agg #[.int .i64 p, .int .i64 i, .int .i64 c, .int .i64 d], .slice sp n cap] w fun e w' => e = .returned (.tuple #[.pointer none, .int .i64 30]) ∧ Keeps (fun k => w.heap.size ≤ k) w w' := by
  have g0 : Keeps (fun k => w.heap.size ≤ k) w (w.alloc (.cells #[.int .i64 p, .int .i64 i, .int .i64 c, .int .i64 d] 24)) := Keeps.of (World.grownBy_alloc w _ none) (by simp)
  have hg := fun w => goodShape_any p i c d w
  rw [decide_eq_false hn] at hg
  clear hn
  go_enter Try.func10, Try.ntmps10
  go_wp2_with (first | (go_at_call 39; refine (hg _).mono ?_; rintro e w1 ⟨rfl, hk⟩))
  go_ret2
  exact ⟨rfl, g0.then hk (by intro k hk; right; simp at hk; omega)⟩

set_option maxHeartbeats 2000000 in
theorem newPool_range (s : Sh) (hs : s.Good) (w : World) (sp : Option Addr) (cap : Nat) (l : List (Int × Int)) (h : SpIn w sp l) (hl : l.length ≤ maxLen) (hr : ∀ s ∈ l, s.1 ≤ 9223372036854775807) (hb : gsp s.pages s.data l = false) :
    Calls Try.prog 10 #[s.agg, .slice sp l.length cap] w fun e w' => e = .returned (.tuple #[.pointer none, .int .i64 52]) ∧ Keeps (fun k => w.heap.size ≤ k) w w' := by
  have g0 : Keeps (fun k => w.heap.size ≤ k) w (w.alloc (.cells #[.int .i64 s.pages, .int .i64 s.inodes, .int .i64 s.cores, .int .i64 s.data] 24)) := Keeps.of (World.grownBy_alloc w _ none) (by simp)
  have hB := box4 w (.int .i64 s.pages) (.int .i64 s.inodes) (.int .i64 s.cores) (.int .i64 s.data) 24
  have hg := fun w => goodShape_any s.pages s.inodes s.cores s.data w
  have hs0 : (w.alloc (.cells #[.int .i64 s.pages, .int .i64 s.inodes, .int .i64 s.cores, .int .i64 s.data] 24)).heap.size = w.heap.size + 1 := by simp
  rw [decide_eq_true ((goodI_iff s).2 hs)] at hg
  have hx := fun w h => goodSpans_any s.pages s.inodes s.cores s.data w sp cap l h hl hr ⟨by omega, by have := hs.2.1; omega⟩ ⟨by omega, by have := hs.2.1; have := hs.2.2.2.2.2.2.2.2; omega⟩
  rw [hb] at hx
  have HIN := Hid.mk' (h.grown g0 (fun b hb => hb))
  clear hb h
  unfold Sh.agg
  go_enter Try.func10, Try.ntmps10
  go_wp2_with (first
    | (go_at_call 39; refine (hg _).mono ?_; rintro e w1 ⟨rfl, hk⟩
       have hR := hk.at hB (by rw [hs0]; omega)
       obtain ⟨c0, c1, c2, c3, cf⟩ := cells4 hR
       have hx1 := hx w1 (HIN.out.grown hk (fun b hb => hb))
       have HK := Hid.mk' (g0.then hk (by intro k hk; right; rw [hs0] at hk; omega))
       have hsz := hk.size
       rw [hs0] at hsz
       clear hk hR cf)
    | (go_at_call 40; refine hx1.mono ?_; rintro e w2 ⟨rfl, hk2⟩))
  go_ret2
  exact ⟨rfl, HK.out.then hk2 (by intro k hk; right; omega)⟩

theorem getD_mem {α : Type} {l : List α} {k : Nat} {d : α} (h : k < l.length) : l.getD k d ∈ l := by
  rw [List.getD_eq_getElem?_getD, List.getElem?_eq_getElem h]; exact List.getElem_mem h
theorem take_getD {α : Type} {l : List α} {k : Nat} (d : α) (h : k < l.length) : l.take (k + 1) = l.take k ++ [l.getD k d] := by
  rw [List.take_succ_eq_append_getElem h, List.getD_eq_getElem?_getD, List.getElem?_eq_getElem h]; rfl

set_option maxHeartbeats 4000000 in
theorem newPool_yes (s : Sh) (hs : s.Good) (w : World) (sp : Option Addr) (cap : Nat) (l : List (Int × Int)) (h : SpIn w sp l) (hl : l.length ≤ maxLen) (hr : ∀ s ∈ l, s.1 ≤ 9223372036854775807) (hb : gsp s.pages s.data l = true) :
    Calls Try.prog 10 #[s.agg, .slice sp l.length cap] w fun e w' => ∃ d, e = .returned (.tuple #[.pointer (some ⟨d, 0, none⟩), .int .i64 0]) ∧ w.heap.size ≤ d ∧ PoolAt w' d s (inSp l) ∧ Keeps (fun k => w.heap.size ≤ k) w w' := by
  have g0 : Keeps (fun k => w.heap.size ≤ k) w (w.alloc (.cells #[.int .i64 s.pages, .int .i64 s.inodes, .int .i64 s.cores, .int .i64 s.data] 24)) := Keeps.of (World.grownBy_alloc w _ none) (by simp)
  have hB := box4 w (.int .i64 s.pages) (.int .i64 s.inodes) (.int .i64 s.cores) (.int .i64 s.data) 24
  have hg := fun w => goodShape_any s.pages s.inodes s.cores s.data w
  have hs0 : (w.alloc (.cells #[.int .i64 s.pages, .int .i64 s.inodes, .int .i64 s.cores, .int .i64 s.data] 24)).heap.size = w.heap.size + 1 := by simp
  rw [decide_eq_true ((goodI_iff s).2 hs)] at hg
  have hx := fun w h => goodSpans_any s.pages s.inodes s.cores s.data w sp cap l h hl hr ⟨by omega, by have := hs.2.1; omega⟩ ⟨by omega, by have := hs.2.1; have := hs.2.2.2.2.2.2.2.2; omega⟩
  rw [hb] at hx
  have HM := Hid.mk' (gsp_mem hb)
  have HSUP : Hid (∀ i, inSp l i = true → s.data ≤ i ∧ i < s.pages) := by
    intro i hi
    unfold inSp at hi
    rw [List.any_eq_true] at hi
    obtain ⟨t, ht, h2⟩ := hi
    have := gsp_mem hb t ht
    simp at h2
    omega
  have hpg : s.pages ≤ 1024 := hs.2.1
  have HGD := Hid.mk' hs
  have HIN := Hid.mk' (h.grown g0 (fun b hb => hb))
  have hln := hl
  unfold maxLen at hln
  clear hb h hl hr hs
  unfold Sh.agg
  go_enter Try.func10, Try.ntmps10
  go_wp2_with (first
    | (go_at_call 39; refine (hg _).mono ?_; rintro e w1 ⟨rfl, hk⟩
       have hR := hk.at hB (by rw [hs0]; omega)
       obtain ⟨c0, c1, c2, c3, cf⟩ := cells4 hR
       have hin1 := HIN.out.grown hk (fun b hb => hb)
       have hx1 := hx w1 hin1
       have HK := Hid.mk' (g0.then hk (by intro k hk; right; rw [hs0] at hk; omega))
       have hsz := hk.size
       rw [hs0] at hsz
       have HR := Hid.mk' hR
       have HIN1 := Hid.mk' hin1
       clear hk hR cf hin1)
    | (go_at_call 40; refine hx1.mono ?_; rintro e w2 ⟨rfl, hk2⟩
       have hR := hk2.at HR.out (by omega)
       obtain ⟨b0, b1, b2, b3, bf⟩ := cells4 hR
       have HIN2 := Hid.mk' (HIN1.out.grown hk2 (fun b hb => hb))
       have HK2 := Hid.mk' (HK.out.then hk2 (by intro k hk; right; omega))
       have hsz2 := hk2.size
       clear hk2 hR bf c0 c1 c2 c3))
  have HP0 : Hid ((w2.alloc (.cells #[.int .i64 s.pages, .int .u64 0, .int .u64 0, .int .u64 0, .int .u64 0, .int .u64 0, .int .u64 0, .int .u64 0, .int .u64 0, .int .u64 0, .int .u64 0, .int .u64 0, .int .u64 0, .int .u64 0, .int .u64 0, .int .u64 0, .int .u64 0, .int .i64 s.pages, .int .i64 s.inodes, .int .i64 s.cores, .int .i64 s.data] 89)).heap[w2.heap.size]? = some (mkObj s.pages (inSp []) s.rest 89)) := by
    show _ = _
    rw [inSp_nil, pool_new]
    exact (MapKept.heap_alloc w2 _).1
  have g3 : Keeps (fun k => w2.heap.size ≤ k) w2 (w2.alloc (.cells #[.int .i64 s.pages, .int .u64 0, .int .u64 0, .int .u64 0, .int .u64 0, .int .u64 0, .int .u64 0, .int .u64 0, .int .u64 0, .int .u64 0, .int .u64 0, .int .u64 0, .int .u64 0, .int .u64 0, .int .u64 0, .int .u64 0, .int .u64 0, .int .i64 s.pages, .int .i64 s.inodes, .int .i64 s.cores, .int .i64 s.data] 89)) := Keeps.of (World.grownBy_alloc w2 _ none) (by simp)
  obtain ⟨w3, hw3⟩ : ∃ w3, w3 = w2.alloc (.cells #[.int .i64 s.pages, .int .u64 0, .int .u64 0, .int .u64 0, .int .u64 0, .int .u64 0, .int .u64 0, .int .u64 0, .int .u64 0, .int .u64 0, .int .u64 0, .int .u64 0, .int .u64 0, .int .u64 0, .int .u64 0, .int .u64 0, .int .u64 0, .int .i64 s.pages, .int .i64 s.inodes, .int .i64 s.cores, .int .i64 s.data] 89) := ⟨_, rfl⟩
  rw [← hw3] at HP0 g3 ⊢
  have HG3 := Hid.mk' g3
  clear hw3 g3 hx1 hx hg hB g0 hs0 b0 b1 b2 b3
  go_loopw [27] (fun i wr => ∃ k : Nat, k ≤ l.length ∧ i = .int .i64 k ∧ Hid (wr.heap[w2.heap.size]? = some (mkObj s.pages (inSp (l.take k)) s.rest 89) ∧ Keeps (fun k => w2.heap.size ≤ k) w2 wr)) (fun i _ => l.length - (intOf i).toNat)
  case atStart => exact ⟨0, by omega, rfl, HP0.out, HG3.out⟩
  case round =>
    obtain ⟨k, hk, rfl, hrel⟩ := hrel
    by_cases hlt : k < l.length
    · obtain ⟨bb, o, rfl, hbb, hc⟩ := HIN2.out (by omega)
      obtain ⟨e1, e2⟩ := hc k hlt
      have hkw := hrel.out.2
      have e1' := hkw.cell e1 (by simp; omega)
      have e2' := hkw.cell e2 (by simp; omega)
      have hm := HM.out _ (getD_mem (d := (0, 0)) hlt)
      have htk := take_getD (0, 0) hlt
      generalize l.getD k (0, 0) = t at *
      obtain ⟨f, n⟩ := t
      simp only at e1 e2 e1' e2' hm
      obtain ⟨F, rfl⟩ := Int.eq_ofNat_of_zero_le (show 0 ≤ f by omega)
      obtain ⟨M, rfl⟩ := Int.eq_ofNat_of_zero_le (show 0 ≤ n by omega)
      have HTK := Hid.mk' (show inSp (l.take (k + 1)) = addR (inSp (l.take k)) F M by rw [htk, inSp_snoc])
      have hlt' : (k : Int) < (l.length : Int) := by omega
      have hgr := World.grownBy_alloc wr (.cells #[.int .i64 (F : Int), .int .i64 (M : Int)] 46) none
      have hf4 := (MapKept.heap_alloc wr (.cells #[.int .i64 (F : Int), .int .i64 (M : Int)] 46)).1
      have HP4 := Hid.mk' ((hgr.block _ (heap_lt hrel.out.1) (by simp)).trans hrel.out.1)
      have HK4 := Hid.mk' (hkw.step hgr (by simp))
      have hd4 := heap_lt hrel.out.1
      obtain ⟨w4, hw4⟩ : ∃ w4, w4 = wr.alloc (.cells #[.int .i64 (F : Int), .int .i64 (M : Int)] 46) := ⟨_, rfl⟩
      clear hrel hkw hc e1 e2 htk hgr
      go_wp2
      rw [← hw4] at hf4 HP4 HK4 ⊢
      have HF4 := Hid.mk' hf4
      clear hw4 hf4
      go_loopw [33] (fun i wx => ∃ j : Nat, j ≤ M ∧ i = .int .i64 j ∧ Hid (wx.heap[w2.heap.size]? = some (mkObj s.pages (addR (inSp (l.take k)) F j) s.rest 89) ∧ Keeps (fun k => k = w2.heap.size) w4 wx)) (fun i _ => M - (intOf i).toNat)
      case atStart => exact ⟨0, by omega, rfl, by rw [addR_zero]; exact HP4.out, Keeps.refl _ _⟩
      case round =>
        obtain ⟨j, hj, rfl, hrel⟩ := hrel
        by_cases hlj : j < M
        · have hlj' : (j : Int) < (M : Int) := by omega
          have hF := hrel.out.2.at HF4.out (by omega)
          obtain ⟨q0, q1, qf⟩ := cells2 hF
          have hset := fun m => set_do (wr.drewN m) w2.heap.size s.pages (F + j) (addR (inSp (l.take k)) F j) s.rest 89 hrel.out.1 hpg (by omega)
          rw [addR_succ, Int.natCast_add] at hset
          have hsum : IntKind.i64.wrap ((F : Int) + (j : Int)) = (F : Int) + (j : Int) := i64_id (by omega) (by omega)
          have HREL := hrel
          clear hrel hF qf
          go_wp2
          go_region_with ((go_at_call 41; refine (hset _).mono ?_; rintro e w5 ⟨rfl, hx⟩; have HX := Hid.mk' hx; clear hx))
          all_goals
            go_wp2
            go_roundw
            case rel => exact ⟨j + 1, by omega, by go_num, HX.out.1, (HREL.out.2.trans (Keeps.drewN _ _ 1)).trans HX.out.2.1⟩
            case measure => simp [intOf]; omega
        · have hlj' : ¬ (j : Int) < (M : Int) := by omega
          have HJ := Hid.mk' (show j = M by omega)
          have HREL := hrel
          clear hrel
          go_wp2
          go_roundw
          case rel =>
            refine ⟨k + 1, by omega, by go_num, ?_, ?_⟩
            · rw [HTK.out, ← HJ.out]; exact HREL.out.1
            · exact HK4.out.then HREL.out.2 (by intro k hk; left; omega)
          case measure => simp [intOf]; omega
    · have hlt' : ¬ (k : Int) < (l.length : Int) := by omega
      have HJ := Hid.mk' (show k = l.length by omega)
      have HREL := hrel
      clear hrel
      go_wp2
      go_ret2
      refine ⟨w2.heap.size, rfl, by omega, ⟨?_, HGD.out, HSUP.out⟩, HK2.out.then HREL.out.2 (by intro k hk; right; omega)⟩
      have := HREL.out.1
      rw [HJ.out, List.take_length] at this
      exact this

end Go.Proofs.Ytnafocbgapianab
