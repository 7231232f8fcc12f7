import Derived.Test.YtendmohjodeelaaB1
import Derived.Deep.AppendLies
import Derived.Sort.OwnSorted
namespace Go.Proofs.Ytendmohjodeelaa
open Go.RowKit Go.Maps Go.Great Go.Sort Go.Shelf

theorem info30 : (Try.prog.info? 30).map (fun i => (i.zero, i.size, i.bytes)) = some (some (.agg #[.string ⟨#[]⟩, .int .i64 0]), 2, 24) := by kernel_rfl
theorem dcells_snoc (l : List De) (x : De) : dcells (l ++ [x]) = dcells l ++ [.string x.1, .int .i64 x.2] := by simp [dcells, encD]

def toDe (r : Rw) : De := (r.2.1, r.2.2)
theorem lstS_eq (S : List Rw) (d : Int) : lstS S d = (S.filter (inDir d)).map toDe := rfl
theorem lst_sorted {S : List Rw} (h : Rise S) (d : Int) : (lstS S d).Pairwise (fun a b => blt a.1 b.1 = true) := by
  rw [lstS_eq, List.pairwise_map]
  refine List.Pairwise.imp_of_mem ?_ (List.Pairwise.filter (inDir d) h)
  intro a b ha hb hab
  have ha := (List.mem_filter.1 ha).2
  have hb := (List.mem_filter.1 hb).2
  simp only [inDir, decide_eq_true_eq] at ha hb
  simp only [rlt, Bool.or_eq_true, Bool.and_eq_true, decide_eq_true_eq] at hab
  rcases hab with h1 | h1
  · omega
  · exact h1.2

/-- What List's loop holds. -/
def LsR (w wr : World) (bm : Nat) (S : List Rw) (D : DataW Unit) (d : Int) (v : Value) : Prop :=
  ∃ left cnt xs, Rng w wr bm w.heap.size S D left cnt ∧ xs.Perm ((came S (inDir d) left).map toDe) ∧ wr.ownsRow w.heap.size 30 2 v xs.length (dcells xs)

set_option maxHeartbeats 2000000 in
theorem list_any (w : World) (x bm : Nat) (S : List Rw) (h : IxAt w x bm S) (d : Int) (hl : S.length < 5000000000000) :
    Calls Try.prog 11 #[.pointer (some ⟨x, 0, none⟩), .int .i64 d] w fun e w' => ∃ v, e = .returned v ∧ Hid (w'.ownsRow w.heap.size 30 2 v (lstS S d).length (dcells (lstS S d)) ∧ Keeps (fun _ => False) w w') := by
  obtain ⟨i0, hi, hz0, hz1, hz2⟩ := info_parts info30
  obtain ⟨D, ho, ht⟩ := h.map
  have hbm := h.lt
  have c0 := cell0 h.cell
  have HT : Hid (Tie D S) := ht
  clear h ht
  go_enter Try.func11, Try.ntmps11
  go_wp2_with (first | (at_range; refine wpList_range_own _ rfl _ 50 rfl 55 3 keyLaw Try.underlying50 (plainElem Try.prog 3) bm S.length D rfl ho ?_; intro w0 hrg0 hg0 hs0))
  try go_frame
  have HR0 : Hid (LsR w w0 bm S D d (.slice none 0 0)) :=
    ⟨_, _, [], ⟨hrg0, fun _ h => h, (Keeps.refl _ w).step hg0 (by simp)⟩, by rw [came_start HT.out]; exact List.Perm.refl _, World.ownsRow_nil _ _ _ _⟩
  clear hrg0 hg0 hs0 ho c0
  go_loopw [5] (fun v wr => Hid (LsR w wr bm S D d v)) (fun _ wr => wr.rangeLeft bm w.heap.size)
  case atStart => exact HR0
  case round =>
    obtain ⟨left, cnt, xs, hr, hp, hrow⟩ := hrel
    have hxl : xs.length ≤ S.length := by rw [hp.length_eq, List.length_map]; exact came_le ..
    have hrg := hr.rg
    have HR : Hid (Rng w wr bm w.heap.size S D left cnt) := hr
    have HP : Hid (xs.Perm ((came S (inDir d) left).map toDe)) := hp
    have HW : Hid (wr.ownsRow w.heap.size 30 2 u5 xs.length (dcells xs)) := hrow
    clear hr hp hrow
    go_wp2_with (first | (at_next; refine wpList_next_ranges _ rfl _ rfl 55 keyLaw (plainElem Try.prog 3) id (Value.int .i64) invK55 invV55 bm w.heap.size S.length D left cnt rfl hrg ?_ ?_))
    · intro _ hl0
      have h26 := sort_dents wr w.heap.size xs.length u5 xs rfl HW.out (by omega)
      clear hrg
      go_wp2_with (first | (go_at_call 26; refine h26.mono ?_; rintro e w2 ⟨rfl, H2⟩))
      go_ret
      obtain ⟨l', h1, h2, h3, h4⟩ := H2.out
      have e1 : l' = lstS S d := sorted_unique _ _ (lst_sorted HT.out.rise d) (by
        rw [lstS_eq, ← came_end (S := S) (inDir d) left hl0]; exact h1.trans HP.out) h2
      have e2 : xs.length = (lstS S d).length := by rw [← e1]; exact h1.length_eq.symm
      rw [e1, e2] at h3
      refine ⟨u5, rfl, h3, HR.out.keep.step h4 ?_⟩
      intro k hk
      exact Or.inr (HW.out.lt k hk).1
    · intro key c kl yd yp w1 cnt1 hkey hlk hv hat hrg1 hlt hg1 hs1 hen
      obtain ⟨r, hrS, e1, e2, e3⟩ := came_out HT.out hkey (HR.out.sub kl hlk) hv hat
      subst e2 e3
      subst e1
      clear hat hv hkey
      have HK1 : Hid (Keeps (fun _ => False) w w1) := HR.out.keep.step hg1 (by simp)
      have hc := key_dir w1 r.1 r.2.1
      have hsz := (HT.out.ok r hrS).sz
      have HPS := came_step HT.out (inDir d) left hrS hlk
      have HW1 : Hid (w1.ownsRow w.heap.size 30 2 u5 xs.length (dcells xs)) := HW.out.kept hg1 (by
        have := row_ne_iter HW.out HR.out.rg
        right; exact fun e => this e.symm)
      have HRG : Hid (w1.ranges Try.prog 55 (plainElem Try.prog 3) bm w.heap.size S.length D (fun z => left z && !z.sameKey (kL r.1 r.2.1)) cnt1) := hrg1
      have HLT : Hid (wr.rangeLeft bm w.heap.size = cnt ∧ cnt1 < cnt) := ⟨HR.out.rg.left_eq, hlt⟩
      clear hg1 hs1 hrg1 hrg hlt
      rcases Bool.eq_false_or_eq_true (decide (r.1 = d)) with hdd | hdd
      · have hd2 : (r.1 == d) = true := by simpa using hdd
        have HD : Hid (inDir d r = true) := hdd
        have h25 := fun W => text_any r.1 r.2.1 W hsz
        have hb := heap_alloc_last w1 (.cells (kcells r.1 r.2.1) 55)
        have HN3 : Hid ((((w1.alloc (.cells (kcells r.1 r.2.1) 55)).alloc (.cells (kcells r.1 r.2.1) 55)).alloc (.cells #[.string r.2.1, .int .i64 r.2.2] 30)).heap[w1.heap.size + 1 + 1]? = some (.cells #[.string r.2.1, .int .i64 r.2.2] 30 (0, 0))) := by
          have := heap_alloc_last ((w1.alloc (.cells (kcells r.1 r.2.1) 55)).alloc (.cells (kcells r.1 r.2.1) 55)) (.cells #[.string r.2.1, .int .i64 r.2.2] 30)
          rwa [World.size_alloc, World.size_alloc] at this
        clear hdd
        go_wp2_with (first
          | (refine wpList_alloc_k rfl rfl ?_)
          | (refine wpList_store_row rfl 55 _ _ rfl _ (kcells r.1 r.2.1) rfl rfl 55 kzero (heap_alloc_last _ _) (size55' _ _) (by rw [size_kcells]; exact size_kzero) (kcells_one _ _) ?_; rw [World.setRow_alloc_new])
          | (refine wpList_load_row rfl 55 _ rfl _ rfl 55 (kcells r.1 r.2.1) (0, 0) _ hb Try.underlying55 rfl (size55' _ _) ?_)
          | (go_at_call 25; refine (h25 _).mono ?_; rintro e w2 ⟨rfl, hw2⟩; subst w2)
          | (at_builtin; go_must (refine wpList_append_own_at _ rfl _ _ 26 rfl w.heap.size 30 i0 (.agg #[.string ⟨#[]⟩, .int .i64 0]) 2 24 Try.underlying26 hi hz0 hz1 hz2 rfl (by decide) _ xs.length (dcells xs) rfl (((HW1.out.alloc (.cells (kcells r.1 r.2.1) 55)).alloc (.cells (kcells r.1 r.2.1) 55)).alloc _) ⟨w1.heap.size + 1 + 1, 0, none⟩ 1 1 [.string r.2.1, .int .i64 r.2.2] rfl rfl (World.news_of_block HN3.out) (by simp [Value.oneCell']) (by unfold maxLen; omega) (by omega) (by have := HK1.out.size; simp; omega) ?_); intro v' w3 hown' hgrow hnil hloc))
        have hall : w1.grownBy w3 u5.ownBlock := ((((World.grownBy_alloc w1 _ none).trans (World.grownBy_alloc _ _ none)).trans (World.grownBy_alloc _ _ none)).but _).andThen hgrow (by intro j hj; exact Or.inr hj)
        have HRG3 : Hid (w3.ranges Try.prog 55 (plainElem Try.prog 3) bm w.heap.size S.length D (fun z => left z && !z.sameKey (kL r.1 r.2.1)) cnt1) := HRG.out.kept hall (row_ne_low HW1.out hbm) (row_ne_iter HW1.out HRG.out)
        clear hgrow hnil hloc
        go_roundw
        case rel =>
          refine ⟨_, cnt1, xs ++ [toDe r], ⟨HRG3.out, fun kl hk => HR.out.sub kl (by simp at hk; exact hk.1), HK1.out.step hall (fun k hk => Or.inr (HW1.out.lt k hk).1)⟩, ?_, ?_⟩
          · have := HPS.map toDe
            rw [HD.out] at this
            refine ((HP.out.append_right _).trans ?_).trans this.symm
            simp only [if_true, List.map_append, List.map_cons, List.map_nil]
            exact List.perm_append_comm
          · rw [dcells_snoc, List.length_append]; exact hown'
        case measure => rw [HRG3.out.left_eq, HLT.out.1]; exact HLT.out.2
      · have hd2 : (r.1 == d) = false := by simpa using hdd
        have HD : Hid (inDir d r = false) := hdd
        clear hdd
        go_wp2_with (first
          | (refine wpList_alloc_k rfl rfl ?_)
          | (refine wpList_store_row rfl 55 _ _ rfl _ (kcells r.1 r.2.1) rfl rfl 55 kzero (heap_alloc_last _ _) (size55' _ _) (by rw [size_kcells]; exact size_kzero) (kcells_one _ _) ?_; rw [World.setRow_alloc_new]))
        go_roundw
        case rel =>
          refine ⟨_, cnt1, xs, ⟨HRG.out.alloc _, fun kl hk => HR.out.sub kl (by simp at hk; exact hk.1), HK1.out.alloc _⟩, ?_, HW1.out.alloc _⟩
          have := HPS.map toDe
          rw [HD.out] at this
          exact HP.out.trans (by simpa using this.symm)
        case measure => rw [(HRG.out.alloc _).left_eq, HLT.out.1]; exact HLT.out.2

end Go.Proofs.Ytendmohjodeelaa
