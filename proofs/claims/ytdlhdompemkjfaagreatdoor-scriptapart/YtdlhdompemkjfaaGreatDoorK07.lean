import Derived.Test.YtdlhdompemkjfaaGreatDoorK06
namespace Go.Proofs.YtdlhdompemkjfaaGreatDoor
open Go.RowKit Go.Maps
set_option maxRecDepth 100000

theorem wcell_one (x : Wd) : (wcell x).all (·.oneCell') = true := by simp [wcell, Value.oneCell']
theorem fw_quoted {t : Bs} (h : t.getD 0 0 = 34) : fw t = fwQ t := if_pos h
theorem fw_plain {t : Bs} (h : ¬ t.getD 0 0 = 34) : fw t = fwP t := if_neg h
theorem wpList_store_w {ops : Array Oper} {rest : List Oper} {o : Oper} {a : Act} {W : World} {Q : Exit → Act → World → Prop} (hgd : o.guard = none) (x y : Operand) (ho : o.op = .store 92 x y)
    (g : Nat) (b : Wd) (hx : a.eval x = .pointer (some ⟨g, 0, none⟩)) (hy : a.eval y = .agg (wcell b)) (old : Array Value) (hg : W.heap[g]? = some (.cells old 92 (0, 0))) (hold : old.size = 2)
    (h : ∀ W' : World, W'.heap[g]? = some (.cells (wcell b) 92 (0, 0)) → Keeps (fun k => k = g) W W' → wpList Tryz.prog ops Q rest (a.put o.dst undef) W') : wpList Tryz.prog ops Q (o :: rest) a W := by
  refine wpList_store_row hgd 92 x y ho g (wcell b) hx hy 92 old hg size92 hold (wcell_one b) ?_
  refine h _ ?_ ?_
  · exact setRow_heap _ _ _ _ _ _ hg
  · exact Keeps.setRow (Keeps.refl _ W) g _ (Or.inr rfl)

set_option maxHeartbeats 4000000 in
theorem firstWord_any (w : World) (s : ByteArray) (hs : s.size ≤ 1000000) (h0 : 0 < s.size) :
    Calls Tryz.prog 46 #[.string s] w fun e w' => e = .returned (.tuple #[.agg (wcell (fw s.data.toList).1), .int .i64 ((fw s.data.toList).2 : Int)]) ∧ Keeps (fun _ => False) w w' := by
  have j0 : (0 : Int) < (s.size : Int) := by omega
  have hb0 := byte_getD s 0 h0
  have HS := Hid.mk' (size_len s)
  by_cases c0 : s[0] = 34
  · rw [fw_quoted (by rw [← hb0]; exact c0)]
    have k0 := by_nn (k := 34) 34 rfl c0
    have h42 := fun w => unquote_any w s hs
    clear c0 hb0
    cases hu : uq s.data.toList with
    | none =>
      obtain ⟨e1, e2, e3⟩ := uqT_none hu
      rw [e1, e2, e3] at h42
      have hf : fwQ s.data.toList = (⟨⟨#[]⟩, false⟩, 0) := by unfold fwQ; rw [hu]
      rw [hf]
      clear hu e1 e2 e3 hf
      go_enter Tryz.func46, Tryz.ntmps46
      go_wp2_with (first
        | (go_at_call 67; refine (h42 _).mono ?_; clear h42; rintro e w1 ⟨rfl, hk1⟩; have HK := Hid.mk' hk1; clear hk1)
        | (refine wpList_store_w rfl (.tmp 2) _ rfl w.heap.size ⟨⟨#[]⟩, false⟩ (by rfl) (by rfl) _ (HK.out.at (heap_last w _) id) rfl ?_; intro W' hb hk; have HW := Hid.mk' (And.intro hb hk); clear hb hk))
      exact bodyPost_ret (results_cell_slot rfl _ _ w.heap.size 92 (wcell ⟨⟨#[]⟩, false⟩) (0, 0) _ rfl HW.out.1 Tryz.underlying92 rfl size92) rfl ⟨rfl, ((((Keeps.refl (fun _ => False) w).alloc _).trans HK.out).then HW.out.2 (fun k e => Or.inr (by omega)))⟩
    | some an =>
      obtain ⟨a, n⟩ := an
      obtain ⟨e1, e2, e3⟩ := uqT_some hu
      rw [e1, e2, e3] at h42
      have hle := uq_le hu
      rw [← HS.out] at hle
      have hf : fwQ s.data.toList = if n < s.data.toList.length ∧ s.data.toList.getD n 0 ≠ 32 then (⟨⟨#[]⟩, false⟩, 0) else (⟨mkB a, true⟩, n) := by unfold fwQ; rw [hu]
      rw [← HS.out] at hf
      clear hu e1 e2 e3
      by_cases h1 : n < s.size
      · have h1' : (n : Int) < (s.size : Int) := by omega
        rw [← byte_getD s n h1] at hf
        by_cases c32 : s[n] = 32
        · have k32 := by_nn (k := 32) 32 rfl c32
          rw [if_neg (fun h => h.2 c32)] at hf
          rw [hf]
          clear hf c32
          go_enter Tryz.func46, Tryz.ntmps46
          go_wp2_with (first
            | (go_at_call 67; refine (h42 _).mono ?_; clear h42; rintro e w1 ⟨rfl, hk1⟩; have HK := Hid.mk' hk1; clear hk1)
            | (refine wpList_store_w rfl (.tmp 2) _ rfl w.heap.size ⟨mkB a, true⟩ (by rfl) (by rfl) _ (HK.out.at (heap_last w _) id) rfl ?_; intro W' hb hk; have HW := Hid.mk' (And.intro hb hk); clear hb hk))
          exact bodyPost_ret (results_cell_slot rfl _ _ w.heap.size 92 (wcell ⟨mkB a, true⟩) (0, 0) _ rfl HW.out.1 Tryz.underlying92 rfl size92) rfl ⟨rfl, ((((Keeps.refl (fun _ => False) w).alloc _).trans HK.out).then HW.out.2 (fun k e => Or.inr (by omega)))⟩
        · have k32 := by_ne (k := 32) 32 rfl c32
          rw [if_pos ⟨h1, c32⟩] at hf
          rw [hf]
          clear hf c32
          go_enter Tryz.func46, Tryz.ntmps46
          go_wp2_with (first
            | (go_at_call 67; refine (h42 _).mono ?_; clear h42; rintro e w1 ⟨rfl, hk1⟩; have HK := Hid.mk' hk1; clear hk1)
            | (refine wpList_store_w rfl (.tmp 2) _ rfl w.heap.size ⟨⟨#[]⟩, false⟩ (by rfl) (by rfl) _ (HK.out.at (heap_last w _) id) rfl ?_; intro W' hb hk; have HW := Hid.mk' (And.intro hb hk); clear hb hk))
          exact bodyPost_ret (results_cell_slot rfl _ _ w.heap.size 92 (wcell ⟨⟨#[]⟩, false⟩) (0, 0) _ rfl HW.out.1 Tryz.underlying92 rfl size92) rfl ⟨rfl, ((((Keeps.refl (fun _ => False) w).alloc _).trans HK.out).then HW.out.2 (fun k e => Or.inr (by omega)))⟩
      · have h1' : ¬ (n : Int) < (s.size : Int) := by omega
        rw [if_neg (fun h => h1 h.1)] at hf
        rw [hf]
        clear hf
        go_enter Tryz.func46, Tryz.ntmps46
        go_wp2_with (first
          | (go_at_call 67; refine (h42 _).mono ?_; clear h42; rintro e w1 ⟨rfl, hk1⟩; have HK := Hid.mk' hk1; clear hk1)
          | (refine wpList_store_w rfl (.tmp 2) _ rfl w.heap.size ⟨mkB a, true⟩ (by rfl) (by rfl) _ (HK.out.at (heap_last w _) id) rfl ?_; intro W' hb hk; have HW := Hid.mk' (And.intro hb hk); clear hb hk))
        exact bodyPost_ret (results_cell_slot rfl _ _ w.heap.size 92 (wcell ⟨mkB a, true⟩) (0, 0) _ rfl HW.out.1 Tryz.underlying92 rfl size92) rfl ⟨rfl, ((((Keeps.refl (fun _ => False) w).alloc _).trans HK.out).then HW.out.2 (fun k e => Or.inr (by omega)))⟩
  · rw [fw_plain (by rw [← hb0]; exact c0)]
    have k0 := by_ne (k := 34) 34 rfl c0
    have h41 := fun w => plainWord_any w s hs
    clear c0 hb0
    generalize fwP s.data.toList = P at *
    obtain ⟨b, n⟩ := P
    go_enter Tryz.func46, Tryz.ntmps46
    go_wp2_with (first
      | (go_at_call 66; refine (h41 _).mono ?_; clear h41; rintro e w1 ⟨rfl, hk1⟩; have HK := Hid.mk' hk1; clear hk1)
      | (refine wpList_store_w rfl (.tmp 2) _ rfl w.heap.size b (by rfl) (by rfl) _ (HK.out.at (heap_last w _) id) rfl ?_; intro W' hb hk; have HW := Hid.mk' (And.intro hb hk); clear hb hk))
    exact bodyPost_ret (results_cell_slot rfl _ _ w.heap.size 92 (wcell b) (0, 0) _ rfl HW.out.1 Tryz.underlying92 rfl size92) rfl ⟨rfl, ((((Keeps.refl (fun _ => False) w).alloc _).trans HK.out).then HW.out.2 (fun k e => Or.inr (by omega)))⟩
end Go.Proofs.YtdlhdompemkjfaaGreatDoor

namespace Go.Proofs.YtdlhdompemkjfaaGreatDoor
open Go.RowKit Go.Maps
set_option maxRecDepth 100000

def wcells (l : List Wd) : List Value := l.flatMap fun x => (wcell x).toList
theorem wcells_len (l : List Wd) : (wcells l).length = l.length * 2 := by
  induction l with
  | nil => rfl
  | cons a l ih => simp [wcells, wcell] at ih ⊢; omega
theorem wcells_app (a b : List Wd) : wcells (a ++ b) = wcells a ++ wcells b := by simp [wcells]
/-- A list of words of one's own, new since w. -/
def WB (w W : World) (v : Value) (l : List Wd) : Prop := W.ownsRow w.heap.size 92 2 v l.length (wcells l) ∧ Keeps (fun _ => False) w W
theorem WB.nil (w : World) : WB w w (.slice none 0 0) [] := ⟨World.ownsRow_nil _ _ _ _, Keeps.refl _ _⟩
theorem WB.keep {w A B : World} {v : Value} {l : List Wd} (h : WB w A v l) (k : Keeps (fun _ => False) A B) : WB w B v l := ⟨own_grow h.1 k, h.2.trans k⟩
theorem WB.keepG {w A B : World} {v : Value} {l : List Wd} {g : Nat} (h : WB w A v l) (k : Keeps (fun k => k = g) A B) (hg : w.heap.size ≤ g) (hv : ∀ b, v.ownBlock = some b → ¬ b = g) : WB w B v l := ⟨own_keep h.1 k hv, h.2.then k (fun j e => Or.inr (by omega))⟩
theorem wpList_appw {ops : Array Oper} {rest : List Oper} {o : Oper} {a : Act} {Q : Exit → Act → World → Prop} (hgd : o.guard = none) (s x : Operand)
    (ho : o.op = .call { callee := .builtin .append, args := #[s, x], argTypes := #[58, 58] }) (w W : World) (v : Value) (l : List Wd) (hs : a.eval s = v) (h : WB w W v l) (b : Wd) (C : Array Value) (hC : C = wcell b)
    (hx : a.eval x = .slice (some ⟨W.heap.size, 0, none⟩) 1 1) (hl : l.length ≤ 1000000000)
    (K : ∀ v' W', WB w W' v' (l ++ [b]) → wpList Tryz.prog ops Q rest (a.put o.dst v') W') : wpList Tryz.prog ops Q (o :: rest) a (W.alloc (.cells C 92)) := by
  subst hC
  obtain ⟨i0, hi, hz0, hz1, hz2⟩ := info_parts info92
  refine wpList_append_own_at _ hgd s x 58 ho w.heap.size 92 i0 (.agg wzero) 2 24 Tryz.underlying58 hi hz0 hz1 hz2 rfl (by decide) v l.length (wcells l) hs (h.1.alloc _) ⟨W.heap.size, 0, none⟩ 1 1 (wcell b).toList hx rfl ?_ ?_ (by unfold maxLen; omega) (by omega) (by rw [World.size_alloc]; have := h.2.size; omega) ?_
  · intro j u hj
    have h2 := heap_last W (.cells (wcell b) 92)
    rw [addr_add]
    simp only [World.cell?, h2, Nat.zero_add]
    rw [Array.getElem?_toList] at hj
    exact hj
  · intro u hu
    have := wcell_one b
    rw [Array.all_eq_true_iff_forall_mem] at this
    exact this u (by simpa using hu)
  · intro v' W' hown hgr _ _
    refine K v' W' ⟨?_, ?_⟩
    · rw [wcells_app, List.length_append]
      have e : wcells [b] = (wcell b).toList := by simp [wcells]
      rw [e]; exact hown
    · refine (h.2.alloc _).step hgr (fun k hk => Or.inr ?_)
      exact ((h.1.lt k hk).1)
theorem fillw (b : Wd) : Instr.fill (fun i => some (i * 2, 2)) ((Array.range (1 * 2)).map (wzero[· % 2]!)) [(0, .agg (wcell b))] = some (wcell b) := by kernel_rfl
theorem wpList_word1 {ops : Array Oper} {rest : List Oper} {o : Oper} {a : Act} {W : World} {Q : Exit → Act → World → Prop} (hgd : o.guard = none) (x : Operand) (ho : o.op = .buildSlice 58 1 #[(0, x)])
    (b : Wd) (hx : a.eval x = .agg (wcell b)) (h : wpList Tryz.prog ops Q rest (a.put o.dst (.slice (some ⟨W.heap.size, 0, none⟩) 1 1)) (W.alloc (.cells (wcell b) 92))) : wpList Tryz.prog ops Q (o :: rest) a W := by
  obtain ⟨i0, hi, hz0, hz1, hz2⟩ := info_parts info92
  refine wpList_buildSlice hgd 58 92 1 _ ho (wcell b) i0 (.agg wzero) Tryz.underlying58 hi hz0 (by rw [hz1]; decide) (by rw [hz1]; decide) ?_ h
  rw [hz1, show ((#[(0, x)] : Array (Nat × Operand)).map fun (i, x) => (i, a.eval x)).toList = [(0, a.eval x)] by simp, hx]
  exact fillw b
theorem WB.over {w wr w1 W : World} {v : Value} {l : List Wd} (h : WB w wr v l) (k1 : Keeps (fun _ => False) wr w1) (o : Obj) (k2 : Keeps (fun k => k = w1.heap.size) (w1.alloc o) W) : WB w W v l := by
  have h1 := (h.keep k1).keep ((Keeps.refl (fun _ => False) w1).alloc o)
  refine h1.keepG k2 (by have := (h.keep k1).2.size; omega) (fun b hb e => ?_)
  have := (h.1.lt b hb).2
  have := k1.size
  omega

set_option maxHeartbeats 4000000 in
theorem wordsOf_any (w : World) (s : ByteArray) (hs : s.size ≤ 1000000) :
    Calls Tryz.prog 30 #[.string s] w fun e w' => ∃ v, e = .returned (.tuple #[v, .bool (wds [] s.data.toList).isSome]) ∧ Hid (WB w w' v ((wds [] s.data.toList).getD [])) := by
  have HS := Hid.mk' (size_len s)
  have HO := Hid.mk' (And.intro (WI.start s.data.toList) (WB.nil w))
  go_enter Tryz.func30, Tryz.ntmps30
  go_wp2
  go_step3
  go_wp2
  go_step3
  go_wp2
  go_loopw [4, 5] (fun v i wr => ∃ (k : Nat) (acc : List Wd), k ≤ s.size ∧ i = .int .i64 k ∧ Hid (WI s.data.toList k acc ∧ WB w wr v acc)) (fun _ i _ => s.size + 1 - (intOf i).toNat)
  case atStart => exact ⟨0, [], Nat.zero_le _, rfl, HO.out⟩
  case round =>
    obtain ⟨k, acc, hk, rfl, HR⟩ := hrel
    clear HO
    obtain ⟨hI0, hB0⟩ := HR.out
    have HB := Hid.mk' hB0
    have HI := Hid.mk' hI0
    clear hI0 hB0 HR
    go_wp2
    go_loopw [5] (fun i wq => wq = wr ∧ ∃ j : Nat, k ≤ j ∧ j ≤ s.size ∧ i = .int .i64 j ∧ Hid (WI s.data.toList j acc)) (fun i _ => s.size + 1 - (intOf i).toNat)
    case atStart => exact ⟨rfl, k, Nat.le_refl _, hk, rfl, HI.out⟩
    case round =>
      obtain ⟨rfl, j, hj1, hj2, rfl, HJ⟩ := hrel
      clear HI
      by_cases h1 : j < s.size
      · have h1' : ((j : Int) == (s.size : Int)) = false := beq_eq_false_iff_ne.2 (by omega)
        have h1'' : (j : Int) < (s.size : Int) := by omega
        have hg := byte_getD s j h1
        have HK : Hid (j < s.data.toList.length ∧ True) := ⟨by rw [← HS.out]; exact h1, trivial⟩
        by_cases c32 : (s[j]'h1) = 32
        · have k32 := by_nn (k := 32) 32 rfl c32
          have HN := Hid.mk' (HJ.out.blank HK.out.1 (by rw [← hg]; exact c32))
          clear c32 hg
          go_wp2
          go_roundw
          case rel => exact ⟨trivial, j + 1, by omega, by omega, by go_num, HN.out⟩
          case measure => simp [intOf]; omega
        · have k32 := by_ne (k := 32) 32 rfl c32
          have hd32 : ¬ s.data.toList.getD j 0 = 32 := by rw [← hg]; exact c32
          have h31 := firstWord_any wr (s.extract j s.size) (by rw [mkB_extr, mkB_size]; simp; omega) (by rw [mkB_extr, mkB_size]; simp; omega)
          rw [extr_rest] at h31
          by_cases hf : (fw (s.data.toList.drop j)).2 = 0
          · have HE := Hid.mk' (HJ.out.bad HK.out.1 hd32 hf)
            rw [hf] at h31
            clear c32 hg hd32 hf
            go_wp2_with (first
              | (go_at_call 46; refine h31.mono ?_; clear h31; rintro e w1 ⟨rfl, hk1⟩; have HK1 := Hid.mk' hk1; clear hk1)
              | (refine wpList_store_w rfl (.tmp 6) _ rfl w1.heap.size _ (by rfl) (by rfl) _ (heap_last w1 _) rfl ?_; intro W' hb hk; have HW := Hid.mk' (And.intro hb (HB.out.over HK1.out _ hk)); clear hb hk))
            try rw [Exit.noGoto_ret]
            refine bodyPost_ret (v := .tuple #[.slice none 0 0, .bool false]) (by simp [results, Tryz.results30, go_sem]) rfl ?_
            rw [HE.out]
            exact ⟨_, rfl, World.ownsRow_nil _ _ _ _, HW.out.2.2⟩
          · have HN := Hid.mk' (HJ.out.word HK.out.1 hd32 hf)
            have HL := Hid.mk' HN.out.1
            generalize hmm : fw (s.data.toList.drop j) = mm at *
            obtain ⟨b, n⟩ := mm
            have hf' : ¬ n = 0 := hf
            have hn0 : ((n : Int) == 0) = false := beq_eq_false_iff_ne.2 (by omega)
            have hle : j + n ≤ s.size := by rw [HS.out]; exact HL.out
            have HN' : Hid (WI s.data.toList (j + n) (acc ++ [b])) := HN.out
            have HA : Hid (acc.length ≤ 1000000) := by have := HJ.out.2.1; show _ ≤ _; omega
            clear c32 hg hd32 hf hmm HN HL
            go_wp2_with (first
              | (go_at_call 46; refine h31.mono ?_; clear h31; rintro e w1 ⟨rfl, hk1⟩; have HK1 := Hid.mk' hk1; clear hk1)
              | (refine wpList_store_w rfl (.tmp 6) _ rfl w1.heap.size _ (by rfl) (by rfl) _ (heap_last w1 _) rfl ?_; intro W' hb hk; have HW := Hid.mk' (And.intro hb (HB.out.over HK1.out _ hk)); clear hb hk)
              | (refine wpList_load_row rfl 92 (.tmp 6) rfl _ (by rfl) 92 (wcell b) (0, 0) _ HW.out.1 Tryz.underlying92 rfl size92 ?_)
              | (refine wpList_word1 rfl _ rfl b (by rfl) ?_)
              | (at_builtin; go_must (refine wpList_appw rfl _ _ rfl w W' u4 acc (by rfl) HW.out.2 b _ rfl (by rfl) (by have := HA.out; omega) ?_); intro v2 W2 hO; have HO := Hid.mk' hO; clear hO))
            go_roundw
            case rel => exact ⟨j + n, acc ++ [b], by omega, by go_num, HN'.out, HO.out⟩
            case measure => simp [intOf]; omega
      · have h1' : ((j : Int) == (s.size : Int)) = true := beq_iff_eq.2 (by omega)
        have HE := Hid.mk' (HJ.out.fin (by rw [← HS.out]; exact h1))
        go_wp2
        try rw [Exit.noGoto_ret]
        refine bodyPost_ret (v := .tuple #[u4, .bool true]) (by simp [results, Tryz.results30, go_sem]) rfl ?_
        rw [HE.out]
        exact ⟨_, rfl, HB.out⟩
end Go.Proofs.YtdlhdompemkjfaaGreatDoor
