import Derived.Test.YtdlhdompemkjfaaGreatDoorK01
namespace Go.Proofs.YtdlhdompemkjfaaGreatDoor
open Go.RowKit Go.Maps
set_option maxRecDepth 100000

def nums (l : Bs) : List Int := l.map fun b => (b.toNat : Int)
def vals (l : Bs) : List Value := l.map fun b => Value.int .u8 (b.toNat : Int)
theorem vals_len (l : Bs) : (vals l).length = l.length := by simp [vals]
theorem nums_len (l : Bs) : (nums l).length = l.length := by simp [nums]
theorem str_nums (l : Bs) : strOfNums (nums l) = mkB l := by
  unfold strOfNums nums mkB
  rw [List.map_map]
  congr 1
  congr 1
  induction l with
  | nil => rfl
  | cons b l ih => simp at ih ⊢; exact ih
theorem vals_get (l : Bs) (i : Nat) (h : i < l.length) : (vals l)[i]? = some (.int .u8 ((nums l).getD i 0)) := by
  simp [vals, nums, List.getD_eq_getElem?_getD, h]
/-- string(b) of a list of bytes. -/
theorem conv_row (W : World) (v : Value) (l : Bs) (h : Row W v l.length (vals l)) : (convert 40 9 v).run Tryz.prog W = .ok (.string (mkB l)) W := by
  obtain ⟨a, cap, rfl, hc, hr⟩ := h
  by_cases h0 : l.length = 0
  · have hl : l = [] := List.length_eq_zero_iff.1 h0
    subst hl
    cases a with
    | none => exact run_convert_bytes_nil (P := Tryz.prog) W 40 5 Tryz.underlying40 Tryz.underlying5 0 cap 9 Tryz.underlying9
    | some a =>
      have hl : (loadCells a 0).run Tryz.prog W = .ok (([] : List Int).map (Value.int .u8)).toArray W := by
        have := run_loadCells_list (P := Tryz.prog) W a [] (fun j v hj => by simp at hj)
        simpa using this
      rw [show (([] : Bs).length) = 0 from rfl, run_convert_bytes_string W 40 9 5 _ 0 cap Tryz.underlying40 Tryz.underlying5 Tryz.underlying9, run_bytesToString W _ 0 cap [] hl]
      rfl
  · obtain ⟨b, o, rfl, hb, hcell⟩ := hr (by omega)
    have h := run_convert_bytes_arg (P := Tryz.prog) W 40 5 Tryz.underlying40 Tryz.underlying5 b o l.length cap (nums l) (nums_len l) (fun i hi => hcell i _ (vals_get l i hi)) 9 Tryz.underlying9
    rwa [str_nums] at h
theorem info5 : (Tryz.prog.info? 5).map (fun i => (i.zero, i.size, i.bytes)) = some (some (.int .u8 0), 1, 1) := by kernel_rfl
end Go.Proofs.YtdlhdompemkjfaaGreatDoor

namespace Go.Proofs.YtdlhdompemkjfaaGreatDoor
open Go.RowKit Go.Maps
set_option maxRecDepth 100000

theorem ret_string {a b : ByteArray} (h : a = b) : Ending.returned (.string a) = .returned (.string b) := by rw [h]
theorem heap_last (w : World) (o : Obj) : (w.alloc o).heap[w.heap.size]? = some o := by
  show (w.heap.push o)[w.heap.size]? = some o
  simp
/-- A list of bytes that is new. -/
theorem row_new (W : World) (l : Bs) (n : Nat) (hn : n = l.length) : Row (W.alloc (.cells (vals l).toArray 5)) (.slice (some ⟨W.heap.size, 0, none⟩) n n) l.length (vals l) := by
  subst hn
  refine ⟨_, _, rfl, Nat.le_refl _, fun _ => ⟨_, _, rfl, by rw [World.size_alloc]; omega, fun j u hj => ?_⟩⟩
  have h := heap_last W (.cells (vals l).toArray 5)
  simp only [World.cell?, h, Nat.zero_add, List.getElem?_toArray]
  exact hj
theorem conv_new (W : World) (l : Bs) (n : Nat) (hn : n = l.length) : (convert 40 9 (.slice (some ⟨W.heap.size, 0, none⟩) n n)).run Tryz.prog (W.alloc (.cells (vals l).toArray 5)) = .ok (.string (mkB l)) (W.alloc (.cells (vals l).toArray 5)) :=
  conv_row _ _ l (row_new W l n hn)
theorem digit_int (w : World) (n : Nat) (hn : n < 16) (a : Int) (ha : a = (n : Int)) : Calls Tryz.prog 85 #[.int .i64 a] w fun e w' => e = .returned (.int .u8 ((dg n).toNat : Int)) ∧ w' = w := by
  rw [ha]; exact digit_any w n hn

end Go.Proofs.YtdlhdompemkjfaaGreatDoor

namespace Go.Proofs.YtdlhdompemkjfaaGreatDoor
open Go.RowKit Go.Maps
set_option maxRecDepth 100000

/-- A list of bytes of one's own, new since w. -/
def OB (w W : World) (v : Value) (l : Bs) : Prop := W.ownsRow w.heap.size 5 1 v l.length (vals l) ∧ Keeps (fun _ => False) w W
theorem OB.row {w W : World} {v : Value} {l : Bs} (h : OB w W v l) : Row W v l.length (vals l) := Row.of_own h.1
theorem OB.nil (w : World) : OB w w (.slice none 0 0) [] := ⟨World.ownsRow_nil _ _ _ _, Keeps.refl _ _⟩
theorem OB.new (w : World) (l : Bs) (n : Nat) (hn : n = l.length) (hm : n ≤ 1000) : OB w (w.alloc (.cells (vals l).toArray 5)) (.slice (some ⟨w.heap.size, 0, none⟩) n n) l := by
  subst hn
  refine ⟨⟨by rw [vals_len, Nat.mul_one], Or.inr ⟨_, _, _, rfl, Nat.le_refl _, heap_last _ _, Nat.le_refl _, by unfold maxLen; omega, by simp [vals_len], by simp [← vals_len l]⟩⟩, (Keeps.refl _ w).alloc _⟩
theorem OB.keep {w A B : World} {v : Value} {l : Bs} (h : OB w A v l) (k : Keeps (fun _ => False) A B) : OB w B v l := ⟨own_grow h.1 k, h.2.trans k⟩

theorem wpList_app {ops : Array Oper} {rest : List Oper} {o : Oper} {a : Act} {Q : Exit → Act → World → Prop} (hgd : o.guard = none) (s x : Operand)
    (ho : o.op = .call { callee := .builtin .append, args := #[s, x], argTypes := #[40, 40] }) (w W : World) (v : Value) (l : Bs) (hs : a.eval s = v) (h : OB w W v l) (m : Bs) (n : Nat) (hn : n = m.length) (C : Array Value) (hC : C = (vals m).toArray)
    (hx : a.eval x = .slice (some ⟨W.heap.size, 0, none⟩) n n) (hl : l.length + m.length ≤ 1000000000000)
    (K : ∀ v' W', OB w W' v' (l ++ m) → wpList Tryz.prog ops Q rest (a.put o.dst v') W') : wpList Tryz.prog ops Q (o :: rest) a (W.alloc (.cells C 5)) := by
  subst hn hC
  obtain ⟨i0, hi, hz0, hz1, hz2⟩ := info_parts info5
  refine wpList_append_own_at _ hgd s x 40 ho w.heap.size 5 i0 (.int .u8 0) 1 1 Tryz.underlying40 hi hz0 hz1 hz2 rfl (by decide) v l.length (vals l) hs (h.1.alloc _) ⟨W.heap.size, 0, none⟩ m.length m.length (vals m) hx (by rw [vals_len, Nat.mul_one]) ?_ ?_ (by unfold maxLen; omega) (by omega) (by rw [World.size_alloc]; have := h.2.size; omega) ?_
  · intro j u hj
    have h2 := heap_last W (.cells (vals m).toArray 5)
    rw [addr_add]
    simp only [World.cell?, h2, Nat.zero_add, List.getElem?_toArray]
    exact hj
  · intro u hu
    simp only [vals, List.mem_map] at hu
    obtain ⟨b, _, rfl⟩ := hu
    rfl
  · intro v' W' hown hgr _ _
    refine K v' W' ⟨?_, ?_⟩
    · have : vals (l ++ m) = vals l ++ vals m := by simp [vals]
      rw [this, List.length_append]; exact hown
    · refine (h.2.alloc _).step hgr (fun k hk => Or.inr ?_)
      exact ((h.1.lt k hk).1)
theorem step_app {ops : Array Oper} {o : Oper} {a : Act} {K : Act → World → Prop} {Q : Exit → Act → World → Prop} {E : Prop} (hgd : o.guard = none) (s x : Operand)
    (ho : o.op = .call { callee := .builtin .append, args := #[s, x], argTypes := #[40, 40] }) (w W : World) (v : Value) (l : Bs) (hs : a.eval s = v) (h : OB w W v l) (m : Bs) (n : Nat) (hn : n = m.length) (h0 : 0 < m.length) (C : Array Value) (hC : C = (vals m).toArray)
    (hx : a.eval x = .slice (some ⟨W.heap.size, 0, none⟩) n n) (hl : l.length + m.length ≤ 1000000000000)
    (KK : ∀ v' W', OB w W' v' (l ++ m) → K (a.put o.dst v') W') : if Region.wanted o (yielded ops a.tmps) = true then Oper.wp Tryz.prog o a (W.alloc (.cells C 5)) K Q else E := by
  subst hn hC
  obtain ⟨i0, hi, hz0, hz1, hz2⟩ := info_parts info5
  refine step_append_lies _ hgd s x 40 ho w.heap.size 5 i0 (.int .u8 0) 1 1 Tryz.underlying40 hi hz0 hz1 hz2 rfl (by decide) v l.length (vals l) hs (h.1.alloc _) ⟨W.heap.size, 0, none⟩ m.length m.length (vals m) hx (by rw [vals_len, Nat.mul_one]) ?_ ?_ h0 (by unfold maxLen; omega) (by omega) (by rw [World.size_alloc]; have := h.2.size; omega) _ rfl ?_
  · intro j u hj
    have h2 := heap_last W (.cells (vals m).toArray 5)
    rw [addr_add]
    simp only [World.cell?, h2, Nat.zero_add, List.getElem?_toArray]
    exact hj
  · intro u hu
    simp only [vals, List.mem_map] at hu
    obtain ⟨b, _, rfl⟩ := hu
    rfl
  · intro g cap W' hown hgr _ _
    refine KK _ W' ⟨?_, ?_⟩
    · have : vals (l ++ m) = vals l ++ vals m := by simp [vals]
      rw [this, List.length_append]; exact hown
    · refine (h.2.alloc _).step hgr (fun k hk => Or.inr ?_)
      exact ((h.1.lt k hk).1)
theorem flat_take {t : Bs} {k : Nat} (h : k < t.length) : (t.take (k + 1)).flatMap esc = (t.take k).flatMap esc ++ esc (t.getD k 0) := by
  rw [take_getD 0 h, List.flatMap_append]; simp
theorem flat_len (t : Bs) : (t.flatMap esc).length ≤ 4 * t.length := by
  induction t with
  | nil => simp
  | cons b l ih => rw [List.flatMap_cons, List.length_append, List.length_cons]; have := (esc_len b).2; omega

end Go.Proofs.YtdlhdompemkjfaaGreatDoor

namespace Go.Proofs.YtdlhdompemkjfaaGreatDoor
open Go.RowKit Go.Maps
set_option maxRecDepth 100000

theorem bits_and : ∀ b : UInt8, bits .and .u8 (b.toNat : Int) 15 = (b.toNat : Int) % 16 := by
  apply byte_cases; decide +kernel

theorem dgB_at (n : Nat) (h : n < dgB.size) : (dgB[n]'h) = dg n := by rw [byte_getD dgB n h]; rfl
theorem dgB_int (a : Int) (n : Nat) (e : a.toNat = n) (h : a.toNat < dgB.size) : (dgB[a.toNat]'h) = dg n := by subst e; exact dgB_at _ h
theorem dg_cells (b : UInt8) (h1 : ((b.toNat : Int) / 16).toNat < dgB.size) (h2 : ((b.toNat : Int) % 16).toNat < dgB.size) :
    #[Value.int .u8 92, Value.int .u8 120, Value.int .u8 (((⟨#[48, 49, 50, 51, 52, 53, 54, 55, 56, 57, 97, 98, 99, 100, 101, 102]⟩ : ByteArray)[((b.toNat : Int) / 16).toNat]'h1).toNat : Int), Value.int .u8 (((⟨#[48, 49, 50, 51, 52, 53, 54, 55, 56, 57, 97, 98, 99, 100, 101, 102]⟩ : ByteArray)[((b.toNat : Int) % 16).toNat]'h2).toNat : Int)] = (vals [92, 120, dg (b.toNat / 16), dg (b.toNat % 16)]).toArray := by
  have e1 := dgB_int ((b.toNat : Int) / 16) (b.toNat / 16) (by omega) h1
  have e2 := dgB_int ((b.toNat : Int) % 16) (b.toNat % 16) (by omega) h2
  unfold dgB at e1 e2
  rw [e1, e2]; rfl

set_option maxHeartbeats 4000000 in
set_option maxRecDepth 100000 in
theorem quote_any (w : World) (s : ByteArray) (hs : s.size ≤ 1000000) :
    Calls Tryz.prog 70 #[.string s] w fun e w' => e = .returned (.string (mkB (quo s.data.toList))) ∧ Keeps (fun _ => False) w w' := by
  have HS := Hid.mk' (size_len s)
  have HO : Hid (OB w (w.alloc (.cells #[.int .u8 34] 5)) (.slice (some ⟨w.heap.size, 0, none⟩) 1 1) [34]) := OB.new w [34] 1 rfl (by decide)
  go_enter Tryz.func70, Tryz.ntmps70
  go_wp2
  go_loopw [3, 9] (fun v i wr => ∃ k : Nat, k ≤ s.size ∧ i = .int .i64 k ∧ Hid (OB w wr v (34 :: (s.data.toList.take k).flatMap esc))) (fun _ i _ => s.size - (intOf i).toNat)
  case atStart => exact ⟨0, Nat.zero_le _, rfl, HO.out⟩
  case round =>
    obtain ⟨k, hk, rfl, HR⟩ := hrel
    clear HO
    have HL : Hid ((34 :: (s.data.toList.take k).flatMap esc).length ≤ 4 * k + 1) := by
      have := flat_len (s.data.toList.take k)
      have h2 : (s.data.toList.take k).length ≤ k := by simp; omega
      show _ ≤ _
      rw [List.length_cons]; omega
    by_cases h1 : k < s.size
    · have h1' : (k : Int) < (s.size : Int) := by omega
      have HT : Hid (∀ m, esc s[k] = m → 34 :: (s.data.toList.take (k + 1)).flatMap esc = (34 :: (s.data.toList.take k).flatMap esc) ++ m) := by
        intro m hm
        rw [flat_take (by rw [← HS.out]; exact h1), ← byte_getD s k h1, hm]; rfl
      by_cases c34 : s[k] = 34
      · have HN := Hid.mk' (HT.out [92, 34] (by rw [c34]; rfl))
        have k34 := by_yes (k := 34) 34 rfl c34
        have ev := toNat_of (k := 34) 34 rfl c34
        clear c34
        go_wp2_with (first
          | (at_builtin; go_must (refine wpList_app rfl _ _ rfl w wr u3 _ (by rfl) HR.out [92, 34] 2 rfl _ (by rfl) (by rfl) (by have := HL.out; simp only [List.length_cons, List.length_nil] at *; omega) ?_); intro v' W' hO; have HO := Hid.mk' hO; clear hO))
        go_roundw
        case rel => exact ⟨k + 1, by omega, by go_num, by rw [HN.out]; exact HO.out⟩
        case measure => simp [intOf]; omega
      by_cases c92 : s[k] = 92
      · have HN := Hid.mk' (HT.out [92, 92] (by rw [c92]; rfl))
        have k34 := by_no (k := 34) 34 rfl c34
        have k92 := by_yes (k := 92) 92 rfl c92
        have ev := toNat_of (k := 92) 92 rfl c92
        clear c34 c92
        go_wp2_with (first
          | (at_builtin; go_must (refine wpList_app rfl _ _ rfl w wr u3 _ (by rfl) HR.out [92, 92] 2 rfl _ (by rfl) (by rfl) (by have := HL.out; simp only [List.length_cons, List.length_nil] at *; omega) ?_); intro v' W' hO; have HO := Hid.mk' hO; clear hO))
        go_roundw
        case rel => exact ⟨k + 1, by omega, by go_num, by rw [HN.out]; exact HO.out⟩
        case measure => simp [intOf]; omega
      by_cases c10 : s[k] = 10
      · have HN := Hid.mk' (HT.out [92, 110] (by rw [c10]; rfl))
        have k34 := by_no (k := 34) 34 rfl c34
        have k92 := by_no (k := 92) 92 rfl c92
        have k10 := by_yes (k := 10) 10 rfl c10
        clear c34 c92 c10
        go_wp2_with (first
          | (at_builtin; go_must (refine wpList_app rfl _ _ rfl w wr u3 _ (by rfl) HR.out [92, 110] 2 rfl _ (by rfl) (by rfl) (by have := HL.out; simp only [List.length_cons, List.length_nil] at *; omega) ?_); intro v' W' hO; have HO := Hid.mk' hO; clear hO))
        go_roundw
        case rel => exact ⟨k + 1, by omega, by go_num, by rw [HN.out]; exact HO.out⟩
        case measure => simp [intOf]; omega
      have k34 := by_no (k := 34) 34 rfl c34
      have k92 := by_no (k := 92) 92 rfl c92
      have k10 := by_no (k := 10) 10 rfl c10
      have h10 := printable_any wr s[k]
      cases hp : prt s[k] with
      | true =>
        rw [hp] at h10
        have HN := Hid.mk' (HT.out [s[k]] (by unfold esc; rw [if_neg c34, if_neg c92, if_neg c10, if_pos hp]))
        clear c34 c92 c10 hp
        go_wp2_with (first
          | (go_at_call 95; refine h10.mono ?_; clear h10; rintro e w1 ⟨rfl, hw1⟩; subst w1)
          | (at_builtin; go_must (refine wpList_app rfl _ _ rfl w wr u3 _ (by rfl) HR.out [s[k]] 1 rfl _ (by rfl) (by rfl) (by have := HL.out; simp only [List.length_cons, List.length_nil] at *; omega) ?_); intro v' W' hO; have HO := Hid.mk' hO; clear hO))
        go_roundw
        case rel => exact ⟨k + 1, by omega, by go_num, by rw [HN.out]; exact HO.out⟩
        case measure => simp [intOf]; omega
      | false =>
        rw [hp] at h10
        have HN := Hid.mk' (HT.out [92, 120, dg (s[k].toNat / 16), dg (s[k].toNat % 16)] (by unfold esc; rw [if_neg c34, if_neg c92, if_neg c10, if_neg (by rw [hp]; decide)]))
        clear c34 c92 c10 hp
        go_wp2_with (first
          | (go_at_call 95; refine h10.mono ?_; clear h10; rintro e w1 ⟨rfl, hw1⟩; subst w1))
        have hb := s[k].toNat_lt
        have b0 : 0 ≤ (s[k].toNat : Int) / 16 := by omega
        have b1 : ((s[k].toNat : Int) / 16) < 16 := by omega
        have ha : bits .and .u8 (s[k].toNat : Int) 15 = (s[k].toNat : Int) % 16 := bits_and s[k]
        have a0 : 0 ≤ (s[k].toNat : Int) % 16 := by omega
        have b2 : ((s[k].toNat : Int) % 16) < 16 := by omega
        go_region_law (refine step_app rfl _ _ rfl w wr.drew u3 _ (by rfl) (HR.out.keep (Keeps.drewN _ wr 1)) [92, 120, dg (s[k].toNat / 16), dg (s[k].toNat % 16)] 4 rfl (by simp) _ (dg_cells _ _ _) (by rfl) (by have := HL.out; simp only [List.length_cons, List.length_nil] at *; omega) ?_; intro v' W' hO; have HO := Hid.mk' hO; clear hO)
        all_goals go_wp2
        all_goals go_roundw
        case rel => exact ⟨k + 1, by omega, by go_num, by rw [HN.out]; exact HO.out⟩
        case measure => simp [intOf]; omega
        case rel => exact ⟨k + 1, by omega, by go_num, by rw [HN.out]; exact HO.out⟩
        case measure => simp [intOf]; omega
    · have h1' : ¬ (k : Int) < (s.size : Int) := by omega
      have HF : Hid (OB w wr u3 (34 :: s.data.toList.flatMap esc)) := by
        have := HR.out
        rw [List.take_of_length_le (by rw [← HS.out]; omega)] at this
        exact this
      go_wp2_with (first
        | (at_builtin; go_must (refine wpList_app rfl _ _ rfl w wr u3 _ (by rfl) HF.out [34] 1 rfl _ (by rfl) (by rfl) (by have := flat_len s.data.toList; rw [← HS.out] at this; simp only [List.length_cons, List.length_nil]; omega) ?_); intro v' W' hO; have hcv := conv_row _ _ _ hO.row; have HO := Hid.mk' hO; clear hO))
      go_ret
      exact ⟨rfl, HO.out.2⟩
end Go.Proofs.YtdlhdompemkjfaaGreatDoor
