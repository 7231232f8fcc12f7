import Derived.Test.YtdlhdompemkjfaaGreatDoorK09
import Derived.Deep.RegionHeld3
namespace Go.Proofs.YtdlhdompemkjfaaGreatDoor
open Go.RowKit Go.Maps
set_option maxRecDepth 100000

theorem last_blocks (w : World) (o1 o2 o3 : Obj) : (((w.alloc o1).alloc o2).alloc o3).heap[w.heap.size + 1 + 1]? = some o3 ∧ (((w.alloc o1).alloc o2).alloc o3).heap[w.heap.size + 1]? = some o2 ∧ Keeps (fun _ => False) w (((w.alloc o1).alloc o2).alloc o3) := by
  have b1 := two_blocks w o1 o2
  have b3 := heap_last ((w.alloc o1).alloc o2) o3
  rw [World.size_alloc, World.size_alloc] at b3
  have k := (Keeps.refl (fun _ => False) ((w.alloc o1).alloc o2)).alloc o3
  exact ⟨b3, k.at b1.2 id, (((Keeps.refl _ w).alloc _).alloc _).alloc _⟩
theorem wpList_store_newg {ops : Array Oper} {rest : List Oper} {o : Oper} {a : Act} {W : World} {Q : Exit → Act → World → Prop} (hgd : o.guard = none) (x y : Operand) (ho : o.op = .store 74 x y) (c : Ar) (g : Nat) (hg : W.heap.size = g) (hx : a.eval x = .pointer (some ⟨g, 0, none⟩)) (hy : a.eval y = .agg (acell c))
    (h : wpList Tryz.prog ops Q rest (a.put o.dst undef) (W.alloc (.cells (acell c) 74))) : wpList Tryz.prog ops Q (o :: rest) a (W.alloc (.cells azero 74)) := by
  subst hg
  exact wpList_store_new hgd x y ho c hx hy h
theorem takeH {ops : Array Oper} {Q : Exit → Act → World → Prop} {md : Region.Mode} {S : World → Prop} (i : Nat) (dst : Option Tmp) (v : Value) {oi : Oper} {fuel : Nat} {listed : Array Bool} {a : Act} {w : World} (hi : ops[i]? = some oi) (hd : oi.dst = dst)
    (hs : Region.noSelect ops = true) (hf : Region.free md ops listed i = true) (hr : (Region.ready md ops listed).contains i = true)
    (hQ : ∀ c a w, Q (.panic c) (a.put dst v) w → Q (.panic c) a w) (hy : YieldsIf Tryz.prog ops S oi v a) (hS : S w)
    (h : wpAnyH Tryz.prog md ops Q S fuel (listed.setIfInBounds i true) (a.put dst v) w) : wpAnyH Tryz.prog md ops Q S (fuel + 1) listed a w := by
  subst hd
  exact wpAnyH_take hi hs hf hr hQ hy hS h
theorem rangeAt_block {W : World} {b : Nat} {cs : Array Value} {t : TypeId} {f : Nat × Nat} (h : W.heap[b]? = some (.cells cs t f)) (cs' : Array Value) (e : cs' = cs := by rfl) : W.rangeAt b 0 cs'.toList := by
  subst e
  intro j u hj
  rw [Array.getElem?_toList] at hj
  simp only [World.cell?, h, Nat.zero_add]; exact hj
theorem S_keep {W : World} {g b : Nat} {c : Ar} (cs : Array Value) (n : Nat) (v : Value) (h : W.rangeAt g 0 (acell c).toList ∧ W.cell? ⟨g, n, none⟩ = some v) (hb : ¬ g = b) : (W.setRow b cs).rangeAt g 0 (acell c).toList ∧ (W.setRow b cs).cell? ⟨g, n, none⟩ = some v := by
  have k := Keeps.setRow (X := fun k => k = b) (Keeps.refl _ W) b cs (Or.inr rfl)
  exact ⟨fun j u hj => k.cell (h.1 j u hj) hb, k.cell h.2 hb⟩
theorem azero_one : azero.all (·.oneCell') = true := by simp [azero, Value.oneCell']

set_option maxHeartbeats 2000000 in
theorem argAt_in (w : World) (n : Int) (s : ByteArray) (v : Value) (l : List Ar) (h : ArgsAt w v l) (i : Nat) (a : Ar) (hi : l[i]? = some a) :
    Calls Tryz.prog 48 #[.agg (kcell n s v), .int .i64 i] w fun e w' => e = .returned (.tuple #[.agg (acell a), .bool true]) ∧ Keeps (fun _ => False) w w' := by
  obtain ⟨p, c, rfl, hc⟩ := h.shape
  have h1 : i < l.length := (List.getElem?_eq_some_iff.1 hi).1
  have h1' : (i : Int) < (l.length : Int) := by omega
  have HA := Hid.mk' h
  have HK0 := Hid.mk' (((Keeps.refl (fun _ => False) w).alloc (.cells #[.int .i64 n, .string s, .slice p l.length c] 63)).alloc (.cells azero 74))
  obtain ⟨b, o, rfl, hb, hr⟩ := (HA.out.keep HK0.out).range hi
  have HR := Hid.mk' hr
  clear h hr hb
  unfold kcell
  go_enter Tryz.func48, Tryz.ntmps48
  go_wp2_with (first
    | (refine wpList_alloc_a rfl rfl ?_)
    | (refine wpList_load_arg rfl _ rfl b (o + i * 4) a (by rfl) HR.out ?_)
    | (refine wpList_store_a rfl (.tmp 4) _ rfl (w.heap.size + 1) a (by rfl) (by rfl) (two_blocks w _ _).2 ?_; intro W' hb2 hk2; have HW := Hid.mk' (And.intro hb2 (HK0.out.then hk2 (fun k e => Or.inr (by omega)))); clear hb2 hk2))
  exact bodyPost_ret (results_cell_slot rfl _ _ (w.heap.size + 1) 74 (acell a) (0, 0) _ rfl HW.out.1 Tryz.underlying74 rfl size74) rfl ⟨rfl, HW.out.2⟩

set_option maxHeartbeats 2000000 in
theorem argAt_nil (w : World) (n : Int) (s : ByteArray) (v : Value) (h : ArgsAt w v []) (i : Nat) (hi : i ≤ 1000000000) :
    Calls Tryz.prog 48 #[.agg (kcell n s v), .int .i64 i] w fun e w' => e = .returned (.tuple #[.agg azero, .bool false]) ∧ Keeps (fun _ => False) w w' := by
  obtain ⟨p, c, rfl, hc⟩ := h.shape
  have h1' : ¬ (i : Int) < 0 := by omega
  have HK0 := Hid.mk' (((Keeps.refl (fun _ => False) w).alloc (.cells #[.int .i64 n, .string s, .slice p 0 c] 63)).alloc (.cells azero 74))
  clear h hc
  unfold kcell
  go_enter Tryz.func48, Tryz.ntmps48
  go_wp2_with (first
    | (refine wpList_alloc_a rfl rfl ?_)
    | (refine wpList_buildTo rfl 74 _ rfl _ rfl azero (by kernel_rfl) ?_)
    | (refine wpList_store_row rfl 74 _ _ rfl (w.heap.size + 1) azero (by rfl) (by rfl) 74 azero (two_blocks w _ _).2 size74 rfl azero_one ?_))
  exact bodyPost_ret (results_cell_slot rfl _ _ (w.heap.size + 1) 74 azero (0, 0) _ rfl (setRow_heap _ _ _ _ _ _ (two_blocks w _ _).2) Tryz.underlying74 rfl size74) rfl ⟨rfl, HK0.out.setRow _ _ (Or.inl (by omega))⟩

set_option maxHeartbeats 2000000 in
theorem argAt_last (w : World) (n : Int) (s : ByteArray) (v : Value) (l : List Ar) (h : ArgsAt w v l) (hl : l.length ≤ 100) (i : Nat) (hi : ¬ i < l.length) (_hi2 : i ≤ 1000000000) (a : Ar) (ha : l[l.length - 1]? = some a) :
    Calls Tryz.prog 48 #[.agg (kcell n s v), .int .i64 i] w fun e w' => e = .returned (.tuple #[.agg (acell a), .bool a.lst]) ∧ Keeps (fun _ => False) w w' := by
  obtain ⟨p, c, rfl, hc⟩ := h.shape
  have h1 : l.length - 1 < l.length := (List.getElem?_eq_some_iff.1 ha).1
  have h1' : ¬ (i : Int) < (l.length : Int) := by omega
  have h0 : ((l.length : Int) == 0) = false := beq_eq_false_iff_ne.2 (by omega)
  have hm : ((l.length : Int) - 1) = ((l.length - 1 : Nat) : Int) := by omega
  have HA := Hid.mk' h
  have HK0 := Hid.mk' (((Keeps.refl (fun _ => False) w).alloc (.cells #[.int .i64 n, .string s, .slice p l.length c] 63)).alloc (.cells azero 74))
  obtain ⟨b, o, rfl, hb, hr⟩ := (HA.out.keep HK0.out).range ha
  have HR := Hid.mk' hr
  have n1 := new_cell ((w.alloc (.cells #[.int .i64 n, .string s, .slice (some ⟨b, o, none⟩) l.length c] 63)).alloc (.cells azero 74)) (acell a) 74 1 (.bool a.lst) rfl
  have HL := Hid.mk' (last_blocks w (.cells #[.int .i64 n, .string s, .slice (some ⟨b, o, none⟩) l.length c] 63) (.cells azero 74) (.cells (acell a) 74))
  simp only [World.size_alloc] at n1
  clear h hr hb
  unfold kcell
  go_enter Tryz.func48, Tryz.ntmps48
  go_wp2_with (first
    | (refine wpList_alloc_d rfl 6 rfl rfl (w.heap.size + 1 + 1) (by simp only [World.size_alloc]) ?_)
    | (refine wpList_alloc_a rfl rfl ?_)
    | (refine wpList_load_arg rfl _ rfl b (o + (l.length - 1) * 4) a (by rfl) HR.out ?_)
    | (refine wpList_store_newg rfl (.tmp 6) _ rfl a (w.heap.size + 1 + 1) (by simp only [World.size_alloc]) (by rfl) (by rfl) ?_))
  refine wp_region_held_drew (S := fun wx => wx.rangeAt (w.heap.size + 1 + 1) 0 (acell a).toList ∧ wx.cell? ⟨w.heap.size + 1 + 1, 1, none⟩ = some (.bool a.lst)) (by kernel_rfl) ⟨rangeAt_block HL.out.1 (acell a), n1⟩ (fun hS => ?_)
  refine takeH 0 (some 30) (.agg (acell a)) rfl rfl (by kernel_rfl) (by kernel_rfl) (by kernel_rfl) (fun _ _ _ h => h) (yieldsIf_load_mid (by rfl) 74 (.tmp 6) rfl (w.heap.size + 1 + 1) 0 (by rfl) (acell a).toList _ (fun _ h => h.1) Tryz.underlying74 rfl size74) hS ?_
  simp only [Act.put, List.setIfInBounds_toArray, List.set_cons_zero, List.set_cons_succ]
  refine takeH 1 (some 31) (.pointer (some ⟨w.heap.size + 1 + 1, 1, none⟩)) rfl rfl (by kernel_rfl) (by kernel_rfl) (by kernel_rfl) (fun _ _ _ h => h) (Or.inl ⟨by rfl, fun wx _ => by go_simp⟩) hS ?_
  simp only [Act.put, List.setIfInBounds_toArray, List.set_cons_zero, List.set_cons_succ]
  refine takeH 2 (some 32) (.bool a.lst) rfl rfl (by kernel_rfl) (by kernel_rfl) (by kernel_rfl) (fun _ _ _ h => h) (Or.inl ⟨by rfl, fun wx ⟨_, s1⟩ => by go_simp⟩) hS ?_
  simp only [Act.put, List.setIfInBounds_toArray, List.set_cons_zero, List.set_cons_succ]
  refine wpAnyH_ready (rs := [3]) (by kernel_rfl) (by simp) (AllReadyH.cons rfl (fun K hK => ?_) AllReadyH.nil)
  rw [if_pos (by rfl)]
  refine wp_store_row 74 (.tmp 4) (.tmp 30) rfl (w.heap.size + 1) (acell a) (by rfl) (by rfl) 74 azero HL.out.2.1 size74 rfl (acell_one a) ?_
  refine hK.out _ _ (S_keep _ _ _ hS (by omega)) (fun hS => ?_)
  clear hK
  simp only [Act.put, List.setIfInBounds_toArray]
  refine takeH 4 (some 5) (.bool a.lst) rfl rfl (by kernel_rfl) (by kernel_rfl) (by kernel_rfl) (fun _ _ _ h => h) (Or.inl ⟨by rfl, fun wx _ => by go_simp⟩) hS ?_
  simp only [Act.put]
  refine wpAnyH_done (by kernel_rfl) ?_ _
  go_wp2
  exact bodyPost_ret (results_cell_slot rfl _ _ (w.heap.size + 1) 74 (acell a) (0, 0) _ rfl (setRow_heap _ _ _ _ _ _ HL.out.2.1) Tryz.underlying74 rfl size74) rfl ⟨rfl, (HL.out.2.2.trans (Keeps.drewN _ _ 1)).setRow _ _ (Or.inl (by omega))⟩
end Go.Proofs.YtdlhdompemkjfaaGreatDoor
