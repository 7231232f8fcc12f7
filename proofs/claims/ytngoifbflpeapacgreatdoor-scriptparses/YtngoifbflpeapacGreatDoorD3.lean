import Derived.Test.YtngoifbflpeapacGreatDoorD2
namespace Go.Proofs.YtngoifbflpeapacGreatDoor
open Go.RowKit Go.Maps
set_option maxRecDepth 100000

theorem wcell_one (x : Wd) : (wcell x).all (·.oneCell') = true := by simp [wcell, Value.oneCell']
theorem fw_quoted {t : Bs} (h : t.getD 0 0 = 34) : fw t = fwQ t := if_pos h
theorem fw_plain {t : Bs} (h : ¬ t.getD 0 0 = 34) : fw t = fwP t := if_neg h
theorem wpList_store_w {ops : Array Oper} {rest : List Oper} {o : Oper} {a : Act} {W : World} {Q : Exit → Act → World → Prop} (hgd : o.guard = none) (x y : Operand) (ho : o.op = .store 73 x y)
    (g : Nat) (b : Wd) (hx : a.eval x = .pointer (some ⟨g, 0, none⟩)) (hy : a.eval y = .agg (wcell b)) (old : Array Value) (hg : W.heap[g]? = some (.cells old 73 (0, 0))) (hold : old.size = 2)
    (h : ∀ W' : World, W'.heap[g]? = some (.cells (wcell b) 73 (0, 0)) → Keeps (fun k => k = g) W W' → wpList Tryz.prog ops Q rest (a.put o.dst undef) W') : wpList Tryz.prog ops Q (o :: rest) a W := by
  refine wpList_store_row hgd 73 x y ho g (wcell b) hx hy 73 old hg size73 hold (wcell_one b) ?_
  refine h _ ?_ ?_
  · exact setRow_heap _ _ _ _ _ _ hg
  · exact Keeps.setRow (Keeps.refl _ W) g _ (Or.inr rfl)

set_option maxHeartbeats 4000000 in
theorem firstWord_any (w : World) (s : ByteArray) (hs : s.size ≤ 1000000) (h0 : 0 < s.size) :
    Calls Tryz.prog 34 #[.string s] w fun e w' => e = .returned (.tuple #[.agg (wcell (fw s.data.toList).1), .int .i64 ((fw s.data.toList).2 : Int)]) ∧ Keeps (fun _ => False) w w' := by
  have j0 : (0 : Int) < (s.size : Int) := by omega
  have hb0 := byte_getD s 0 h0
  have HS := Hid.mk' (size_len s)
  by_cases c0 : s[0] = 34
  · rw [fw_quoted (by rw [← hb0]; exact c0)]
    have k0 := by_nn (k := 34) 34 rfl c0
    have h42 := fun w => unquote_any w s hs
    clear c0 hb0
    cases hu : uq s.data.toList with
    | none =>
      obtain ⟨e1, e2, e3⟩ := uqT_none hu
      rw [e1, e2, e3] at h42
      have hf : fwQ s.data.toList = (⟨⟨#[]⟩, false⟩, 0) := by unfold fwQ; rw [hu]
      rw [hf]
      clear hu e1 e2 e3 hf
      go_enter Tryz.func34, Tryz.ntmps34
      go_wp2_with (first
        | (go_at_call 59; refine (h42 _).mono ?_; clear h42; rintro e w1 ⟨rfl, hk1⟩; have HK := Hid.mk' hk1; clear hk1)
        | (refine wpList_store_w rfl (.tmp 2) _ rfl w.heap.size ⟨⟨#[]⟩, false⟩ (by rfl) (by rfl) _ (HK.out.at (heap_last w _) id) rfl ?_; intro W' hb hk; have HW := Hid.mk' (And.intro hb hk); clear hb hk))
      exact bodyPost_ret (results_cell_slot rfl _ _ w.heap.size 73 (wcell ⟨⟨#[]⟩, false⟩) (0, 0) _ rfl HW.out.1 Tryz.underlying73 rfl size73) rfl ⟨rfl, ((((Keeps.refl (fun _ => False) w).alloc _).trans HK.out).then HW.out.2 (fun k e => Or.inr (by omega)))⟩
    | some an =>
      obtain ⟨a, n⟩ := an
      obtain ⟨e1, e2, e3⟩ := uqT_some hu
      rw [e1, e2, e3] at h42
      have hle := uq_le hu
      rw [← HS.out] at hle
      have hf : fwQ s.data.toList = if n < s.data.toList.length ∧ s.data.toList.getD n 0 ≠ 32 then (⟨⟨#[]⟩, false⟩, 0) else (⟨mkB a, true⟩, n) := by unfold fwQ; rw [hu]
      rw [← HS.out] at hf
      clear hu e1 e2 e3
      by_cases h1 : n < s.size
      · have h1' : (n : Int) < (s.size : Int) := by omega
        rw [← byte_getD s n h1] at hf
        by_cases c32 : s[n] = 32
        · have k32 := by_nn (k := 32) 32 rfl c32
          rw [if_neg (fun h => h.2 c32)] at hf
          rw [hf]
          clear hf c32
          go_enter Tryz.func34, Tryz.ntmps34
          go_wp2_with (first
            | (go_at_call 59; refine (h42 _).mono ?_; clear h42; rintro e w1 ⟨rfl, hk1⟩; have HK := Hid.mk' hk1; clear hk1)
            | (refine wpList_store_w rfl (.tmp 2) _ rfl w.heap.size ⟨mkB a, true⟩ (by rfl) (by rfl) _ (HK.out.at (heap_last w _) id) rfl ?_; intro W' hb hk; have HW := Hid.mk' (And.intro hb hk); clear hb hk))
          exact bodyPost_ret (results_cell_slot rfl _ _ w.heap.size 73 (wcell ⟨mkB a, true⟩) (0, 0) _ rfl HW.out.1 Tryz.underlying73 rfl size73) rfl ⟨rfl, ((((Keeps.refl (fun _ => False) w).alloc _).trans HK.out).then HW.out.2 (fun k e => Or.inr (by omega)))⟩
        · have k32 := by_ne (k := 32) 32 rfl c32
          rw [if_pos ⟨h1, c32⟩] at hf
          rw [hf]
          clear hf c32
          go_enter Tryz.func34, Tryz.ntmps34
          go_wp2_with (first
            | (go_at_call 59; refine (h42 _).mono ?_; clear h42; rintro e w1 ⟨rfl, hk1⟩; have HK := Hid.mk' hk1; clear hk1)
            | (refine wpList_store_w rfl (.tmp 2) _ rfl w.heap.size ⟨⟨#[]⟩, false⟩ (by rfl) (by rfl) _ (HK.out.at (heap_last w _) id) rfl ?_; intro W' hb hk; have HW := Hid.mk' (And.intro hb hk); clear hb hk))
          exact bodyPost_ret (results_cell_slot rfl _ _ w.heap.size 73 (wcell ⟨⟨#[]⟩, false⟩) (0, 0) _ rfl HW.out.1 Tryz.underlying73 rfl size73) rfl ⟨rfl, ((((Keeps.refl (fun _ => False) w).alloc _).trans HK.out).then HW.out.2 (fun k e => Or.inr (by omega)))⟩
      · have h1' : ¬ (n : Int) < (s.size : Int) := by omega
        rw [if_neg (fun h => h1 h.1)] at hf
        rw [hf]
        clear hf
        go_enter Tryz.func34, Tryz.ntmps34
        go_wp2_with (first
          | (go_at_call 59; refine (h42 _).mono ?_; clear h42; rintro e w1 ⟨rfl, hk1⟩; have HK := Hid.mk' hk1; clear hk1)
          | (refine wpList_store_w rfl (.tmp 2) _ rfl w.heap.size ⟨mkB a, true⟩ (by rfl) (by rfl) _ (HK.out.at (heap_last w _) id) rfl ?_; intro W' hb hk; have HW := Hid.mk' (And.intro hb hk); clear hb hk))
        exact bodyPost_ret (results_cell_slot rfl _ _ w.heap.size 73 (wcell ⟨mkB a, true⟩) (0, 0) _ rfl HW.out.1 Tryz.underlying73 rfl size73) rfl ⟨rfl, ((((Keeps.refl (fun _ => False) w).alloc _).trans HK.out).then HW.out.2 (fun k e => Or.inr (by omega)))⟩
  · rw [fw_plain (by rw [← hb0]; exact c0)]
    have k0 := by_ne (k := 34) 34 rfl c0
    have h41 := fun w => plainWord_any w s hs
    clear c0 hb0
    generalize fwP s.data.toList = P at *
    obtain ⟨b, n⟩ := P
    go_enter Tryz.func34, Tryz.ntmps34
    go_wp2_with (first
      | (go_at_call 58; refine (h41 _).mono ?_; clear h41; rintro e w1 ⟨rfl, hk1⟩; have HK := Hid.mk' hk1; clear hk1)
      | (refine wpList_store_w rfl (.tmp 2) _ rfl w.heap.size b (by rfl) (by rfl) _ (HK.out.at (heap_last w _) id) rfl ?_; intro W' hb hk; have HW := Hid.mk' (And.intro hb hk); clear hb hk))
    exact bodyPost_ret (results_cell_slot rfl _ _ w.heap.size 73 (wcell b) (0, 0) _ rfl HW.out.1 Tryz.underlying73 rfl size73) rfl ⟨rfl, ((((Keeps.refl (fun _ => False) w).alloc _).trans HK.out).then HW.out.2 (fun k e => Or.inr (by omega)))⟩
end Go.Proofs.YtngoifbflpeapacGreatDoor

