import Derived.Test.YtfekgfimbkgkfabC2
namespace Go.Proofs.Ytfekgfimbkgkfab
open Go.RowKit Go.Maps

theorem heap_last (w : World) (o : Obj) : (w.alloc o).heap[w.heap.size]? = some o := (MapKept.heap_alloc w o).1
/-- What NewTable's loop holds. -/
def NtI (w wr : World) (n : Nat) (F : Dr) : Prop := TabAt wr (w.heap.size + 1) w.heap.size n F ∧ Keeps (fun _ => False) w wr
theorem NtI.keep {w a b : World} {n : Nat} {F : Dr} (h : NtI w a n F) (k : Keeps (fun _ => False) a b) : NtI w b n F := ⟨h.1.grow k, h.2.trans k⟩

theorem edges4 {W : World} {v : Value} {l : List Ed} (h : Row W v l.length (ecells l)) {k : Nat} (hk : k < l.length) : ∃ b o cap, v = .slice (some ⟨b, o, none⟩) l.length cap ∧ b < W.heap.size ∧
    W.cell? ⟨b, o + k * 4, none⟩ = some (.int .i64 (l.getD k ez).1) ∧ W.cell? ⟨b, o + k * 4 + 1, none⟩ = some (.string (l.getD k ez).2.1) ∧ W.cell? ⟨b, o + k * 4 + 2, none⟩ = some (.int .i64 (l.getD k ez).2.2.1) ∧ W.cell? ⟨b, o + k * 4 + 3, none⟩ = some (.bool (l.getD k ez).2.2.2) := by
  obtain ⟨b, o, cap, rfl, hb, hc⟩ := h.pos (by omega)
  refine ⟨b, o, cap, rfl, hb, ?_, ?_, ?_, ?_⟩
  · exact hc (k * 4 + 0) _ (ecells_get l k hk 0 _ rfl)
  · exact hc (k * 4 + 1) _ (ecells_get l k hk 1 _ rfl)
  · exact hc (k * 4 + 2) _ (ecells_get l k hk 2 _ rfl)
  · exact hc (k * 4 + 3) _ (ecells_get l k hk 3 _ rfl)

set_option maxHeartbeats 2000000 in
set_option maxRecDepth 100000 in
theorem newTable_any (w : World) (v : Value) (l : List Ed) (h : Row w v l.length (ecells l)) (hn : l.length < 10000000000000) (ho : ∀ e ∈ l, EdOk e) :
    Calls Try.prog 9 #[v] w fun e w' => e = .returned (.pointer (some ⟨w.heap.size + 1, 0, none⟩)) ∧ Hid (NtI w w' l.length (tabF l)) := by
  have hmm := @run_makeMap Try.prog
  have HR : Hid (Row w v l.length (ecells l)) := h
  obtain ⟨a, cap, rfl, _⟩ := h
  have HO : Hid (∀ e ∈ l, EdOk e) := ho
  clear ho
  go_enter Try.func9, Try.ntmps9
  go_wp2
  have HN : Hid (NtI w ((w.alloc (.map #[] 0)).alloc (.cells #[.map (some w.heap.size)] 59)) 0 tab0) := by
    refine ⟨⟨?_, _, (World.ownsMap_made w Try.prog 64 _).alloc _, tie_nil⟩, ((Keeps.refl _ w).alloc _).alloc _⟩
    have := heap_last (w.alloc (.map #[] 0)) (.cells #[.map (some w.heap.size)] 59); rwa [World.size_alloc] at this
  clear hmm
  go_loopw [11] (fun i wr => ∃ k : Nat, k ≤ l.length ∧ i = .int .i64 k ∧ Hid (NtI w wr k (tabF (l.take k)))) (fun i _ => l.length - (intOf i).toNat)
  case atStart => exact ⟨0, Nat.zero_le _, rfl, HN⟩
  case round =>
    obtain ⟨k, hk, rfl, HI⟩ := hrel
    by_cases h1 : k < l.length
    · obtain ⟨b, o, cap', e, hb, c0, c1, c2, c3⟩ := edges4 HR.out h1
      cases e
      have c0 := HI.out.2.cell c0 (fun h => h)
      have c1 := HI.out.2.cell c1 (fun h => h)
      have c2 := HI.out.2.cell c2 (fun h => h)
      have c3 := HI.out.2.cell c3 (fun h => h)
      have HS : Hid (tabF (l.take (k + 1)) = put1 (tabF (l.take k)) (l.getD k ez)) := by
        show _ = _
        rw [take_getD ez h1, tabF_snoc]
      have HE : Hid (EdOk (l.getD k ez)) := HO.out _ (by rw [List.getD_eq_getElem?_getD, List.getElem?_eq_getElem h1]; exact List.getElem_mem h1)
      generalize l.getD k ez = ed at c0 c1 c2 c3 HS HE
      obtain ⟨d, s, n, sub⟩ := ed
      simp only at c0 c1 c2 c3
      have h1' : (k : Int) < (l.length : Int) := by omega
      by_cases h2 : 1 ≤ n
      · have HF : Hid (put1 (tabF (l.take k)) (d, s, n, sub) = fun d' s' => if d' = d ∧ s' = s then (n, sub) else tabF (l.take k) d' s') := by
          show _ = _
          unfold put1; rw [if_pos h2]
        have HI2 : Hid (NtI w (wr.alloc (.cells #[.int .i64 d, .string s, .int .i64 n, .bool sub] 40)) k (tabF (l.take k))) := HI.out.keep ((Keeps.refl _ wr).alloc _)
        have hbl := heap_last wr (.cells #[.int .i64 d, .string s, .int .i64 n, .bool sub] 40)
        have hg1 : ¬ wr.heap.size = w.heap.size := by have := HI.out.1.lt.2; omega
        have hnl : k < maxLen := by unfold maxLen; omega
        go_wp2
        generalize wr.alloc (.cells #[.int .i64 d, .string s, .int .i64 n, .bool sub] 40) = W at HI2 hbl ⊢
        have x0 := cell0 HI2.out.1.cell
        have x1 : W.cell? ⟨wr.heap.size, 0, none⟩ = some (.int .i64 d) := by simp [World.cell?, hbl]
        have x2 : W.cell? ⟨wr.heap.size, 1, none⟩ = some (.string s) := by simp [World.cell?, hbl]
        have x3 : W.cell? ⟨wr.heap.size, 2, none⟩ = some (.int .i64 n) := by simp [World.cell?, hbl]
        have x4 : W.cell? ⟨wr.heap.size, 3, none⟩ = some (.bool sub) := by simp [World.cell?, hbl]
        have h26 : ∀ m, Calls Try.prog 26 #[.string s] (W.drewN m) fun e w' => e = .returned (.string s) ∧ ∃ w3, (Instr.mapUpdate 57 (.map (some w.heap.size)) (.agg #[.int .i64 d, .string s]) (.agg #[.int .i64 n, .bool sub])).run Try.prog w' = .ok () w3 ∧ Hid (NtI w w3 (k + 1) (tabF (l.take (k + 1)))) ∧
            (w'.cell? ⟨w.heap.size + 1, 0, none⟩ = some (.map (some w.heap.size)) ∧ w'.cell? ⟨wr.heap.size, 0, none⟩ = some (.int .i64 d) ∧ w'.cell? ⟨wr.heap.size, 1, none⟩ = some (.string s) ∧ w'.cell? ⟨wr.heap.size, 2, none⟩ = some (.int .i64 n) ∧ w'.cell? ⟨wr.heap.size, 3, none⟩ = some (.bool sub)) ∧
            (w3.cell? ⟨w.heap.size + 1, 0, none⟩ = some (.map (some w.heap.size)) ∧ w3.cell? ⟨wr.heap.size, 0, none⟩ = some (.int .i64 d) ∧ w3.cell? ⟨wr.heap.size, 1, none⟩ = some (.string s) ∧ w3.cell? ⟨wr.heap.size, 2, none⟩ = some (.int .i64 n) ∧ w3.cell? ⟨wr.heap.size, 3, none⟩ = some (.bool sub)) := by
          intro m
          refine (clone_any s (W.drewN m) (by have := HE.out.2.2; simp only at this; omega)).mono ?_
          rintro e w' ⟨rfl, hk⟩
          have hk : Keeps (fun _ => False) W w' := (Keeps.drewN _ W m).trans hk
          have hI3 := HI2.out.keep hk
          obtain ⟨w3, hrun, htab, hgr⟩ := put1_at hI3.1 hnl d s (n, sub) HE.out.1 (by have := HE.out.2.2; simp only at this; unfold maxLen; omega)
          have hk3 : Keeps (fun k => k = w.heap.size) w' w3 := Keeps.of hgr (by rintro k e; cases e; exact Or.inl rfl)
          refine ⟨rfl, w3, hrun, ⟨by rw [HS.out, HF.out]; exact htab, hI3.2.then hk3 (fun k hk => Or.inr (by omega))⟩, ⟨hk.cell x0 id, hk.cell x1 id, hk.cell x2 id, hk.cell x3 id, hk.cell x4 id⟩, ?_⟩
          exact ⟨hk3.cell (hk.cell x0 id) (by show ¬ (w.heap.size + 1 = w.heap.size); omega), hk3.cell (hk.cell x1 id) hg1, hk3.cell (hk.cell x2 id) hg1, hk3.cell (hk.cell x3 id) hg1, hk3.cell (hk.cell x4 id) hg1⟩
        clear HI2 hbl HF HS HE HI HR HO HN c0 c1 c2 c3
        go_region_held3 (fun wx => wx.cell? ⟨w.heap.size + 1, 0, none⟩ = some (.map (some w.heap.size)) ∧ wx.cell? ⟨wr.heap.size, 0, none⟩ = some (.int .i64 d) ∧ wx.cell? ⟨wr.heap.size, 1, none⟩ = some (.string s) ∧ wx.cell? ⟨wr.heap.size, 2, none⟩ = some (.int .i64 n) ∧ wx.cell? ⟨wr.heap.size, 3, none⟩ = some (.bool sub))
          (first | go_keep)
          (first
            | (go_at_call 26; refine (h26 _).mono ?_; rintro e w2 ⟨rfl, w3, hrun, H3, ⟨y0, y1, y2, y3, y4⟩, ⟨z0, z1, z2, z3, z4⟩⟩))
        all_goals
          go_wp2
          go_roundw
          case rel => exact ⟨k + 1, by omega, by go_num, H3⟩
          case measure => simp [intOf]; omega
      · have HF : Hid (put1 (tabF (l.take k)) (d, s, n, sub) = tabF (l.take k)) := by
          show _ = _
          unfold put1; rw [if_neg h2]
        go_wp2
        go_roundw
        case rel =>
          refine ⟨k + 1, by omega, by go_num, ?_⟩
          rw [HS.out, HF.out]
          have := HI.out.keep ((Keeps.refl _ wr).alloc (Obj.cells #[.int .i64 d, .string s, .int .i64 n, .bool sub] 40))
          exact ⟨⟨this.1.cell, by obtain ⟨D, ho, ht⟩ := this.1.map; exact ⟨D, ho.mono (by omega), ht⟩⟩, this.2⟩
        case measure => simp [intOf]; omega
    · have h1' : ¬ (k : Int) < (l.length : Int) := by omega
      go_wp2
      go_ret
      have e : k = l.length := by omega
      have := HI.out
      rw [e, List.take_length] at this
      exact ⟨rfl, this⟩
end Go.Proofs.Ytfekgfimbkgkfab
