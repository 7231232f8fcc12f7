import Derived.Test.YtfiekdgpdboolabP2
namespace Go.Proofs.Ytfiekdgpdboolab
open Go.RowKit Go.Maps

theorem addr_add3 (b o j : Nat) : (⟨b, o, none⟩ : Addr).add j = ⟨b, o + j, none⟩ := by
  unfold Addr.add
  split
  · rename_i h; rw [h]; rfl
  · rfl

theorem splice8 (cur : List Value) (v : Int) (h : cur.length = 8) : (splice cur 0 (wordCells v)).length = 8 := by
  simp [splice, wordCells, h]

set_option maxHeartbeats 4000000 in
set_option maxRecDepth 20000 in
/-- Read of one word's bytes. -/
theorem read8_dev (w : World) (F : Nat → Prop) (d : Nat) (S : St) (L : Lay) (a : Nat) (h : DevAt w F d S L) (hs : S.steps ≤ 900000000) (hab : a + 8 ≤ S.old.length) (h8 : a % 8 = 0) :
    Calls Try.prog 22 #[.pointer (some ⟨d, 0, none⟩), .int .i64 a, .int .i64 8] w fun e w' => ∃ cs : List Value, cs.length = 8 ∧ e = .returned (.tuple #[.slice (some ⟨w.heap.size, 0, none⟩) 8 8, .int .i64 0]) ∧ w'.heap[w.heap.size]? = some (.cells cs.toArray 5 (0, 0)) ∧ Keeps (fun _ => False) w w' := by
  have hsz := h.size
  obtain ⟨c0, c1, _⟩ := dev_cells h.dev
  obtain ⟨N, hN⟩ : ∃ N : Nat, N = S.old.length := ⟨_, rfl⟩
  rw [← hN] at c0 hab hsz
  have hwi := within_yes d N N _ a 8 w c0 (by omega) (by omega) (by omega) (by omega) (by omega)
  have hcp : Calls Try.prog 44 #[.slice (some ⟨L.ob, a, none⟩) 8 (N - a)] w fun e w' => e = .returned (.slice (some ⟨w.heap.size, 0, none⟩) 8 8) ∧ w'.heap[w.heap.size]? = some (.cells (u8s ((S.old.drop a).take 8)).toArray 5 (0, 0)) ∧ w.grownBy w' none ∧ w'.heap.size = w.heap.size + 1 := by
    refine copied_any ⟨L.ob, a, none⟩ 8 (N - a) (u8s ((S.old.drop a).take 8)) w (by simp [u8s]; omega) (by omega) (fun j v hj => ?_) (fun v hv => ?_) (heap_lt h.bytes)
    · rw [addr_add3]
      have hj8 : j < 8 := by have := (List.getElem?_eq_some_iff.1 hj).1; simp [u8s] at this; omega
      have e1 : (u8s ((S.old.drop a).take 8))[j]? = some (.int .u8 (S.old.getD (a + j) 0)) := by
        have : a + j < S.old.length := by omega
        simp [u8s, hj8, List.getElem?_drop, List.getD_eq_getElem?_getD, this]
      rw [e1] at hj
      rw [← hj]
      exact cells_u8 h.bytes (a + j) (by omega)
    · simp only [u8s, List.mem_map] at hv; obtain ⟨_, _, rfl⟩ := hv; rfl
  have hat : (a : Int).tmod 8 = 0 := by rw [Int.tmod_eq_emod_of_nonneg (by omega)]; omega
  have hl8 : (u8s ((S.old.drop a).take 8)).length = 8 := by simp [u8s]; omega
  generalize u8s ((S.old.drop a).take 8) = cs0 at *
  have HV := Hid.mk' h
  have HCL := Hid.mk' hl8
  have b1 : (0 : Int) ≤ (a : Int) := by omega
  have b2 : (a : Int) ≤ (a : Int) + 8 := by omega
  have b3 : (a : Int) + 8 ≤ (N : Int) := by omega
  have b5 : a ≤ N := by omega
  have b6 : a ≤ a + 8 := by omega
  have b7 : a + 8 ≤ N := by omega
  have hca : ¬ N = a := by omega
  clear h hN hab h8 hl8
  go_enter Try.func22, Try.ntmps22
  go_wp2_with (first
    | (go_at_call 34; refine hwi.mono ?_; rintro e w' ⟨rfl, hw⟩; subst w'; clear hwi)
    | (go_at_call 44; refine hcp.mono ?_; rintro e w1 ⟨rfl, h1, h2, h3⟩; have H1 := Hid.mk' (show w1.heap[w.heap.size]? = some (.cells cs0.toArray 5 (0, 0)) ∧ Keeps (fun _ => False) w w1 from ⟨h1, Keeps.of h2 (by simp)⟩); clear h1 h2 h3 hcp))
  go_loopw [9] (fun i wr => ∃ t : Nat, t ≤ 1 ∧ i = .int .i64 ((a + 8 * t : Nat) : Int) ∧ Hid (∃ cs : List Value, cs.length = 8 ∧ wr.heap[w.heap.size]? = some (.cells cs.toArray 5 (0, 0)) ∧ Keeps (fun _ => False) w wr)) (fun i _ => a + 16 - (intOf i).toNat)
  case atStart => exact ⟨0, by omega, by first | rfl | (congr 1; omega), cs0, HCL.out, H1.out.1, H1.out.2⟩
  case round =>
    obtain ⟨t, ht1, rfl, hrel⟩ := hrel
    by_cases ht : t = 0
    · subst ht
      have hlt' : (a : Int) < (a : Int) + 8 := by omega
      have hwf : (Lit.int .i64 (a : Int)).wf = true := wf_i64 (by omega) (by omega)
      rw [show a + 8 * 0 = a by omega]
      obtain ⟨cs, hcl, hcb, hkp⟩ := hrel.out
      have hdv := HV.out.kept hkp (by simp)
      obtain ⟨_, c1', _⟩ := dev_cells hdv.dev
      have hm := hdv.hmap
      by_cases hp : S.pd (a : Int) = []
      · have hat' := hdv.at_none hp
        clear hdv hp hcl hcb hkp
        go_wp2_with (first
          | (at_lookup; refine wpList_lookup_none _ rfl _ _ rfl L.bm L.nn L.D rfl hm (a : Int) rfl hwf hat' ?_))
        go_roundw
        case rel => exact ⟨1, by omega, by first | (congr 1; omega) | go_num, hrel.out⟩
        case measure => simp [intOf]; omega
      · have hat' := hdv.at_some hp
        obtain ⟨p1, p2⟩ := hdv.pend _ hp
        have hlen := hdv.lens (a : Int)
        have hpos : 0 < (S.pd (a : Int)).length := List.length_pos_iff.2 hp
        have hno := now_any (L.pp (a : Int)) (L.gg (a : Int)) (S.pd (a : Int)).length (L.cp (a : Int)) (S.ms (a : Int)) ((S.pd (a : Int)).getD ((S.pd (a : Int)).length - 1) 0) (u64s (S.pd (a : Int))) wr p1 p2 hpos (by omega) (by
          have hl1 : (S.pd (a : Int)).length - 1 < (S.pd (a : Int)).length := by omega
          unfold u64s
          rw [List.getElem?_map, List.getElem?_eq_getElem hl1, List.getD_eq_getElem?_getD, List.getElem?_eq_getElem hl1]
          rfl)
        generalize (S.pd (a : Int)).getD ((S.pd (a : Int)).length - 1) 0 = nv at *
        have HLAY : Hid (∀ w2, Keeps (fun _ => False) wr w2 → Calls Try.prog 41 #[.slice (some ⟨w.heap.size, 0, none⟩) 8 8, .int .i64 0, .int .u64 nv] w2 fun e w' => e = .returned (.tuple #[]) ∧ (∃ cs : List Value, cs.length = 8 ∧ w'.heap[w.heap.size]? = some (.cells cs.toArray 5 (0, 0)) ∧ Keeps (fun _ => False) w w')) := fun w2 k2 => by
          have hb2 := (k2.block _ (heap_lt hcb) (by simp)).trans hcb
          have := lay_any w.heap.size 8 0 nv cs w2 hb2 hcl (by omega) (by omega)
          exact this.mono fun e w' ⟨e1, e2, e3⟩ => ⟨e1, _, splice8 _ _ hcl, e2, (hkp.trans k2).step e3 (by simp)⟩
        generalize L.pp (a : Int) = pp at *
        clear hdv hp p1 p2 hlen hpos hcl hcb hkp hrel
        go_wp2_with (first
          | (at_lookup; refine wpList_lookup_ptr _ rfl _ _ rfl L.bm L.nn L.D rfl hm (a : Int) rfl hwf pp hat' ?_)
          | (go_at_call 45; refine hno.mono ?_; rintro e w2 ⟨rfl, q, hw2⟩
             have hly := HLAY.out w2 (keeps_drewN' _ _ _ _ hw2)
             clear hno hw2)
          | (go_at_call 41; refine hly.mono ?_; rintro e w3 ⟨rfl, hx1⟩; have H3 := Hid.mk' hx1; clear hly hx1))
        go_roundw
        case rel => exact ⟨1, by omega, by first | (congr 1; omega) | go_num, H3.out⟩
        case measure => simp [intOf]; omega
    · obtain rfl : t = 1 := by omega
      have hlt' : ¬ ((a + 8 * 1 : Nat) : Int) < (a : Int) + 8 := by omega
      obtain ⟨T, hT⟩ : ∃ T, T = a + 8 * 1 := ⟨_, rfl⟩
      rw [← hT] at hlt' ⊢
      go_wp2
      go_ret2
      obtain ⟨cs, q1, q2, q3⟩ := hrel.out
      exact ⟨cs, q1, rfl, q2, q3⟩

end Go.Proofs.Ytfiekdgpdboolab
