import Derived.Test.YtfiekdgpdboolabM1
namespace Go.Proofs.Ytfiekdgpdboolab
open Go.RowKit Go.Maps
attribute [local go_sem ↓] Go.wp_at_zero Go.wp_at_succ

theorem lookup_eq {w : World} {b n : Nat} {D : DataW Unit} (hown : w.ownsMap Try.prog 3 ptrElem b n D) {k : Int} (hwf : (Lit.int .i64 k).wf = true) {p : Nat} (hat : ∀ z, D.atKey (.int .i64 k) z = .lit (.int .i64 p)) :
    (Instr.lookup 73 (.map (some b)) (.int .i64 k) false).run Try.prog w = .ok (.pointer (some ⟨p, 0, none⟩)) w := by
  obtain ⟨v, ps, hrun, hv⟩ := hown.lookup keyLaw Try.underlying73 (zero76 w) (zd := .nil) (zp := []) rfl (key := .int .i64 k) (keyOf_int_mk Try.underlying3 hwf)
  rw [hat] at hv
  obtain rfl := ptrElem_int hv
  exact hrun

theorem ownsRow_grow {w w' : World} {base : Nat} {e : TypeId} {size : Nat} {v : Value} {n : Nat} {xs : List Value} (h : w.ownsRow base e size v n xs) (hg : w.grownBy w' none) : w'.ownsRow base e size v n xs :=
  h.kept hg (by
    by_cases hv : v.ownBlock = none
    · exact Or.inl hv
    · exact Or.inr hv)

theorem heap_lt2 {w : World} {g i : Nat} {v : Value} (h : w.cell? ⟨g, i, none⟩ = some v) : g < w.heap.size := by
  rcases Nat.lt_or_ge g w.heap.size with h' | h'
  · exact h'
  · simp [World.cell?, Array.getElem?_eq_none h'] at h

theorem ownsRow_low {w : World} {base base' : Nat} {e : TypeId} {size : Nat} {v : Value} {n : Nat} {xs : List Value} (h : w.ownsRow base e size v n xs) (hb : base' ≤ base) : w.ownsRow base' e size v n xs := by
  obtain ⟨h1, h2⟩ := h
  refine ⟨h1, ?_⟩
  rcases h2 with h2 | ⟨g, cap, cur, hv, hg, r⟩
  · exact Or.inl h2
  · exact Or.inr ⟨g, cap, cur, hv, Nat.le_trans hb hg, r⟩

theorem news3 (w : World) (x y z : Value) (t : TypeId) (b : Nat) (hb : w.heap.size = b) : ∀ j u, [x, y, z][j]? = some u → (w.alloc (.cells #[x, y, z] t)).cell? ((⟨b, 0, none⟩ : Addr).add j) = some u := by
  intro j u hj
  have h1 := (MapKept.heap_alloc w (.cells #[x, y, z] t)).1
  rw [hb] at h1
  by_cases h0 : j = 0
  · subst h0; simpa [World.cell?, Addr.add, h1] using hj
  · simpa [World.cell?, Addr.add, h0, h1] using hj

theorem row62_ne {w : World} {base g k : Nat} {v : Value} {xs : List Value} {c : Array Value} {t : TypeId} {f : Nat × Nat} (hrow : w.ownsRow base 82 3 v k xs) (hp : w.heap[g]? = some (.cells c t f)) (ht : t ≠ 82) : v.ownBlock ≠ some g := by
  intro hob
  rcases hrow.2 with ⟨e1, _⟩ | ⟨g', cp, cur, e1, _, hgg, _⟩
  · rw [e1] at hob; cases hob
  · rw [e1] at hob; cases hob
    rw [hp] at hgg; simp at hgg; exact ht hgg.2.1

set_option maxHeartbeats 2000000 in
set_option maxRecDepth 20000 in
theorem doubts_dev (w : World) (F : Nat → Prop) (d : Nat) (S : St) (L : Lay) (h : DevAt w F d S L) (hs' : S.steps ≤ 900000000) :
    Calls Try.prog 27 #[.pointer (some ⟨d, 0, none⟩)] w fun e w' => ∃ v ks ng, e = .returned v ∧ Rising S ks ∧ w'.ownsRow w.heap.size 82 3 v ks.length (doubtCells S ng ks) ∧
      (∀ a ∈ ks, w.heap.size ≤ ng a ∧ w'.heap[ng a]? = some (.cells (u64s (S.pd a)).toArray 47 (0, 0))) ∧ Keeps (fun _ => False) w w' ∧ ks.length ≤ 1000000000 := by
  have hr := rising_dev w F d S L h (by omega)
  obtain ⟨i0, hi, hz0, hz1, hz2⟩ := info_parts info62
  have HV := Hid.mk' h
  clear h
  go_enter Try.func27, Try.ntmps27
  go_wp2_with (first
    | (go_at_call 46; refine hr.mono ?_; rintro e w2 ⟨p, ks, cap, rfl, hR, hks, hkl, hk2⟩
       have H2 := Hid.mk' (show Rising S ks ∧ (0 < ks.length → ∃ g, p = some ⟨g, 0, none⟩ ∧ w.heap.size ≤ g ∧ ∀ i, i < ks.length → w2.cell? ⟨g, i, none⟩ = some (.int .i64 (ks.getD i 0))) ∧ Keeps (fun _ => False) w w2 from ⟨hR, hks, hk2⟩)
       clear hR hks hk2))
  go_loopw [3, 9] (fun v i wr => ∃ (k : Nat) (ng : Int → Nat), k ≤ ks.length ∧ i = .int .i64 k ∧ wr.ownsRow w2.heap.size 82 3 v k (doubtCells S ng (ks.take k)) ∧ Hid ((∀ a ∈ ks.take k, w.heap.size ≤ ng a ∧ wr.heap[ng a]? = some (.cells (u64s (S.pd a)).toArray 47 (0, 0))) ∧ DevAt wr F d S L ∧ Keeps (fun _ => False) w wr ∧ (∀ g, p = some ⟨g, 0, none⟩ → 0 < ks.length → wr.heap[g]? = w2.heap[g]? ∧ ∀ i, i < ks.length → wr.cell? ⟨g, i, none⟩ = some (.int .i64 (ks.getD i 0))) ∧ w2.heap.size ≤ wr.heap.size))
    (fun _ i _ => ks.length - (intOf i).toNat)
  case atStart =>
    refine ⟨0, fun _ => 0, by omega, rfl, by simpa [doubtCells] using World.ownsRow_nil w2 w2.heap.size 82 3, by simp, HV.out.kept H2.out.2.2 (by simp), H2.out.2.2, fun g hg h0 => ⟨rfl, ?_⟩, Nat.le_refl _⟩
    obtain ⟨g', e1, _, e3⟩ := H2.out.2.1 h0
    rw [hg] at e1
    cases e1
    exact e3
  case round =>
    obtain ⟨k, ng, hk, rfl, hown, hrel⟩ := hrel
    obtain ⟨hng, hdev, hkp, hpk, hw2z⟩ := hrel
    by_cases hlt : k < ks.length
    · obtain ⟨g, rfl, hg1, _⟩ := H2.out.2.1 (by omega)
      have hcell := (hpk g rfl (by omega)).2 k hlt
      have hmem : ks.getD k 0 ∈ ks := by
        rw [List.getD_eq_getElem?_getD, List.getElem?_eq_getElem hlt]; exact List.getElem_mem _
      have hpd : S.pd (ks.getD k 0) ≠ [] := (H2.out.1.2 _).1 hmem
      have hdom := hdev.dom _ hpd
      have htk : ks.take (k + 1) = ks.take k ++ [ks.getD k 0] := by
        rw [List.take_succ_eq_append_getElem hlt, List.getD_eq_getElem?_getD, List.getElem?_eq_getElem hlt]; rfl
      obtain ⟨an, han⟩ := Int.eq_ofNat_of_zero_le hdom.1
      rw [han] at hpd hdom hcell htk
      have hsz := hdev.size
      have hwf : (Lit.int .i64 (an : Int)).wf = true := wf_i64 (by omega) (by omega)
      obtain ⟨n, hn⟩ : ∃ n, n = S.old.length := ⟨_, rfl⟩
      obtain ⟨c0, c1, c2, c3, c4, c5, c6⟩ := dev_cells hdev.dev
      rw [← hn] at c0 hsz
      have hlen := hdev.lens an
      obtain ⟨m, hm⟩ : ∃ m, m = (S.pd (an : Int)).length := ⟨_, rfl⟩
      obtain ⟨pc0, pc1, pf⟩ := pend_cells (hdev.pend an hpd).1
      have pc0' : wr.cell? ⟨L.pp an, 0, none⟩ = some (.slice (some ⟨L.gg an, 0, none⟩) m (L.cp an)) := by rw [hm]; exact pc0
      have HSK : Hid (∀ wx, Keeps (fun i => w.heap.size ≤ i) wr wx → wx.cell? ⟨d, 0, none⟩ = some (.slice (some ⟨L.ob, 0, none⟩) n n) ∧ wx.cell? ⟨d, 1, none⟩ = some (.map (some L.bm)) ∧ wx.cell? ⟨L.pp an, 0, none⟩ = some (.slice (some ⟨L.gg an, 0, none⟩) m (L.cp an)) ∧
          (Instr.lookup 73 (.map (some L.bm)) (.int .i64 an) false).run Try.prog wx = .ok (.pointer (some ⟨L.pp an, 0, none⟩)) wx) := by
        intro wx hk
        have f := HV.out.fsz
        exact ⟨hk.cell c0 (by have := f _ HV.out.fd; simp; omega), hk.cell c1 (by have := f _ HV.out.fd; simp; omega), hk.cell pc0' (by have := f _ (HV.out.fp _ hpd).1; simp; omega),
          lookup_eq (hk.map hdev.hmap (by have := f _ HV.out.fm; simp; omega)) hwf (hdev.at_some hpd)⟩
      have hvw : ∀ j, j < 8 → 0 ≤ S.old.getD (an + j) 0 ∧ S.old.getD (an + j) 0 ≤ 255 := fun j _ => by
        simp only [List.getD_eq_getElem?_getD]
        rcases hb : S.old[an + j]? with _ | b
        · simp
        · exact hdev.byts b (List.mem_of_getElem? hb)
      have HGA : Hid (∀ wx, Keeps (fun i => w.heap.size ≤ i) wr wx → Calls Try.prog 36 #[.slice (some ⟨L.ob, an, none⟩) (n - an) (n - an)] wx fun e w' => e = .returned (.int .u64 (wordAt S.old an)) ∧ w' = wx) := by
        intro wx hk
        refine gather_any L.ob an (n - an) (n - an) (fun i => S.old.getD (an + i) 0) wx (by omega) (fun j hj => ?_) hvw
        have h2 : wr.cell? ⟨L.ob, an + j, none⟩ = some (.int .u8 (S.old.getD (an + j) 0)) := cells_u8 hdev.bytes _ (by omega)
        exact hk.cell h2 (by have := HV.out.fsz _ HV.out.fo; simp; omega)
      have HCO : Hid (∀ wx, Keeps (fun i => w.heap.size ≤ i) wr wx → Calls Try.prog 49 #[.slice (some ⟨L.gg an, 0, none⟩) m (L.cp an)] wx fun e w' => e = .returned (.slice (some ⟨wx.heap.size, 0, none⟩) m m) ∧
          w'.heap[wx.heap.size]? = some (.cells (u64s (S.pd (an : Int))).toArray 47 (0, 0)) ∧ wx.grownBy w' none ∧ w'.heap.size = wx.heap.size + 1) := by
        intro wx hk
        have hrow := hk.row (hdev.pend an hpd).2 (fun g hg => by
          simp [Value.ownBlock] at hg; subst hg
          have := HV.out.fsz _ (HV.out.fp _ hpd).2; omega)
        refine copiedW_any (L.gg an) m (L.cp an) (u64s (S.pd (an : Int))) wx (by rw [hm]; simp [u64s]) (by omega) (fun j v hj => hrow.cells (g := L.gg an) rfl j v hj) (by intro v hv; simp only [u64s, List.mem_map] at hv; obtain ⟨_, _, rfl⟩ := hv; rfl) (row_lt hrow)
      have HREL := Hid.mk' (show (∀ a ∈ ks.take k, w.heap.size ≤ ng a ∧ wr.heap[ng a]? = some (.cells (u64s (S.pd a)).toArray 47 (0, 0))) ∧ DevAt wr F d S L ∧ Keeps (fun _ => False) w wr ∧ (∀ g, (some ⟨g, 0, none⟩ : Option Addr) = some ⟨g, 0, none⟩ → True) ∧ ks.take (k + 1) = ks.take k ++ [(an : Int)] ∧ m = (S.pd (an : Int)).length from ⟨hng, hdev, hkp, fun _ _ => trivial, htk, hm⟩)
      have HPK := Hid.mk' hpk
      have hK0 : Keeps (fun i => w.heap.size ≤ i) wr wr.drew := ⟨rfl, rfl, rfl, Nat.le_refl _, fun _ _ _ => rfl⟩
      have HK0 := Hid.mk' hK0
      have hwsz := hkp.size
      have hw2s : w2.heap.size ≤ wr.heap.size := hw2z
      obtain ⟨s1, s2, s3, s4⟩ := HSK.out wr (Keeps.refl _ _)
      have b1 : (0 : Int) ≤ (an : Int) := by omega
      have b2 : (an : Int) ≤ (n : Int) := by omega
      have b3 : ¬ n = an := by omega
      have b4 : an ≤ n := by omega
      clear hng hdev hkp hpk hmem hpd hdom htk han c0 c1 c2 c3 c4 c5 c6 pc0 pc1 pf pc0' hvw hn hm hK0 s4
      go_upto_region 5 with fail
      go_region_held3 (fun wx => wx.cell? ⟨d, 0, none⟩ = some (.slice (some ⟨L.ob, 0, none⟩) n n) ∧ wx.cell? ⟨d, 1, none⟩ = some (.map (some L.bm)) ∧ wx.cell? ⟨L.pp an, 0, none⟩ = some (.slice (some ⟨L.gg an, 0, none⟩) m (L.cp an)) ∧
          (Instr.lookup 73 (.map (some L.bm)) (.int .i64 an) false).run Try.prog wx = .ok (.pointer (some ⟨L.pp an, 0, none⟩)) wx)
        (first | exact HSK.out _ (Keeps.refl _ _) | exact HSK.out _ HK0.out | exact HSK.out _ HK5.out | exact HSK.out _ (HK5.out.step (World.grownBy_alloc _ _ none) (by simp)) | exact HSK.out _ HK6.out | go_keep)
        (first
          | (go_at_call 36; refine (HGA.out _ (by first | exact HK5.out | exact HK0.out)).mono ?_; rintro e w' ⟨rfl, hw⟩; subst w')
          | (go_at_call 49; refine (HCO.out _ HK0.out).mono ?_; rintro e w5 ⟨rfl, hb5, hg5, hs5⟩; have HK5 := Hid.mk' (HK0.out.step hg5 (by simp)))
          | (refine step_append_lies _ (by rfl) _ _ 57 (by rfl) w2.heap.size 82 i0 (.agg #[.int .i64 0, .int .u64 0, .slice none 0 0]) 3 40 Try.underlying57 hi hz0 hz1 hz2 rfl (by decide) u3 k (doubtCells S ng (ks.take k)) (by rfl) ((ownsRow_grow (w := wr) hown ⟨hg5.os, hg5.tape, hg5.output, hg5.size, hg5.block⟩).alloc _) ⟨wr.heap.size + 1, 0, none⟩ 1 1 [.int .i64 an, .int .u64 (wordAt S.old an), .slice (some ⟨wr.heap.size, 0, none⟩) m m] (by rfl) (by rfl) (news3 w5 _ _ _ 82 _ hs5) (by simp [Value.oneCell']) (by decide) (by unfold maxLen; omega) (by omega) (by have h9 : wr.heap.size ≤ w5.heap.size := hg5.size; simp; omega) (w5.heap.size + 1) (by simp) ?_; intro g2 c2 w6 hown6 hgrow6 hloc6 hlt6; have HK6 : Hid (Keeps (fun i => w.heap.size ≤ i) wr w6) := (HK5.out.step (World.grownBy_alloc _ _ none) (by simp)).step hgrow6 (fun j hj => Or.inl (Nat.le_trans H2.out.2.2.size (hown.lt j hj).1))))
      all_goals
        go_wp2
        go_roundw
        case rel =>
          obtain ⟨hng, hdev, hkp, _, htk, hm⟩ := HREL.out
          have hg5' : wr.grownBy w5 none := ⟨hg5.os, hg5.tape, hg5.output, hg5.size, hg5.block⟩
          have hs5' : w5.heap.size = wr.heap.size + 1 := hs5
          have hown5 := (ownsRow_grow hown hg5').alloc (.cells #[.int .i64 an, .int .u64 (wordAt S.old an), .slice (some ⟨wr.heap.size, 0, none⟩) m m] 82)
          have stay : ∀ (b : Nat) (c : Array Value) (t : TypeId) (f : Nat × Nat), wr.heap[b]? = some (.cells c t f) → t ≠ 82 → w6.heap[b]? = some (.cells c t f) := fun b c t f hb ht => by
            have l0 := heap_lt hb
            have h5 : (w5.alloc (.cells #[.int .i64 an, .int .u64 (wordAt S.old an), .slice (some ⟨wr.heap.size, 0, none⟩) m m] 82)).heap[b]? = some (.cells c t f) := (Below.heap_alloc _ _ _ (by omega)).trans ((hg5'.block _ l0 (by simp)).trans hb)
            exact (hgrow6.block _ (heap_lt h5) (Ne.symm (row62_ne hown5 h5 ht))).trans h5
          have hnew : w6.heap[wr.heap.size]? = some (.cells (u64s (S.pd (an : Int))).toArray 47 (0, 0)) := by
            have h5 : (w5.alloc (.cells #[.int .i64 an, .int .u64 (wordAt S.old an), .slice (some ⟨wr.heap.size, 0, none⟩) m m] 82)).heap[wr.heap.size]? = some (.cells (u64s (S.pd (an : Int))).toArray 47 (0, 0)) := (Below.heap_alloc _ _ _ (by omega)).trans hb5
            exact (hgrow6.block _ (heap_lt h5) (Ne.symm (row62_ne hown5 h5 (by decide)))).trans h5
          have hnot : ∀ a ∈ ks.take k, a ≠ (an : Int) := by
            intro a ha e
            have hp : (ks.take (k + 1)).Pairwise (· < ·) := H2.out.1.1.sublist (List.take_sublist _ _)
            rw [htk, List.pairwise_append] at hp
            have := hp.2.2 a ha an (by simp)
            omega
          refine ⟨k + 1, upd ng an wr.heap.size, by omega, by go_num, ?_, ?_, hdev.kept HK6.out (fun i hi e => by have := HV.out.fsz i hi; omega), ?_, ?_, Nat.le_trans hw2s HK6.out.size⟩
          · rw [htk, doubtCells_snoc, doubtCells_congr S (upd ng an wr.heap.size) ng (ks.take k) (fun a ha => upd_ne _ _ (hnot a ha))]
            rw [upd_same, ← hm]
            exact hown6
          · intro a ha
            rw [htk] at ha
            simp only [List.mem_append, List.mem_singleton] at ha
            rcases ha with ha | ha
            · rw [upd_ne _ _ (hnot a ha)]
              exact ⟨(hng a ha).1, stay _ _ _ _ (hng a ha).2 (by decide)⟩
            · subst ha
              rw [upd_same]
              exact ⟨hkp.size, hnew⟩
          · exact ⟨HK6.out.os.trans hkp.os, HK6.out.tape.trans hkp.tape, HK6.out.output.trans hkp.output, Nat.le_trans hkp.size HK6.out.size, fun i hi _ => (HK6.out.block i (Nat.lt_of_lt_of_le hi hkp.size) (by omega)).trans (hkp.block i hi (by simp))⟩
          · intro g' hg' h0
            cases hg'
            obtain ⟨q1, q2⟩ := HPK.out g rfl h0
            have lg := heap_lt2 (q2 0 h0)
            have lg2 : g < w2.heap.size := by
              rcases Nat.lt_or_ge g w2.heap.size with h' | h'
              · exact h'
              · rw [Array.getElem?_eq_none h'] at q1
                have := q2 0 h0
                simp [World.cell?, q1] at this
            have hk6 : w6.heap[g]? = wr.heap[g]? := by
              have e5 : (w5.alloc (.cells #[.int .i64 an, .int .u64 (wordAt S.old an), .slice (some ⟨wr.heap.size, 0, none⟩) m m] 82)).heap[g]? = wr.heap[g]? := (Below.heap_alloc _ _ _ (by omega)).trans (hg5'.block _ lg (by simp))
              refine (hgrow6.block _ (by simp; omega) ?_).trans e5
              intro e
              have := (hown.lt g e.symm).1
              omega
            exact ⟨hk6.trans q1, fun i hi => by rw [World.cell?_of_block (w := wr) hk6]; exact q2 i hi⟩
        case measure => simp [intOf]; omega
    · obtain rfl : k = ks.length := by omega
      rw [List.take_of_length_le (Nat.le_refl _)] at hown hng
      have HE := Hid.mk' (show Rising S ks ∧ wr.ownsRow w.heap.size 82 3 u3 ks.length (doubtCells S ng ks) ∧ (∀ a ∈ ks, w.heap.size ≤ ng a ∧ wr.heap[ng a]? = some (.cells (u64s (S.pd a)).toArray 47 (0, 0))) ∧ Keeps (fun _ => False) w wr ∧ ks.length ≤ 1000000000 from ⟨H2.out.1, ownsRow_low hown H2.out.2.2.size, hng, hkp, hkl⟩)
      clear hown hng hdev hkp hpk hw2z
      go_wp2
      go_ret
      exact ⟨u3, ks, ng, rfl, HE.out⟩

end Go.Proofs.Ytfiekdgpdboolab
