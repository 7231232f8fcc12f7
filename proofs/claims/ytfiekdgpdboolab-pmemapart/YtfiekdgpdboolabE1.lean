import Derived.Test.YtfiekdgpdboolabC3
import Derived.Deep.DeepCutAuto
namespace Go.Proofs.Ytfiekdgpdboolab
open Go.RowKit Go.Maps

/-- The value that a choice takes of a word in doubt: none: its old one. -/
def St.pick (S : St) (bs : List Int) (x : Int × Int) : List Int :=
  if 0 < x.2 % ((S.pd x.1).length + 1 : Int) then layB bs x.1.toNat ((S.pd x.1).getD (x.2 % ((S.pd x.1).length + 1 : Int) - 1).toNat 0) else bs

/-- What a crash leaves: the words in doubt (rising) with their choices. -/
def St.crash (S : St) (ks cs : List Int) : List Int := (ks.zip cs).foldl S.pick S.old

/-- The rising list of the words in doubt. -/
def Rising (S : St) (ks : List Int) : Prop := ks.Pairwise (· < ·) ∧ ∀ a, a ∈ ks ↔ S.pd a ≠ []

theorem pick_len {S : St} {bs : List Int} {x : Int × Int} (h0 : 0 ≤ x.1) (h1 : x.1 + 8 ≤ bs.length) : (S.pick bs x).length = bs.length := by
  unfold St.pick
  split
  · exact layB_len _ _ _ (by omega)
  · rfl

theorem pick_byts {S : St} {bs : List Int} {x : Int × Int} (h : ∀ b ∈ bs, 0 ≤ b ∧ b ≤ 255) : ∀ b ∈ S.pick bs x, 0 ≤ b ∧ b ≤ 255 := by
  unfold St.pick
  split
  · exact layB_mem _ _ _ h
  · exact h

theorem fold_len {S : St} (n : Nat) : ∀ (l : List (Int × Int)) (bs : List Int), bs.length = n → (∀ x ∈ l, 0 ≤ x.1 ∧ x.1 + 8 ≤ n) → (l.foldl S.pick bs).length = n
  | [], _, h, _ => h
  | x :: l, _, h, hl => by
    obtain ⟨h1, h2⟩ := hl x (by simp)
    exact fold_len n l _ ((pick_len h1 (by omega)).trans h) (fun y hy => hl y (by simp [hy]))
theorem fold_byts {S : St} : ∀ (l : List (Int × Int)) (bs : List Int), (∀ b ∈ bs, 0 ≤ b ∧ b ≤ 255) → ∀ b ∈ l.foldl S.pick bs, 0 ≤ b ∧ b ≤ 255
  | [], _, h => h
  | _ :: l, _, h => fold_byts l _ (pick_byts h)

theorem zip_take_succ (ks cs : List Int) (k : Nat) (h1 : k < ks.length) (h2 : k < cs.length) : (ks.zip cs).take (k + 1) = (ks.zip cs).take k ++ [(ks.getD k 0, cs.getD k 0)] := by
  rw [List.take_succ_eq_append_getElem (by simp; omega)]
  simp [List.getD_eq_getElem?_getD, h1, h2]

/-- What a crash has laid by its k-th round. -/
def St.crashTo (S : St) (ks cs : List Int) (k : Nat) : List Int := ((ks.zip cs).take k).foldl S.pick S.old

theorem crashTo_succ (S : St) (ks cs : List Int) (k : Nat) (h1 : k < ks.length) (h2 : k < cs.length) : S.crashTo ks cs (k + 1) = S.pick (S.crashTo ks cs k) (ks.getD k 0, cs.getD k 0) := by
  unfold St.crashTo
  rw [zip_take_succ ks cs k h1 h2, List.foldl_append]
  rfl

theorem crashTo_all (S : St) (ks cs : List Int) (k : Nat) (h : ks.length ≤ k ∨ cs.length ≤ k) : S.crashTo ks cs k = S.crash ks cs := by
  unfold St.crashTo St.crash
  rw [List.take_of_length_le (by simp; omega)]

theorem Keeps.cell {X : Nat → Prop} {a b : World} (h : Keeps X a b) {p : Addr} {v : Value} (hc : a.cell? p = some v) (hx : ¬ X p.block) : b.cell? p = some v := by
  have hlt : p.block < a.heap.size := by
    rcases Nat.lt_or_ge p.block a.heap.size with h' | h'
    · exact h'
    · simp [World.cell?, Array.getElem?_eq_none h'] at hc
  rw [World.cell?_of_block (w := a) (h.block _ hlt hx)]; exact hc

set_option maxHeartbeats 1000000 in
set_option maxRecDepth 20000 in
theorem crash_walk (hrising : ∀ (w : World) (F : Nat → Prop) (d : Nat) (S : St) (L : Lay), DevAt w F d S L → S.steps ≤ 1000000000 →
      Calls Try.prog 46 #[.pointer (some ⟨d, 0, none⟩)] w fun e w' => ∃ p ks cap, e = .returned (.slice p ks.length cap) ∧ Rising S ks ∧ (0 < ks.length → ∃ g, p = some ⟨g, 0, none⟩ ∧ w.heap.size ≤ g ∧ ∀ i, i < ks.length → w'.cell? ⟨g, i, none⟩ = some (.int .i64 (ks.getD i 0))) ∧ ks.length ≤ 1000000000 ∧ Keeps (fun _ => False) w w')
    (w : World) (F : Nat → Prop) (d : Nat) (S : St) (L : Lay) (h : DevAt w F d S L) (hs' : S.steps ≤ 900000000) (hn0 : 8 ≤ S.old.length) (pc : Option Addr) (cc : Nat) (cs : List Int) (hcl : cs.length ≤ maxLen)
    (hpc : 0 < cs.length → ∃ cb co, pc = some ⟨cb, co, none⟩ ∧ cb < w.heap.size ∧ ∀ i, i < cs.length → w.cell? ⟨cb, co + i, none⟩ = some (.int .i64 (cs.getD i 0))) :
    Calls Try.prog 23 #[.pointer (some ⟨d, 0, none⟩), .slice pc cs.length cc] w fun e w' => ∃ ks, Rising S ks ∧ e = .returned (.slice (some ⟨w.heap.size, 0, none⟩) S.old.length S.old.length) ∧
      w'.heap[w.heap.size]? = some (.cells (u8s (S.crash ks cs)).toArray 5 (0, 0)) ∧ Keeps (fun _ => False) w w' := by
  unfold maxLen at hcl
  obtain ⟨c0, c1, c2, c3, c4, c5, c6⟩ := dev_cells h.dev
  have hsz := h.size
  have hcop := copied_any ⟨L.ob, 0, none⟩ S.old.length S.old.length (u8s S.old) w (by simp [u8s]) (by omega) (fun j v hj => by
    have := h.bytes
    by_cases h0 : j = 0
    · subst h0; simpa [World.cell?, Addr.add, this] using hj
    · simpa [World.cell?, Addr.add, h0, this] using hj) (by intro v hv; simp only [u8s, List.mem_map] at hv; obtain ⟨_, _, rfl⟩ := hv; rfl) (heap_lt h.bytes)
  have HV : Hid (DevAt w F d S L) := h
  have HPC : Hid (0 < cs.length → ∃ cb co, pc = some ⟨cb, co, none⟩ ∧ cb < w.heap.size ∧ ∀ i, i < cs.length → w.cell? ⟨cb, co + i, none⟩ = some (.int .i64 (cs.getD i 0))) := hpc
  clear h hpc c1 c2 c3 c4 c5 c6
  go_enter Try.func23, Try.ntmps23
  go_wp2_with (first
    | (go_at_call 44; refine hcop.mono ?_; rintro e w1 ⟨rfl, hb1, hg1, hs1⟩
       have H1 : Hid (w1.heap[w.heap.size]? = some (.cells (u8s S.old).toArray 5 (0, 0)) ∧ w.grownBy w1 none ∧ w1.heap.size = w.heap.size + 1) := ⟨hb1, hg1, hs1⟩
       have HD1 : Hid (DevAt w1 F d S L) := HV.out.kept (X := fun _ => False) (Keeps.of hg1 (by simp)) (by simp)
       clear hb1 hg1 hs1)
    | (go_at_call 46; refine (hrising _ F d S L HD1.out (by omega)).mono ?_; rintro e w2 ⟨p, ks, cap, rfl, hR, hks, hkl, hk2⟩
       have H2 : Hid (Rising S ks ∧ (0 < ks.length → ∃ g, p = some ⟨g, 0, none⟩ ∧ w1.heap.size ≤ g ∧ ∀ i, i < ks.length → w2.cell? ⟨g, i, none⟩ = some (.int .i64 (ks.getD i 0))) ∧ Keeps (fun _ => False) w1 w2) := ⟨hR, hks, hk2⟩
       clear hR hks hk2))
  obtain ⟨hb1, hg1, hs1⟩ := H1.out
  obtain ⟨hR, hks, hk2⟩ := H2.out
  have HB2 : Hid (w2.heap[w.heap.size]? = some (.cells (u8s S.old).toArray 5 (0, 0))) := (hk2.block _ (by omega) (by simp)).trans hb1
  have HK2 : Hid (Keeps (fun _ => False) w w2) := (Keeps.of hg1 (by simp)).trans hk2
  have HD2 : Hid (DevAt w2 F d S L) := HD1.out.kept hk2 (by simp)
  have HKS : Hid (0 < ks.length → ∃ g, p = some ⟨g, 0, none⟩ ∧ g ≠ w.heap.size ∧ ∀ i, i < ks.length → w2.cell? ⟨g, i, none⟩ = some (.int .i64 (ks.getD i 0))) := fun h0 => by
    obtain ⟨g, e1, e2, e3⟩ := hks h0
    exact ⟨g, e1, by omega, e3⟩
  have HR : Hid (Rising S ks) := hR
  have HFN : Hid (¬ F w.heap.size) := fun hf => by have := HV.out.fsz _ hf; omega
  clear hb1 hg1 hs1 hR hks hk2 H1 H2 HD1 hcop
  go_loopw [18] (fun i wr => ∃ k : Nat, k ≤ ks.length ∧ k ≤ cs.length ∧ i = .int .i64 k ∧ Hid (wr.heap[w.heap.size]? = some (.cells (u8s (S.crashTo ks cs k)).toArray 5 (0, 0)) ∧ DevAt wr F d S L ∧ Keeps (fun i => i = w.heap.size) w2 wr))
    (fun i _ => ks.length - (intOf i).toNat)
  case atStart => exact ⟨0, by omega, by omega, rfl, HB2.out, HD2.out, Keeps.refl _ _⟩
  case round =>
    obtain ⟨k, hk, hkc, rfl, hrel⟩ := hrel
    obtain ⟨hb, hdev, hkp⟩ := hrel
    have HKF : Hid (Keeps (fun _ => False) w wr) := by
      have a := HK2.out
      exact ⟨hkp.os.trans a.os, hkp.tape.trans a.tape, hkp.output.trans a.output, Nat.le_trans a.size hkp.size, fun i hi _ => (hkp.block i (Nat.lt_of_lt_of_le hi a.size) (by omega)).trans (a.block i hi (by simp))⟩
    by_cases hlt : k < ks.length
    · obtain ⟨g, rfl, hgn, hgc⟩ := HKS.out (by omega)
      have hcell := hkp.cell (hgc k hlt) hgn
      have hmem : ks.getD k 0 ∈ ks := by
        rw [List.getD_eq_getElem?_getD, List.getElem?_eq_getElem hlt]; exact List.getElem_mem _
      have hpd : S.pd (ks.getD k 0) ≠ [] := (HR.out.2 _).1 hmem
      have hdom := hdev.dom _ hpd
      by_cases hlc : k < cs.length
      · obtain ⟨cb, co, rfl, hcb, hcc⟩ := HPC.out (by omega)
        have hch : wr.cell? ⟨cb, co + k, none⟩ = some (.int .i64 (cs.getD k 0)) := by
          have h1 := HK2.out.cell (hcc k hlc) (by simp)
          exact hkp.cell h1 (by simp; omega)
        have hsucc := crashTo_succ S ks cs k hlt hlc
        obtain ⟨an, han⟩ := Int.eq_ofNat_of_zero_le hdom.1
        rw [han] at hpd hdom hcell hsucc
        generalize hcv : cs.getD k 0 = c at hch hsucc
        obtain ⟨m, hm⟩ : ∃ m, m = (S.pd (an : Int)).length := ⟨_, rfl⟩
        obtain ⟨r, hr⟩ : ∃ r, r = c % ((m : Int) + 1) := ⟨_, rfl⟩
        have hr0 : 0 ≤ r := by rw [hr]; exact Int.emod_nonneg _ (by omega)
        have hr1 : r < (m : Int) + 1 := by rw [hr]; exact Int.emod_lt_of_pos _ (by omega)
        have hmm : (m : Int) ≤ 900000000 := by have := hdev.lens an; rw [hm]; omega
        have hrem := remainder_any c ((m : Int) + 1) wr (by omega) (by omega)
        rw [← hr] at hrem
        have hmp := hdev.hmap
        have hat := hdev.at_some hpd
        have hwf : (Lit.int .i64 (an : Int)).wf = true := wf_i64 (by omega) (by omega)
        obtain ⟨k0, k1, k2, k3, k4, k5, k6⟩ := dev_cells hdev.dev
        obtain ⟨pc0, pc1, pf⟩ := pend_cells (hdev.pend an hpd).1
        have pc0' : wr.cell? ⟨L.pp an, 0, none⟩ = some (.slice (some ⟨L.gg an, 0, none⟩) m (L.cp an)) := by rw [hm]; exact pc0
        have hkk : ((k : Int) == (cs.length : Int)) = false := by simp; omega
        have hkc2 : (k : Int) < (cs.length : Int) := by omega
        have HS : Hid (∀ q : Int, q = r → S.crashTo ks cs (k + 1) = if 0 < q then layB (S.crashTo ks cs k) an ((S.pd (an : Int)).getD (q - 1).toNat 0) else S.crashTo ks cs k) := by
          intro q hq
          rw [hsucc, St.pick]
          simp only [← hm, ← hr, hq, Int.toNat_natCast]
        have HLN : Hid ((S.crashTo ks cs k).length = S.old.length) := by
          refine fold_len S.old.length _ _ rfl ?_
          intro x hx
          have h1 := List.of_mem_zip (List.mem_of_mem_take hx)
          have h2 := hdev.dom x.1 ((HR.out.2 _).1 h1.1)
          exact ⟨h2.1, h2.2.1⟩
        have HB : Hid (wr.heap[w.heap.size]? = some (.cells (u8s (S.crashTo ks cs k)).toArray 5 (0, 0))) := hb
        have HDV : Hid (DevAt wr F d S L) := hdev
        have HKP : Hid (Keeps (fun i => i = w.heap.size) w2 wr) := hkp
        have hdom1 := hdom.2.1
        have HRW : Hid (wr.ownsRow 0 47 1 (.slice (some ⟨L.gg an, 0, none⟩) m (L.cp an)) m (u64s (S.pd (an : Int))) ∧ m = (S.pd (an : Int)).length) := by
          have := (hdev.pend an hpd).2
          exact ⟨by rw [hm]; exact this, hm⟩
        clear hb hdev hkp hmem hdom hsucc k0 k2 k3 k4 k5 k6 pc0 pc1 pf hcc hgc han hcv hm hpd hr
        by_cases hrp : 0 < r
        · obtain ⟨q, hq⟩ := Int.eq_ofNat_of_zero_le (show 0 ≤ r - 1 by omega)
          have hq1 : r = (q : Int) + 1 := by omega
          subst hq1
          obtain ⟨v, hv⟩ : ∃ v, v = (S.pd (an : Int)).getD q 0 := ⟨_, rfl⟩
          have hgv : wr.cell? ⟨L.gg an, q, none⟩ = some (.int .u64 v) := by
            rw [HRW.out.1.cellAt q (by omega), hv]
            have h2 : q < (S.pd (an : Int)).length := by have := HRW.out.2; omega
            simp [u64s, List.getD_eq_getElem?_getD, List.getElem?_eq_getElem h2]
          have q1 : (0 : Int) ≤ (q : Int) := by omega
          have q2 : (q : Int) < (m : Int) := by omega
          have HVV : Hid (v = (S.pd (an : Int)).getD q 0) := hv
          clear hv hq
          have hlay := lay_any w.heap.size S.old.length an v (u8s (S.crashTo ks cs k)) wr HB.out (by have := HLN.out; simp only [u8s, List.length_map]; exact this) (by omega) (by omega)
          go_wp2_with (first
            | (at_lookup; refine wpList_lookup_ptr _ rfl _ _ rfl L.bm L.nn L.D rfl hmp an rfl hwf (L.pp an) hat ?_)
            | (go_at_call 47; refine hrem.mono ?_; rintro e w' ⟨rfl, hw⟩; subst w')
            | (go_at_call 41; refine hlay.mono ?_; rintro e w5 ⟨rfl, hb5, hg5⟩))
          go_roundw
          case rel =>
            refine ⟨k + 1, by omega, by omega, by go_num, ?_, HDV.out.kept (X := fun i => i = w.heap.size) (Keeps.of hg5 (by rintro i e; cases e; exact Or.inl rfl)) (fun i hi e => HFN.out (e ▸ hi)), HKP.out.step hg5 (by rintro i e; cases e; exact Or.inl rfl)⟩
            rw [HS.out _ rfl, if_pos (by omega), hb5, u8s_layB, HVV.out]
            congr 5
            simp
          case measure => simp [intOf]; omega
        · have hrz : r = 0 := by omega
          subst hrz
          go_wp2_with (first
            | (at_lookup; refine wpList_lookup_ptr _ rfl _ _ rfl L.bm L.nn L.D rfl hmp an rfl hwf (L.pp an) hat ?_)
            | (go_at_call 47; refine hrem.mono ?_; rintro e w' ⟨rfl, hw⟩; subst w'))
          go_roundw
          case rel =>
            refine ⟨k + 1, by omega, by omega, by go_num, ?_, HDV.out, HKP.out⟩
            rw [HS.out _ rfl, if_neg (by omega)]
            exact HB.out
          case measure => simp [intOf]; omega
      · obtain rfl : k = cs.length := by omega
        have hbk : ((cs.length : Int) == (cs.length : Int)) = true := by simp
        have HB : Hid (wr.heap[w.heap.size]? = some (.cells (u8s (S.crashTo ks cs cs.length)).toArray 5 (0, 0))) := hb
        clear hb hdev hkp hpd hdom hmem
        go_wp2
        go_ret
        exact ⟨ks, HR.out, rfl, by rw [← crashTo_all S ks cs cs.length (Or.inr (Nat.le_refl _))]; exact HB.out, HKF.out⟩
    · obtain rfl : k = ks.length := by omega
      have HB : Hid (wr.heap[w.heap.size]? = some (.cells (u8s (S.crashTo ks cs ks.length)).toArray 5 (0, 0))) := hb
      clear hb hdev hkp
      go_wp2
      go_ret
      exact ⟨ks, HR.out, rfl, by rw [← crashTo_all S ks cs ks.length (Or.inl (Nat.le_refl _))]; exact HB.out, HKF.out⟩

end Go.Proofs.Ytfiekdgpdboolab
