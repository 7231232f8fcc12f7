import Derived.Test.YtfiekdgpdboolacV3
import Derived.Test.YtfiekdgpdboolacV6
import Derived.Test.YtfiekdgpdboolacV8
namespace Go.Proofs.Ytfiekdgpdboolac
open Go.RowKit Go.Maps

set_option maxHeartbeats 1000000 in
/-- Word, whatever its address, on any device that is the document's. -/
theorem word_rel (w : World) (F : Nat → Prop) (d : Nat) (S : St) (L : Lay) (R : Rf) (a : Int) (h : DevAt w F d S L) (hr : Rel S R) (hs : S.steps ≤ 900000000) :
    Calls Try.prog 25 #[.pointer (some ⟨d, 0, none⟩), .int .i64 a] w fun e w' => e = .returned (.tuple #[.int .u64 (if badWord (64 * R.n) a = 0 then R.nowW (a / 8).toNat else 0), .int .i64 (badWord (64 * R.n) a)]) ∧ Keeps (fun _ => False) w w' := by
  obtain ⟨c0, c1, _⟩ := dev_cells h.dev
  have hcw := checkWord_any d _ _ _ a w c0
  rw [hr.len] at hcw
  by_cases hb : badWord (64 * R.n) a = 0
  · obtain ⟨b1, b2, b3⟩ := badWord_zero hb
    obtain ⟨t, ht⟩ : ∃ t : Nat, a = ((8 * t : Nat) : Int) := ⟨(a / 8).toNat, by omega⟩
    have e1 : (a / 8).toNat = t := by omega
    rw [if_pos hb, hb, e1, rel_now hr t (by omega)]
    rw [hb] at hcw
    subst ht
    by_cases hp : S.pd ((8 * t : Nat) : Int) = []
    · rw [if_pos hp]
      refine (word_dev w F d (8 * t) S L h (by rw [hr.len]; omega) (by omega) hp).mono ?_
      rintro e w' ⟨rfl, rfl⟩
      exact ⟨rfl, Keeps.refl _ _⟩
    · rw [if_neg hp]
      have hm := h.hmap
      have hat := h.at_some hp
      have hnb := hr.nb
      have hwf : (Lit.int .i64 ((8 * t : Nat) : Int)).wf = true := wf_i64 (by omega) (by omega)
      obtain ⟨p1, p2⟩ := h.pend _ hp
      have hlen := h.lens ((8 * t : Nat) : Int)
      have hpos : 0 < (S.pd ((8 * t : Nat) : Int)).length := List.length_pos_iff.2 hp
      have hno := now_any (L.pp ((8 * t : Nat) : Int)) (L.gg ((8 * t : Nat) : Int)) (S.pd ((8 * t : Nat) : Int)).length (L.cp ((8 * t : Nat) : Int)) (S.ms ((8 * t : Nat) : Int)) ((S.pd ((8 * t : Nat) : Int)).getD ((S.pd ((8 * t : Nat) : Int)).length - 1) 0) (u64s (S.pd ((8 * t : Nat) : Int))) w p1 p2 hpos (by omega) (by
        have hl1 : (S.pd ((8 * t : Nat) : Int)).length - 1 < (S.pd ((8 * t : Nat) : Int)).length := by omega
        unfold u64s
        rw [List.getElem?_map, List.getElem?_eq_getElem hl1, List.getD_eq_getElem?_getD, List.getElem?_eq_getElem hl1]
        rfl)
      obtain ⟨A, hA⟩ : ∃ A : Int, A = ((8 * t : Nat) : Int) := ⟨_, rfl⟩
      rw [← hA] at hcw hat hwf hno ⊢
      generalize (S.pd A).getD ((S.pd A).length - 1) 0 = u at *
      generalize L.pp A = pp at *
      clear h hr hb b1 b2 b3 e1 hp p1 p2 hlen hpos hA hnb
      go_enter Try.func25, Try.ntmps25
      go_wp2_with (first
        | (go_at_call 56; refine hcw.mono ?_; rintro e w' ⟨rfl, hw⟩; subst w')
        | (at_lookup; refine wpList_lookup_ptr _ rfl _ _ rfl L.bm L.nn L.D rfl hm A rfl hwf pp hat ?_)
        | (go_at_call 57; refine hno.mono ?_; rintro e w1 ⟨rfl, q, hw1⟩; have HW := Hid.mk' hw1; clear hno hw1))
      go_ret2
      exact ⟨rfl, keeps_drewN' _ _ _ _ HW.out⟩
  · rw [if_neg hb]
    have hb2 : (badWord (64 * R.n) a == 0) = false := by simp [hb]
    generalize badWord (64 * R.n) a = bw at *
    clear h hr hb c0 c1
    go_enter Try.func25, Try.ntmps25
    go_wp2_with (first
      | (go_at_call 56; refine hcw.mono ?_; rintro e w' ⟨rfl, hw⟩; subst w'))
    go_ret2
    exact ⟨rfl, Keeps.refl _ _⟩

end Go.Proofs.Ytfiekdgpdboolac

namespace Go.Proofs.Ytfiekdgpdboolac
open Go.RowKit Go.Maps

set_option maxHeartbeats 400000 in
/-- lay at a place within: what stands out behind the end is left. -/
theorem lay_in (g n at_ : Nat) (v : Int) (cur : List Value) (w : World) (hg : w.heap[g]? = some (.cells cur.toArray 5 (0, 0))) (hn : cur.length = n) (_hn' : n ≤ 1000000) (hat : at_ < n) :
    Calls Try.prog 62 #[.slice (some ⟨g, 0, none⟩) n n, .int .i64 at_, .int .u64 v] w fun e w' => e = .returned (.tuple #[]) ∧
      w'.heap[g]? = some (.cells (splice cur at_ ((wordCells v).take (n - at_))).toArray 5 (0, 0)) ∧ w.grownBy w' (some g) := by
  have hgl : g < w.heap.size := (Array.getElem?_eq_some_iff.1 hg).1
  have HG : Hid (w.heap[g]? = some (.cells cur.toArray 5 (0, 0))) := hg
  clear hg
  have HN : Hid (cur.length = n) := hn
  clear hn
  go_enter Try.func62, Try.ntmps62
  go_wp2
  go_loopw [8] (fun i wr => ∃ k : Nat, k ≤ 8 ∧ i = .int .i64 k ∧ wr.heap[w.heap.size]? = some (.cells (partCells v k) 102 (0, 0)) ∧ w.grownBy wr none)
    (fun i _ => 8 - (intOf i).toNat)
  case atStart => exact ⟨0, by omega, rfl, by rw [partCells_zero]; exact (MapKept.heap_alloc w _).1, World.grownBy_alloc _ _ _⟩
  case round =>
    obtain ⟨k, hk, rfl, hblk, hgr⟩ := hrel
    by_cases hlt : k < 8
    · have hck : wr.cell? ⟨w.heap.size, k, none⟩ = some (.int .u8 0) := by
        simp [World.cell?, hblk, partCells, hlt]
      have hfz : wr.frozen? ⟨w.heap.size, k, none⟩ = false := by simp [World.frozen?, hblk]
      have HB : Hid (wr.heap[w.heap.size]? = some (.cells (partCells v k) 102 (0, 0))) := hblk
      clear hblk
      go_wp2
      go_roundw
      case rel =>
        refine ⟨k + 1, by omega, by go_num, ?_, grownBy_new hgr (grownBy_setCell _ _ _) (Nat.le_refl _)⟩
        rw [setCell_block (a := ⟨w.heap.size, k, none⟩) HB.out rfl]
        rw [← partCells_succ v k]
        rfl
      case measure => simp [intOf]; omega
    · obtain rfl : k = 8 := by omega
      rw [partCells_all] at hblk
      have hgg : wr.heap[g]? = some (.cells cur.toArray 5 (0, 0)) := (hgr.block g hgl (by simp)).trans HG.out
      have HB : Hid (wr.heap[w.heap.size]? = some (.cells (wordCells v).toArray 102 (0, 0))) := hblk
      have HGG : Hid (wr.heap[g]? = some (.cells cur.toArray 5 (0, 0))) := hgg
      clear hblk hgg
      have HS : Hid (∀ j x, ((wordCells v).take (n - at_))[j]? = some x → wr.cell? ((⟨w.heap.size, 0, none⟩ : Addr).add j) = some x) := by
        intro j x hx
        have hx2 : (wordCells v)[j]? = some x := by
          rw [List.getElem?_take] at hx
          split at hx
          · exact hx
          · cases hx
        have := HB.out
        by_cases hj : j = 0
        · subst hj; simp [World.cell?, Addr.add, this, hx2]
        · simp [World.cell?, Addr.add, hj, this, hx2]
      have HLN : Hid (((wordCells v).take (n - at_)).length = Nat.min 8 (n - at_)) := by
        show _ = _
        rw [List.length_take, wordCells_len]
        exact Nat.min_comm _ _
      have HON : Hid (∀ x ∈ (wordCells v).take (n - at_), x.oneCell' = true) := fun x hx => wordCells_one v x (List.mem_of_mem_take hx)
      have hb1 : (0 : Int) ≤ (at_ : Int) := by omega
      have hb2 : (at_ : Int) ≤ (n : Int) := by omega
      have hb3 : at_ ≤ n := by omega
      have hb4 : ¬ n = at_ := by omega
      go_wp2
      go_region_law ((refine step_copy_put rfl _ _ 29 29 rfl 5 Try.underlying29 size5 g at_ (n - at_) (n - at_) ⟨w.heap.size, 0, none⟩ 8 8 (by rfl) (by rfl) cur 5 HGG.out ((wordCells v).take (n - at_)) HLN.out HS.out (by have := HN.out; have := HLN.out; rw [List.length_take]; omega) HON.out ?_; intro w4 hw4 hg4))
      go_wp2
      go_end0
      refine ⟨rfl, hw4.out, ?_⟩
      have h4 := hg4.out.1
      exact ⟨h4.os.trans hgr.os, h4.tape.trans hgr.tape, h4.output.trans hgr.output, Nat.le_trans hgr.size h4.size,
        fun i hi hr => (h4.block i (Nat.lt_of_lt_of_le hi hgr.size) hr).trans (hgr.block i hi (by simp))⟩

set_option maxHeartbeats 400000 in
/-- lay at a place ahead of the bytes: what stands out ahead is left. -/
theorem lay_neg (g n k0 : Nat) (v : Int) (cur : List Value) (w : World) (hg : w.heap[g]? = some (.cells cur.toArray 5 (0, 0))) (hn : cur.length = n) (_hn' : n ≤ 1000000) (hk0 : 0 < k0) (hk8 : k0 < 8) :
    Calls Try.prog 62 #[.slice (some ⟨g, 0, none⟩) n n, .int .i64 (-(k0 : Int)), .int .u64 v] w fun e w' => e = .returned (.tuple #[]) ∧
      w'.heap[g]? = some (.cells (splice cur 0 (((wordCells v).drop k0).take n)).toArray 5 (0, 0)) ∧ w.grownBy w' (some g) := by
  have hgl : g < w.heap.size := (Array.getElem?_eq_some_iff.1 hg).1
  have HG : Hid (w.heap[g]? = some (.cells cur.toArray 5 (0, 0))) := hg
  clear hg
  have HN : Hid (cur.length = n) := hn
  clear hn
  go_enter Try.func62, Try.ntmps62
  go_wp2
  go_loopw [8] (fun i wr => ∃ k : Nat, k ≤ 8 ∧ i = .int .i64 k ∧ wr.heap[w.heap.size]? = some (.cells (partCells v k) 102 (0, 0)) ∧ w.grownBy wr none)
    (fun i _ => 8 - (intOf i).toNat)
  case atStart => exact ⟨0, by omega, rfl, by rw [partCells_zero]; exact (MapKept.heap_alloc w _).1, World.grownBy_alloc _ _ _⟩
  case round =>
    obtain ⟨k, hk, rfl, hblk, hgr⟩ := hrel
    by_cases hlt : k < 8
    · have hck : wr.cell? ⟨w.heap.size, k, none⟩ = some (.int .u8 0) := by
        simp [World.cell?, hblk, partCells, hlt]
      have hfz : wr.frozen? ⟨w.heap.size, k, none⟩ = false := by simp [World.frozen?, hblk]
      have HB : Hid (wr.heap[w.heap.size]? = some (.cells (partCells v k) 102 (0, 0))) := hblk
      clear hblk
      go_wp2
      go_roundw
      case rel =>
        refine ⟨k + 1, by omega, by go_num, ?_, grownBy_new hgr (grownBy_setCell _ _ _) (Nat.le_refl _)⟩
        rw [setCell_block (a := ⟨w.heap.size, k, none⟩) HB.out rfl]
        rw [← partCells_succ v k]
        rfl
      case measure => simp [intOf]; omega
    · obtain rfl : k = 8 := by omega
      rw [partCells_all] at hblk
      have hgg : wr.heap[g]? = some (.cells cur.toArray 5 (0, 0)) := (hgr.block g hgl (by simp)).trans HG.out
      have HB : Hid (wr.heap[w.heap.size]? = some (.cells (wordCells v).toArray 102 (0, 0))) := hblk
      have HGG : Hid (wr.heap[g]? = some (.cells cur.toArray 5 (0, 0))) := hgg
      clear hblk hgg
      have HS : Hid (∀ j x, (((wordCells v).drop k0).take n)[j]? = some x → wr.cell? ((⟨w.heap.size, k0, none⟩ : Addr).add j) = some x) := by
        intro j x hx
        have hx2 : (wordCells v)[k0 + j]? = some x := by
          rw [List.getElem?_take] at hx
          split at hx
          · rw [List.getElem?_drop] at hx; exact hx
          · cases hx
        have := HB.out
        by_cases hj : j = 0
        · subst hj; simp [World.cell?, Addr.add, this]; simpa using hx2
        · simp [World.cell?, Addr.add, hj, this, hx2]
      have HLN : Hid ((((wordCells v).drop k0).take n).length = Nat.min (8 - k0) n) := by
        show _ = _
        rw [List.length_take, List.length_drop, wordCells_len]
        exact Nat.min_comm _ _
      have HON : Hid (∀ x ∈ ((wordCells v).drop k0).take n, x.oneCell' = true) := fun x hx => wordCells_one v x (List.mem_of_mem_drop (List.mem_of_mem_take hx))
      have hb1 : -(k0 : Int) < 0 := by omega
      have hb2 : (0 : Int) ≤ (k0 : Int) := by omega
      have hb3 : (k0 : Int) ≤ 8 := by omega
      have hb4 : ¬ 8 = k0 := by omega
      have hb5 : k0 ≤ 8 := by omega
      go_wp2_with (first
        | (refine wpList_copy_put rfl _ _ 29 29 rfl 5 Try.underlying29 size5 g 0 n n ⟨w.heap.size, k0, none⟩ (8 - k0) (8 - k0) rfl rfl cur 5 HGG.out (((wordCells v).drop k0).take n) HLN.out HS.out (by have := HN.out; have := HLN.out; rw [List.length_take]; omega) HON.out ?_; intro w4 hw4 hg4))
      refine bodyPost_ret (results_none rfl _ _ _) rfl ?_
      refine ⟨rfl, hw4.out, ?_⟩
      have h4 := hg4.out.1
      exact ⟨h4.os.trans hgr.os, h4.tape.trans hgr.tape, h4.output.trans hgr.output, Nat.le_trans hgr.size h4.size,
        fun i hi hr => (h4.block i (Nat.lt_of_lt_of_le hi hgr.size) hr).trans (hgr.block i hi (by simp))⟩

end Go.Proofs.Ytfiekdgpdboolac

namespace Go.Proofs.Ytfiekdgpdboolac
open Go.RowKit Go.Maps

/-- The value now of the word number s. -/
def St.nowV (S : St) (s : Nat) : Int := if S.pd (8 * s : Nat) = [] then wordAt S.old (8 * s) else (S.pd (8 * s : Nat)).getD ((S.pd (8 * s : Nat)).length - 1) 0
/-- The bytes from a on, those of the words below t as they are now. -/
def St.readTo (S : St) (a n t : Nat) : List Int := (List.range n).map fun j => if (a + j) / 8 < t then byteOf (S.nowV ((a + j) / 8)) ((a + j) % 8) else S.old.getD (a + j) 0

theorem readTo_len (S : St) (a n t : Nat) : (S.readTo a n t).length = n := by simp [St.readTo]
theorem readTo_get (S : St) (a n t j : Nat) (hj : j < n) : (S.readTo a n t).getD j 0 = if (a + j) / 8 < t then byteOf (S.nowV ((a + j) / 8)) ((a + j) % 8) else S.old.getD (a + j) 0 := by
  simp [St.readTo, List.getD_eq_getElem?_getD, hj]

theorem readTo_skip {S : St} (hb : ∀ b ∈ S.old, 0 ≤ b ∧ b ≤ 255) (a n t : Nat) (hp : S.pd (8 * t : Nat) = []) : S.readTo a n (t + 1) = S.readTo a n t := by
  unfold St.readTo
  apply List.map_congr_left
  intro j _
  by_cases h1 : (a + j) / 8 < t
  · rw [if_pos (by omega), if_pos h1]
  · rw [if_neg h1]
    by_cases h2 : (a + j) / 8 < t + 1
    · rw [if_pos h2]
      have e : (a + j) / 8 = t := by omega
      rw [e]
      unfold St.nowV
      rw [if_pos hp, byteOf_wordAt hb _ _ (by omega)]
      congr 1
      omega
    · rw [if_neg h2]

theorem wordCells_get (v : Int) (j : Nat) (z : Value) (hj : j < 8) : (wordCells v).getD j z = .int .u8 (byteOf v j) := by
  simp [wordCells, List.getD_eq_getElem?_getD, hj]

theorem u8s_get (l : List Int) (j : Nat) (hj : j < l.length) : (u8s l).getD j (.int .u8 0) = .int .u8 (l.getD j 0) := by
  simp [u8s, List.getD_eq_getElem?_getD, hj]

theorem readTo_in (S : St) (a n t : Nat) (h1 : a ≤ 8 * t) (h2 : 8 * t < a + n) : splice (u8s (S.readTo a n t)) (8 * t - a) ((wordCells (S.nowV t)).take (n - (8 * t - a))) = u8s (S.readTo a n (t + 1)) := by
  have hl : (u8s (S.readTo a n t)).length = n := by simp [u8s, readTo_len]
  have hl2 : ((wordCells (S.nowV t)).take (n - (8 * t - a))).length = min (n - (8 * t - a)) 8 := by rw [List.length_take, wordCells_len]
  refine list_eq_getD (.int .u8 0) (by rw [length_splice _ _ _ (by omega)]; simp [u8s, readTo_len]) fun j hj => ?_
  rw [length_splice _ _ _ (by omega), hl] at hj
  have er : (u8s (S.readTo a n (t + 1))).getD j (.int .u8 0) = .int .u8 (if (a + j) / 8 < t + 1 then byteOf (S.nowV ((a + j) / 8)) ((a + j) % 8) else S.old.getD (a + j) 0) := by rw [u8s_get _ _ (by rw [readTo_len]; exact hj), readTo_get _ _ _ _ _ hj]
  rw [splice_get _ _ _ _ _ (by omega), er]
  by_cases hc : 8 * t - a ≤ j ∧ j < 8 * t - a + ((wordCells (S.nowV t)).take (n - (8 * t - a))).length
  · rw [if_pos hc]
    have e : (a + j) / 8 = t := by omega
    rw [if_pos (by omega), e]
    have e2 : ((wordCells (S.nowV t)).take (n - (8 * t - a))).getD (j - (8 * t - a)) (.int .u8 0) = (wordCells (S.nowV t)).getD (j - (8 * t - a)) (.int .u8 0) := by
      simp only [List.getD_eq_getElem?_getD, List.getElem?_take]
      rw [if_pos (by omega)]
    rw [e2, wordCells_get _ _ _ (by omega)]
    congr 2
    omega
  · rw [if_neg hc, u8s_get _ _ (by rw [readTo_len]; exact hj), readTo_get _ _ _ _ _ hj]
    by_cases h3 : (a + j) / 8 < t
    · rw [if_pos h3, if_pos (by omega)]
    · rw [if_neg h3, if_neg (by omega)]

theorem readTo_neg (S : St) (a n t : Nat) (h1 : 8 * t < a) (h2 : a < 8 * t + 8) : splice (u8s (S.readTo a n t)) 0 (((wordCells (S.nowV t)).drop (a - 8 * t)).take n) = u8s (S.readTo a n (t + 1)) := by
  have hl : (u8s (S.readTo a n t)).length = n := by simp [u8s, readTo_len]
  have hl2 : (((wordCells (S.nowV t)).drop (a - 8 * t)).take n).length = min n (8 - (a - 8 * t)) := by rw [List.length_take, List.length_drop, wordCells_len]
  refine list_eq_getD (.int .u8 0) (by rw [length_splice _ _ _ (by omega)]; simp [u8s, readTo_len]) fun j hj => ?_
  rw [length_splice _ _ _ (by omega), hl] at hj
  have er : (u8s (S.readTo a n (t + 1))).getD j (.int .u8 0) = .int .u8 (if (a + j) / 8 < t + 1 then byteOf (S.nowV ((a + j) / 8)) ((a + j) % 8) else S.old.getD (a + j) 0) := by rw [u8s_get _ _ (by rw [readTo_len]; exact hj), readTo_get _ _ _ _ _ hj]
  rw [splice_get _ _ _ _ _ (by omega), er]
  by_cases hc : 0 ≤ j ∧ j < 0 + (((wordCells (S.nowV t)).drop (a - 8 * t)).take n).length
  · rw [if_pos hc]
    have e : (a + j) / 8 = t := by omega
    rw [if_pos (by omega), e]
    have e2 : (((wordCells (S.nowV t)).drop (a - 8 * t)).take n).getD (j - 0) (.int .u8 0) = (wordCells (S.nowV t)).getD (a - 8 * t + j) (.int .u8 0) := by
      simp only [List.getD_eq_getElem?_getD, List.getElem?_take, List.getElem?_drop]
      rw [if_pos (by omega)]
      congr 2
    rw [e2, wordCells_get _ _ _ (by omega)]
    congr 2
    omega
  · rw [if_neg hc, u8s_get _ _ (by rw [readTo_len]; exact hj), readTo_get _ _ _ _ _ hj]
    by_cases h3 : (a + j) / 8 < t
    · rw [if_pos h3, if_pos (by omega)]
    · rw [if_neg h3, if_neg (by omega)]

theorem readTo_bytes {S : St} {R : Rf} (h : Rel S R) (a n t : Nat) (hb : a + n ≤ 64 * R.n) (ht : a + n ≤ 8 * t) : S.readTo a n t = R.bytes a n := by
  unfold St.readTo Rf.bytes
  apply List.map_congr_left
  intro j hj
  have hj' := List.mem_range.1 hj
  rw [if_pos (by omega), rel_now h ((a + j) / 8) (by omega)]
  rfl

end Go.Proofs.Ytfiekdgpdboolac

namespace Go.Proofs.Ytfiekdgpdboolac
open Go.RowKit Go.Maps

theorem addr_add2 (b o j : Nat) : (⟨b, o, none⟩ : Addr).add j = ⟨b, o + j, none⟩ := by
  unfold Addr.add
  split
  · rename_i h; rw [h]; rfl
  · rfl

set_option maxHeartbeats 4000000 in
set_option maxRecDepth 20000 in
/-- Read of bytes that lie within. -/
theorem read_rel (w : World) (F : Nat → Prop) (d : Nat) (S : St) (L : Lay) (R : Rf) (a n : Nat) (h : DevAt w F d S L) (hr : Rel S R) (hs : S.steps ≤ 900000000) (hab : a + n ≤ 64 * R.n) (hne : a ≠ 64 * R.n) :
    Calls Try.prog 27 #[.pointer (some ⟨d, 0, none⟩), .int .i64 a, .int .i64 n] w fun e w' => ∃ g, e = .returned (.tuple #[.slice (some ⟨g, 0, none⟩) n n, .int .i64 0]) ∧ w'.heap[g]? = some (.cells (u8s (R.bytes a n)).toArray 5 (0, 0)) ∧ Keeps (fun _ => False) w w' := by
  have hnb := hr.nb
  obtain ⟨c0, c1, _⟩ := dev_cells h.dev
  rw [hr.len] at c0
  have hwi := within_any d (64 * R.n) (64 * R.n) _ a n w c0 (by omega)
  have hib : insideB ((64 * R.n : Nat) : Int) a n = true := by simp [insideB]; omega
  rw [hib] at hwi
  obtain ⟨N, hN⟩ : ∃ N : Nat, N = 64 * R.n := ⟨_, rfl⟩
  rw [← hN] at c0
  have hbs := h.bytes
  have hcp : ∀ (o c : Nat), (n = 0 ∨ o = a) → Calls Try.prog 55 #[.slice (some ⟨L.ob, o, none⟩) n c] w fun e w' => e = .returned (.slice (some ⟨w.heap.size, 0, none⟩) n n) ∧ w'.heap[w.heap.size]? = some (.cells (u8s (S.readTo a n (a / 8))).toArray 5 (0, 0)) ∧ w.grownBy w' none ∧ w'.heap.size = w.heap.size + 1 := fun o c ho => by
    refine copied_any ⟨L.ob, o, none⟩ n c (u8s (S.readTo a n (a / 8))) w (by simp [u8s, readTo_len]) (by omega) (fun j v hj => ?_) (fun v hv => ?_) (heap_lt hbs)
    · have hjn : j < n := by have := (List.getElem?_eq_some_iff.1 hj).1; simpa [u8s, readTo_len] using this
      have ho' : o = a := by omega
      subst ho'
      rw [addr_add2]
      have e1 : (u8s (S.readTo o n (o / 8)))[j]? = some (.int .u8 ((S.readTo o n (o / 8)).getD j 0)) := by
        have hl : j < (S.readTo o n (o / 8)).length := by rw [readTo_len]; exact hjn
        simp [u8s, List.getD_eq_getElem?_getD, hl]
      rw [e1, readTo_get _ _ _ _ _ hjn, if_neg (by omega)] at hj
      rw [← hj]
      exact cells_u8 hbs (o + j) (by rw [hr.len]; omega)
    · simp only [u8s, List.mem_map] at hv; obtain ⟨_, _, rfl⟩ := hv; rfl
  obtain ⟨rm, hrm⟩ : ∃ rm : Nat, rm = a % 8 := ⟨_, rfl⟩
  have hat : (a : Int).tmod 8 = (rm : Int) := by rw [Int.tmod_eq_emod_of_nonneg (by omega)]; omega
  obtain ⟨st, hst⟩ : ∃ st : Nat, st = 8 * (a / 8) := ⟨_, rfl⟩
  have hsub : (a : Int) - (rm : Int) = (st : Int) := by omega
  have hwr : IntKind.i64.wrap ((a : Int) - (rm : Int)) = (st : Int) := by rw [hsub]; exact wrap_id (by omega) (by omega)
  have HV := Hid.mk' (show DevAt w F d S L ∧ Rel S R ∧ N = 64 * R.n ∧ a + n ≤ N ∧ st = 8 * (a / 8) ∧ rm = a % 8 from ⟨h, hr, hN, by omega, hst, hrm⟩)
  have b1 : (0 : Int) ≤ (a : Int) := by omega
  have b2 : (a : Int) ≤ (a : Int) + (n : Int) := by omega
  have b3 : (a : Int) + (n : Int) ≤ (N : Int) := by omega
  have b5 : a ≤ N := by omega
  have b6 : a ≤ a + n := by omega
  have b7 : a + n ≤ N := by omega
  have hNb : N ≤ 524288 := by omega
  have hca : ¬ N = a := by omega
  clear h hr hib hbs hab hN hst hrm hnb hne
  have HCP := Hid.mk' hcp
  clear hcp
  have key : ∀ w1, w1.heap[w.heap.size]? = some (.cells (u8s (S.readTo a n (a / 8))).toArray 5 (0, 0)) → w.grownBy w1 none → Hid (w1.heap[w.heap.size]? = some (.cells (u8s (S.readTo a n (a / 8))).toArray 5 (0, 0)) ∧ Keeps (fun _ => False) w w1) := fun w1 h1 h2 => ⟨h1, Keeps.of h2 (by simp)⟩
  go_enter Try.func27, Try.ntmps27
  go_wp2_with (first
    | (go_at_call 61; refine hwi.mono ?_; rintro e w' ⟨rfl, hw⟩; subst w'; clear hwi)
    | (go_at_call 55; refine (HCP.out a _ (Or.inr rfl)).mono ?_; rintro e w1 ⟨rfl, h1, h2, h3⟩; have H1 := key w1 h1 h2; clear h1 h2 h3))
  go_loopw [9] (fun i wr => ∃ t : Nat, a / 8 ≤ t ∧ 8 * t ≤ N + 8 ∧ i = .int .i64 ((8 * t : Nat) : Int) ∧ Hid (wr.heap[w.heap.size]? = some (.cells (u8s (S.readTo a n t)).toArray 5 (0, 0)) ∧ Keeps (fun _ => False) w wr)) (fun i _ => a + n + 8 - (intOf i).toNat)
  case atStart => exact ⟨a / 8, Nat.le_refl _, by have := HV.out; omega, by rw [HV.out.2.2.2.2.1], H1.out.1, H1.out.2⟩
  case round =>
    obtain ⟨t, ht1, ht2, rfl, hrel⟩ := hrel
    obtain ⟨v1, v2, v3, v4, v5, v6⟩ := HV.out
    obtain ⟨T, hT⟩ : ∃ T : Nat, T = 8 * t := ⟨_, rfl⟩
    rw [← hT]
    have hdv := v1.kept hrel.out.2 (by simp)
    obtain ⟨_, c1', _⟩ := dev_cells hdv.dev
    by_cases hlt : T < a + n
    · have hlt' : (T : Int) < (a : Int) + (n : Int) := by omega
      have hwf : (Lit.int .i64 (T : Int)).wf = true := wf_i64 (by omega) (by omega)
      have hm := hdv.hmap
      have HA := Hid.mk' (show T = 8 * t ∧ T < a + n ∧ a / 8 ≤ t ∧ a + n ≤ N from ⟨hT, hlt, ht1, v4⟩)
      by_cases hp : S.pd (T : Int) = []
      · have hat' := hdv.at_none hp
        have e1 : S.readTo a n (t + 1) = S.readTo a n t := readTo_skip v1.byts a n t (by rw [← hT]; exact hp)
        have HR := Hid.mk' (show wr.heap[w.heap.size]? = some (.cells (u8s (S.readTo a n (t + 1))).toArray 5 (0, 0)) ∧ Keeps (fun _ => False) w wr from ⟨by rw [e1]; exact hrel.out.1, hrel.out.2⟩)
        clear hdv hp e1 hrel v1 v2 v3 v4 v5 v6 ht1 ht2 hT hlt
        go_wp2_with (first
          | (at_lookup; refine wpList_lookup_none _ rfl _ _ rfl L.bm L.nn L.D rfl hm (T : Int) rfl hwf hat' ?_))
        go_roundw
        case rel =>
          obtain ⟨q1, q2, q3, q4⟩ := HA.out
          refine ⟨t + 1, by omega, by omega, ?_, HR.out⟩
          rw [q1]; first | (congr 1; omega) | go_num
        case measure => simp [intOf]; omega
      · have hat' := hdv.at_some hp
        obtain ⟨p1, p2⟩ := hdv.pend _ hp
        have hlen := hdv.lens (T : Int)
        have hpos : 0 < (S.pd (T : Int)).length := List.length_pos_iff.2 hp
        have enow : S.nowV t = (S.pd (T : Int)).getD ((S.pd (T : Int)).length - 1) 0 := by unfold St.nowV; rw [← hT, if_neg hp]
        have hno := now_any (L.pp (T : Int)) (L.gg (T : Int)) (S.pd (T : Int)).length (L.cp (T : Int)) (S.ms (T : Int)) (S.nowV t) (u64s (S.pd (T : Int))) wr p1 p2 hpos (by omega) (by
          have hl1 : (S.pd (T : Int)).length - 1 < (S.pd (T : Int)).length := by omega
          unfold u64s
          rw [List.getElem?_map, List.getElem?_eq_getElem hl1, enow, List.getD_eq_getElem?_getD, List.getElem?_eq_getElem hl1]
          rfl)
        have HR := Hid.mk' hrel.out
        have hlay : ∀ w2, Keeps (fun _ => False) wr w2 → Calls Try.prog 62 #[.slice (some ⟨w.heap.size, 0, none⟩) n n, .int .i64 ((T : Int) - (a : Int)), .int .u64 (S.nowV t)] w2 fun e w' => e = .returned (.tuple #[]) ∧ w'.heap[w.heap.size]? = some (.cells (u8s (S.readTo a n (t + 1))).toArray 5 (0, 0)) ∧ Keeps (fun _ => False) w w' := fun w2 k2 => by
          have hb2 := (k2.block _ (heap_lt HR.out.1) (by simp)).trans HR.out.1
          by_cases hc : a ≤ T
          · have := lay_in w.heap.size n (T - a) (S.nowV t) (u8s (S.readTo a n t)) w2 hb2 (by simp [u8s, readTo_len]) (by omega) (by omega)
            rw [hT, readTo_in S a n t (by omega) (by omega), ← hT, show ((T - a : Nat) : Int) = (T : Int) - (a : Int) by omega] at this
            exact this.mono fun e w' ⟨e1, e2, e3⟩ => ⟨e1, e2, (HR.out.2.trans k2).step e3 (by simp)⟩
          · have := lay_neg w.heap.size n (a - T) (S.nowV t) (u8s (S.readTo a n t)) w2 hb2 (by simp [u8s, readTo_len]) (by omega) (by omega) (by omega)
            rw [hT, readTo_neg S a n t (by omega) (by omega), ← hT, show -((a - T : Nat) : Int) = (T : Int) - (a : Int) by omega] at this
            exact this.mono fun e w' ⟨e1, e2, e3⟩ => ⟨e1, e2, (HR.out.2.trans k2).step e3 (by simp)⟩
        have HLAY := Hid.mk' hlay
        generalize S.nowV t = nv at *
        generalize L.pp (T : Int) = pp at *
        have hdd : -9223372036854775808 ≤ (T : Int) - (a : Int) := by omega
        clear hdv hp hrel v1 v2 v3 v4 v5 v6 ht1 ht2 hT hlt p1 p2 hlen hpos enow hlay
        go_wp2_with (first
          | (at_lookup; refine wpList_lookup_ptr _ rfl _ _ rfl L.bm L.nn L.D rfl hm (T : Int) rfl hwf pp hat' ?_)
          | (go_at_call 57; refine hno.mono ?_; rintro e w2 ⟨rfl, q, hw2⟩
             have hly := HLAY.out w2 (keeps_drewN' _ _ _ _ hw2)
             clear hno hw2)
          | (go_at_call 62; refine hly.mono ?_; rintro e w3 ⟨rfl, hx1, hx2⟩; have H3 := Hid.mk' (show _ ∧ _ from ⟨hx1, hx2⟩); clear hly hx1 hx2))
        go_roundw
        case rel =>
          obtain ⟨q1, q2, q3, q4⟩ := HA.out
          refine ⟨t + 1, by omega, by omega, ?_, H3.out⟩
          rw [q1]; first | (congr 1; omega) | go_num
        case measure => simp [intOf]; omega
    · have hlt' : ¬ (T : Int) < (a : Int) + (n : Int) := by omega
      have HR := Hid.mk' (show wr.heap[w.heap.size]? = some (.cells (u8s (R.bytes a n)).toArray 5 (0, 0)) ∧ Keeps (fun _ => False) w wr from ⟨by rw [← readTo_bytes v2 a n t (by omega) (by omega)]; exact hrel.out.1, hrel.out.2⟩)
      clear hdv hrel v1 v2 v3 v4 v5 v6 ht1 ht2 hT hlt
      go_wp2
      go_ret2
      exact ⟨w.heap.size, rfl, HR.out⟩

end Go.Proofs.Ytfiekdgpdboolac

namespace Go.Proofs.Ytfiekdgpdboolac
open Go.RowKit Go.Maps

set_option maxHeartbeats 1000000 in
set_option maxRecDepth 20000 in
/-- Read of no bytes at the very end. -/
theorem read_end (w : World) (F : Nat → Prop) (d : Nat) (S : St) (L : Lay) (R : Rf) (h : DevAt w F d S L) (hr : Rel S R) :
    Calls Try.prog 27 #[.pointer (some ⟨d, 0, none⟩), .int .i64 (64 * R.n : Nat), .int .i64 0] w fun e w' => ∃ g, e = .returned (.tuple #[.slice (some ⟨g, 0, none⟩) 0 0, .int .i64 0]) ∧ w'.heap[g]? = some (.cells (u8s []).toArray 5 (0, 0)) ∧ Keeps (fun _ => False) w w' := by
  have hnb := hr.nb
  obtain ⟨c0, c1, _⟩ := dev_cells h.dev
  rw [hr.len] at c0
  have hwi := within_any d (64 * R.n) (64 * R.n) _ ((64 * R.n : Nat) : Int) 0 w c0 (by omega)
  have hib : insideB ((64 * R.n : Nat) : Int) ((64 * R.n : Nat) : Int) 0 = true := by simp [insideB]; omega
  rw [hib] at hwi
  obtain ⟨N, hN⟩ : ∃ N : Nat, N = 64 * R.n := ⟨_, rfl⟩
  rw [← hN] at c0 hwi ⊢
  have hlt := heap_lt h.bytes
  have hcp : ∀ o c, Calls Try.prog 55 #[.slice (some ⟨L.ob, o, none⟩) 0 c] w fun e w' => e = .returned (.slice (some ⟨w.heap.size, 0, none⟩) 0 0) ∧ w'.heap[w.heap.size]? = some (.cells (u8s []).toArray 5 (0, 0)) ∧ w.grownBy w' none ∧ w'.heap.size = w.heap.size + 1 := fun o c =>
    copied_any ⟨L.ob, o, none⟩ 0 c (u8s []) w rfl (by omega) (fun j v hj => by simp [u8s] at hj) (fun v hv => by simp [u8s] at hv) hlt
  have hat : (N : Int).tmod 8 = 0 := by rw [Int.tmod_eq_emod_of_nonneg (by omega)]; omega
  have hNb : N ≤ 524288 := by omega
  have hN0 : ¬ N = 0 := by omega
  clear h hr hib hN hnb hlt c1
  go_enter Try.func27, Try.ntmps27
  go_wp2_with (first
    | (go_at_call 61; refine hwi.mono ?_; rintro e w' ⟨rfl, hw⟩; subst w'; clear hwi)
    | (go_at_call 55; refine (hcp _ _).mono ?_; rintro e w1 ⟨rfl, h1, h2, h3⟩; have H1 := Hid.mk' (show w1.heap[w.heap.size]? = some (.cells (u8s []).toArray 5 (0, 0)) ∧ Keeps (fun _ => False) w w1 from ⟨h1, Keeps.of h2 (by simp)⟩); clear hcp h1 h2 h3))
  go_loopw [9] (fun i wr => i = .int .i64 N ∧ wr = w1) (fun _ _ => 0)
  case atStart => exact ⟨by first | rfl | simp, rfl⟩
  case round =>
    obtain ⟨rfl, rfl⟩ := hrel
    go_wp2
    go_ret2
    exact ⟨w.heap.size, rfl, H1.out⟩

set_option maxHeartbeats 400000 in
/-- Read of bytes that don't lie within. -/
theorem read_no (w : World) (F : Nat → Prop) (d : Nat) (S : St) (L : Lay) (R : Rf) (a n : Int) (h : DevAt w F d S L) (hr : Rel S R) (hb : insideB (64 * (R.n : Int)) a n = false) :
    Calls Try.prog 27 #[.pointer (some ⟨d, 0, none⟩), .int .i64 a, .int .i64 n] w fun e w' => e = .returned (.tuple #[.slice none 0 0, .int .i64 11]) ∧ w' = w := by
  have hnb := hr.nb
  obtain ⟨c0, c1, _⟩ := dev_cells h.dev
  rw [hr.len] at c0
  have hwi := within_any d (64 * R.n) (64 * R.n) _ a n w c0 (by omega)
  rw [show ((64 * R.n : Nat) : Int) = 64 * (R.n : Int) by omega, hb] at hwi
  clear h hr hb c0 c1 hnb
  go_enter Try.func27, Try.ntmps27
  go_wp2_with (first | (go_at_call 61; refine hwi.mono ?_; rintro e w' ⟨rfl, hw⟩; subst w'; clear hwi))
  go_ret2
  exact ⟨rfl, rfl⟩

/-- Read, whatever is asked for: the document's bytes and error. -/
theorem read_any (w : World) (F : Nat → Prop) (d : Nat) (S : St) (L : Lay) (R : Rf) (a n : Int) (h : DevAt w F d S L) (hr : Rel S R) (hs : S.steps ≤ 900000000) :
    Calls Try.prog 27 #[.pointer (some ⟨d, 0, none⟩), .int .i64 a, .int .i64 n] w fun e w' => ∃ p c, e = .returned (.tuple #[.slice p (if insideB (64 * (R.n : Int)) a n then n.toNat else 0) c, .int .i64 (if insideB (64 * (R.n : Int)) a n then 0 else 11)]) ∧ BytesAt w' p (if insideB (64 * (R.n : Int)) a n then R.bytes a.toNat n.toNat else []) ∧ Keeps (fun _ => False) w w' := by
  by_cases hb : insideB (64 * (R.n : Int)) a n = true
  · have hb0 := hb
    simp [insideB] at hb0
    obtain ⟨⟨⟨b1, b2⟩, b3⟩, b4⟩ := hb0
    obtain ⟨an, rfl⟩ := Int.eq_ofNat_of_zero_le b1
    obtain ⟨nn, rfl⟩ := Int.eq_ofNat_of_zero_le b2
    simp only [hb, if_true]
    have e1 : ((an : Int)).toNat = an := rfl
    have e2 : ((nn : Int)).toNat = nn := rfl
    rw [e1, e2]
    have hfin : ∀ (w' : World) (g : Nat), w'.heap[g]? = some (.cells (u8s (R.bytes an nn)).toArray 5 (0, 0)) → BytesAt w' (some ⟨g, 0, none⟩) (R.bytes an nn) := fun w' g hg _ => ⟨g, 0, rfl, heap_lt hg, fun i hi => by rw [Nat.zero_add]; exact cells_u8 hg i hi⟩
    by_cases hne : an = 64 * R.n
    · have hn0 : nn = 0 := by omega
      subst hn0
      subst hne
      refine (read_end w F d S L R h hr).mono ?_
      rintro e w' ⟨g, rfl, hx, hk⟩
      exact ⟨_, _, rfl, hfin w' g hx, hk⟩
    · refine (read_rel w F d S L R an nn h hr hs (by omega) hne).mono ?_
      rintro e w' ⟨g, rfl, hx, hk⟩
      exact ⟨_, _, rfl, hfin w' g hx, hk⟩
  · have hb2 : insideB (64 * (R.n : Int)) a n = false := by simpa using hb
    simp only [hb2, Bool.false_eq_true, if_false]
    refine (read_no w F d S L R a n h hr hb2).mono ?_
    rintro e w' ⟨rfl, rfl⟩
    exact ⟨none, 0, rfl, fun h => absurd h (by simp), Keeps.refl _ _⟩

end Go.Proofs.Ytfiekdgpdboolac

namespace Go.Proofs.Ytfiekdgpdboolac
open Go.RowKit Go.Maps

theorem rread_any (w : World) (F : Nat → Prop) (r : Nat) (R : Rf) (M : RLay) (a n : Int) (h : RefAt w F r R M) (hn : R.now ≤ 1000000000) :
    Calls Try.prog 28 #[.pointer (some ⟨r, 0, none⟩), .int .i64 a, .int .i64 n] w fun e w' => ∃ p c, e = .returned (.tuple #[.slice p (if insideB (64 * (R.n : Int)) a n then n.toNat else 0) c, .int .i64 (if insideB (64 * (R.n : Int)) a n then 0 else 11)]) ∧ BytesAt w' p (if insideB (64 * (R.n : Int)) a n then R.bytes a.toNat n.toNat else []) ∧ Keeps (fun _ => False) w w' := by
  by_cases hb : insideB (64 * (R.n : Int)) a n = true
  · have hb0 := hb
    simp [insideB] at hb0
    obtain ⟨⟨⟨b1, b2⟩, b3⟩, b4⟩ := hb0
    obtain ⟨an, rfl⟩ := Int.eq_ofNat_of_zero_le b1
    obtain ⟨nn, rfl⟩ := Int.eq_ofNat_of_zero_le b2
    simp only [hb, if_true]
    have e1 : ((an : Int)).toNat = an := rfl
    have e2 : ((nn : Int)).toNat = nn := rfl
    rw [e1, e2]
    refine (rread_yes w F r R M an nn h (by omega) hn).mono ?_
    rintro e w' ⟨v, rfl, hx, hk⟩
    obtain ⟨p, c, hv, _⟩ := row_form hx
    subst hv
    exact ⟨p, c, rfl, bytesAt_row hx (by simp [Rf.bytes]), hk⟩
  · have hb2 : insideB (64 * (R.n : Int)) a n = false := by simpa using hb
    simp only [hb2, Bool.false_eq_true, if_false]
    refine (rread_no w F r R M a n h hb2).mono ?_
    rintro e w' ⟨rfl, rfl⟩
    exact ⟨none, 0, rfl, fun h => absurd h (by simp), Keeps.refl _ _⟩

set_option maxHeartbeats 1000000 in
set_option maxRecDepth 20000 in
theorem looks_word (w : World) (H : Nat → Prop) (d r : Nat) (N : Int) (D a n v : Int) (pB pL : Option Addr) (lB lL cB cL : Nat) (h : PairOK w H d r N) (hN : N ≤ 100000000) :
    Calls Try.prog 13 #[.pointer (some ⟨d, 0, none⟩), .pointer (some ⟨r, 0, none⟩), .agg (opCells 5 D a n v pB pL lB lL cB cL)] w fun e w' => e = .returned (.bool true) ∧ Keeps (fun _ => False) w w' := by
  obtain ⟨F, G, S, L, R, M, h1, h2, h3, h4, h5, h6⟩ := h
  have hkA : Keeps (fun _ => False) w (w.alloc (.cells (opCells 5 D a n v pB pL lB lL cB cL) 32)) := Keeps.of (World.grownBy_alloc w _ none) (by simp)
  obtain ⟨x0, x1, x2, x3, x4, x5, x6⟩ := op_cells (H := fun _ => False) (Keeps.refl (fun _ => False) (w.alloc (.cells (opCells 5 D a n v pB pL lB lL cB cL) 32))) (by simp)
  have HX := Hid.mk' (fun wr (k : Keeps (fun _ => False) (w.alloc (.cells (opCells 5 D a n v pB pL lB lL cB cL) 32)) wr) => op_cells (H := fun _ => False) k (by simp))
  have hp := word_rel _ F d S L R a (h1.kept hkA (by simp)) h3 (by rw [h3.steps]; omega)
  have HQ := Hid.mk' (fun w2 (k : Keeps (fun _ => False) (w.alloc (.cells (opCells 5 D a n v pB pL lB lL cB cL) 32)) w2) => rWord_any w2 G r R M a ((h2.kept hkA (by simp)).kept k (by simp)) (by omega))
  have HKA := Hid.mk' hkA
  generalize badWord (64 * R.n) a = bw at *
  generalize (if bw = 0 then R.nowW (a / 8).toNat else 0) = nv at *
  clear h1 h2 h3 h4 h5 h6 hkA
  go_enter Try.func13, Try.ntmps13
  go_wp2_with (first
    | (go_at_call 25; refine hp.mono ?_; rintro e w2 ⟨rfl, hk2⟩
       have hq := HQ.out w2 hk2
       obtain ⟨y0, y1, y2, y3, y4, y5, y6⟩ := HX.out w2 hk2
       have H2 := Hid.mk' (HKA.out.trans hk2)
       clear hp hk2)
    | (go_at_call 26; refine hq.mono ?_; rintro e w' ⟨rfl, hw⟩; subst w'; clear hq))
  go_ret
  exact ⟨ret_bool (by simp), H2.out⟩

set_option maxHeartbeats 1000000 in
set_option maxRecDepth 20000 in
theorem looks_read (w : World) (H : Nat → Prop) (d r : Nat) (N : Int) (D a n v : Int) (pB pL : Option Addr) (lB lL cB cL : Nat) (h : PairOK w H d r N) (hN : N ≤ 100000000) :
    Calls Try.prog 13 #[.pointer (some ⟨d, 0, none⟩), .pointer (some ⟨r, 0, none⟩), .agg (opCells 6 D a n v pB pL lB lL cB cL)] w fun e w' => e = .returned (.bool true) ∧ Keeps (fun _ => False) w w' := by
  obtain ⟨F, G, S, L, R, M, h1, h2, h3, h4, h5, h6⟩ := h
  have hkA : Keeps (fun _ => False) w (w.alloc (.cells (opCells 6 D a n v pB pL lB lL cB cL) 32)) := Keeps.of (World.grownBy_alloc w _ none) (by simp)
  obtain ⟨x0, x1, x2, x3, x4, x5, x6⟩ := op_cells (H := fun _ => False) (Keeps.refl (fun _ => False) (w.alloc (.cells (opCells 6 D a n v pB pL lB lL cB cL) 32))) (by simp)
  have HX := Hid.mk' (fun wr (k : Keeps (fun _ => False) (w.alloc (.cells (opCells 6 D a n v pB pL lB lL cB cL) 32)) wr) => op_cells (H := fun _ => False) k (by simp))
  have hp := read_any _ F d S L R a n (h1.kept hkA (by simp)) h3 (by rw [h3.steps]; omega)
  have HQ := Hid.mk' (fun w2 (k : Keeps (fun _ => False) (w.alloc (.cells (opCells 6 D a n v pB pL lB lL cB cL) 32)) w2) => rread_any w2 G r R M a n ((h2.kept hkA (by simp)).kept k (by simp)) (by omega))
  have HKA := Hid.mk' hkA
  have hln : (if insideB (64 * (R.n : Int)) a n then n.toNat else 0) = (if insideB (64 * (R.n : Int)) a n then R.bytes a.toNat n.toNat else ([] : List Int)).length ∧ (if insideB (64 * (R.n : Int)) a n then R.bytes a.toNat n.toNat else ([] : List Int)).length ≤ 140737488351232 := by
    have hnb := h3.nb
    by_cases hb : insideB (64 * (R.n : Int)) a n = true
    · have hb0 := hb
      simp [insideB] at hb0
      simp only [hb, if_true]
      simp [Rf.bytes]
      omega
    · simp only [hb]
      simp
  generalize (if insideB (64 * (R.n : Int)) a n then R.bytes a.toNat n.toNat else ([] : List Int)) = bs at *
  generalize (if insideB (64 * (R.n : Int)) a n then n.toNat else 0) = ln at *
  generalize (if insideB (64 * (R.n : Int)) a n then (0 : Int) else 11) = er at *
  obtain ⟨hln1, hln2⟩ := hln
  subst hln1
  clear h1 h2 h3 h4 h5 h6 hkA
  go_enter Try.func13, Try.ntmps13
  go_wp2_with (first
    | (go_at_call 27; refine hp.mono ?_; rintro e w2 ⟨p2, c2, rfl, hb2, hk2⟩
       have hq := HQ.out w2 hk2
       obtain ⟨y0, y1, y2, y3, y4, y5, y6⟩ := HX.out w2 hk2
       have H2 := Hid.mk' (show BytesAt w2 p2 bs ∧ Keeps (fun _ => False) w w2 from ⟨hb2, HKA.out.trans hk2⟩)
       clear hp hk2 hb2)
    | (go_at_call 28; refine hq.mono ?_; rintro e w3 ⟨p3, c3, rfl, hb3, hk3⟩
       have hsm := sameB_yes w3 p2 p3 c2 c3 bs (H2.out.1.kept hk3 (by simp)) hb3 hln2
       have H3 := Hid.mk' (H2.out.2.trans hk3)
       clear hq hk3 hb3)
    | (go_at_call 22; refine hsm.mono ?_; rintro e w4 ⟨rfl, qq, hw4⟩
       have H4 := Hid.mk' (H3.out.trans (keeps_drewN' (fun _ => False) _ _ _ hw4))
       clear hsm hw4))
  go_ret
  exact ⟨ret_bool (by simp), H4.out⟩

end Go.Proofs.Ytfiekdgpdboolac

namespace Go.Proofs.Ytfiekdgpdboolac
open Go.RowKit Go.Maps

set_option maxHeartbeats 4000000 in
set_option maxRecDepth 20000 in
theorem plays_all (w : World) (B bb : Nat) (dd rr : Nat → Nat) (HH : Nat → Nat → Prop) (N : Int) (kind D a n v : Int) (pB pL : Option Addr) (bs cs : List Int) (cB cL : Nat) (h : TrioAt w B bb dd rr HH N) (hB : B ≤ w.heap.size) (hN : 0 ≤ N) (hN1 : N ≤ 49000000) (ho : OpAt w B n v pB pL bs cs) :
    Calls Try.prog 8 #[.pointer (some ⟨bb, 0, none⟩), .agg (opCells kind D a n v pB pL bs.length cs.length cB cL)] w fun e w' => e = .returned (.bool true) ∧ TrioMoved B bb (N + 65536) w w' := by
  by_cases hk : kind ≠ 5 ∧ kind ≠ 6
  · exact plays_ok w B bb dd rr HH N kind D a n v pB pL bs cs cB cL h hB hN hN1 ho hk
  have hk56 : kind = 5 ∨ kind = 6 := by omega
  clear hk
  have hkA : Keeps (fun _ => False) w (w.alloc (.cells (opCells kind D a n v pB pL bs.length cs.length cB cL) 32)) := Keeps.of (World.grownBy_alloc w _ none) (by simp)
  obtain ⟨x0, x1, x2, x3, x4, x5, x6⟩ := op_cells (H := fun _ => False) (Keeps.refl (fun _ => False) (w.alloc (.cells (opCells kind D a n v pB pL bs.length cs.length cB cL) 32))) (by simp)
  have htA := h.kept hkA (by simp)
  have hBA : B ≤ (w.alloc (.cells (opCells kind D a n v pB pL bs.length cs.length cB cL) 32)).heap.size := Nat.le_trans hB hkA.size
  have hoB := ho.by_.kept (X := fun _ => False) hkA (by simp)
  have hoL := ho.il.kept (X := fun _ => False) hkA (by simp)
  have hpl := place_any D (w.alloc (.cells (opCells kind D a n v pB pL bs.length cs.length cB cL) 32))
  have hi := placeOf_lt D
  generalize placeOf D = i at *
  have hi0 : (0 : Int) ≤ (i : Int) := by omega
  have hi3 : (i : Int) < 3 := by omega
  obtain ⟨b1, b2⟩ := htA.cell hi
  have HKA := Hid.mk' hkA
  have HT := Hid.mk' htA
  have HBA := Hid.mk' (show B ≤ (w.alloc (.cells (opCells kind D a n v pB pL bs.length cs.length cB cL) 32)).heap.size ∧ i < 3 from ⟨hBA, hi⟩)
  have HST : Hid (∀ w2 w3, Keeps (fun _ => False) (w.alloc (.cells (opCells kind D a n v pB pL bs.length cs.length cB cL) 32)) w2 → PairMoved (HH i) (dd i) (rr i) (N + 65536) w2 w3 → TrioMoved B bb (N + 65536) w w3) := fun w2 w3 k2 hm => by
    have t2 := htA.kept k2 (by simp)
    obtain ⟨⟨HH', q1⟩, q2⟩ := t2.step hi hm (by omega) (Nat.le_trans hBA k2.size)
    exact ⟨⟨_, _, _, q1⟩, ((hkA.trans k2).mono fun _ _ h => h.elim).trans q2⟩
  have HSM : Hid (∀ w3, Keeps (fun _ => False) (w.alloc (.cells (opCells kind D a n v pB pL bs.length cs.length cB cL) 32)) w3 → TrioMoved B bb (N + 65536) w w3) := fun w3 k3 =>
    (TrioMoved.more ⟨⟨_, _, _, htA.kept k3 (by simp)⟩, (hkA.trans k3).mono fun _ _ h => h.elim⟩ (by omega))
  have hPP : ∀ wr, Keeps (fun _ => False) (w.alloc (.cells (opCells kind D a n v pB pL bs.length cs.length cB cL) 32)) wr → PairOK wr (HH i) (dd i) (rr i) N := fun wr k => (htA.pair i hi).kept k (by simp)
  have hlk : ∀ wr, Keeps (fun _ => False) (w.alloc (.cells (opCells kind D a n v pB pL bs.length cs.length cB cL) 32)) wr → Calls Try.prog 13 #[.pointer (some ⟨dd i, 0, none⟩), .pointer (some ⟨rr i, 0, none⟩), .agg (opCells kind D a n v pB pL bs.length cs.length cB cL)] wr fun e w' => e = .returned (.bool true) ∧ Keeps (fun _ => False) wr w' := fun wr k => by
    rcases hk56 with rfl | rfl
    · exact looks_word wr (HH i) (dd i) (rr i) N D a n v pB pL bs.length cs.length cB cL (hPP wr k) (by omega)
    · exact looks_read wr (HH i) (dd i) (rr i) N D a n v pB pL bs.length cs.length cB cL (hPP wr k) (by omega)
  have HLK := Hid.mk' hlk
  have k1 : 1 ≤ kind := by omega
  have k2 : ¬ kind ≤ 3 := by omega
  have k3 : 4 ≤ kind := by omega
  have k4 : kind ≤ 6 := by omega
  clear h htA hoB hoL ho hPP hkA hBA hi hlk hk56
  go_enter Try.func8, Try.ntmps8
  go_upto_region 5 with (first
    | (go_at_call 11; refine hpl.mono ?_; rintro e w' ⟨rfl, hw⟩; subst w'; clear hpl))
  go_region_with (first
    | (go_at_call 13; refine (HLK.out _ (by exact ⟨rfl, rfl, rfl, Nat.le_refl _, fun _ _ _ => rfl⟩)).mono ?_; rintro e w3 ⟨rfl, hk3⟩))
  all_goals
    go_wp2
    go_ret
    exact ⟨rfl, HSM.out _ (Keeps.trans (by exact ⟨rfl, rfl, rfl, Nat.le_refl _, fun _ _ _ => rfl⟩) hk3)⟩

set_option maxHeartbeats 4000000 in
set_option maxRecDepth 20000 in
theorem upTo_all (w : World) (p : Option Addr) (cap : Nat) (l : List OpV) (lo hi : Int) (hO : OpsAt w p l) (hl : l.length ≤ maxLen) :
    Calls Try.prog 6 #[.slice p l.length cap, .int .i64 lo, .int .i64 hi] w fun e w' => e = .returned (.bool true) ∧ Below w.heap.size w w' := by
  have hbe := begin_ok w
  have HO := Hid.mk' hO
  unfold maxLen at hl
  clear hO
  go_enter Try.func6, Try.ntmps6
  go_wp2_with (first | (go_at_call 7; refine hbe.mono ?_; rintro e w1 ⟨rfl, ht1, hk1⟩; have H1 := Hid.mk' (show (∃ dd rr HH, TrioAt w1 w.heap.size w.heap.size dd rr HH 0) ∧ Keeps (fun _ => False) w w1 from ⟨ht1, hk1⟩); clear hbe ht1 hk1))
  go_loopw [9] (fun i wr => ∃ k : Nat, k ≤ l.length ∧ k ≤ 400 ∧ i = .int .i64 k ∧ Hid ((∃ dd rr HH, TrioAt wr w.heap.size w.heap.size dd rr HH (65536 * (k : Int))) ∧ Keeps (fun x => w.heap.size ≤ x) w wr)) (fun i _ => 400 - (intOf i).toNat)
  case atStart => exact ⟨0, by omega, by omega, rfl, H1.out.1, H1.out.2.mono fun _ _ h => h.elim⟩
  case round =>
    obtain ⟨k, hk1, hk2, rfl, hrel⟩ := hrel
    by_cases hlt : k < l.length ∧ k < 400
    · obtain ⟨hlt1, hlt2⟩ := hlt
      obtain ⟨b, o, rfl, hb, hc⟩ := HO.out (by omega)
      obtain ⟨e0, e1, e2, e3, e4, e5, e6, e7⟩ := hc k hlt1
      have kk := hrel.out.2
      have e0' := kk.cell e0 (by simp; omega)
      have e1' := kk.cell e1 (by simp; omega)
      have e2' := kk.cell e2 (by simp; omega)
      have e3' := kk.cell e3 (by simp; omega)
      have e4' := kk.cell e4 (by simp; omega)
      have e5' := kk.cell e5 (by simp; omega)
      have e6' := kk.cell e6 (by simp; omega)
      have hi1 : (k : Int) < (l.length : Int) := by omega
      have hi2 : (k : Int) < 400 := by omega
      have hi0 : (0 : Int) ≤ (k : Int) := by omega
      obtain ⟨dd, rr, HH, ht⟩ := hrel.out.1
      have HT := Hid.mk' ht
      have HKK := Hid.mk' kk
      have HOP := Hid.mk' (e7.kept kk (fun i hi => hi))
      generalize l.getD k default = x at *
      obtain ⟨kind, D, a, n, v, pB, bs, cB, pL, cs, cL⟩ := x
      simp only at e0' e1' e2' e3' e4' e5' e6' HOP
      clear e0 e1 e2 e3 e4 e5 e6 e7 hc ht kk hrel
      have hplay : ∀ w2, w2 = wr.alloc (.cells (opCells kind D a n v pB pL bs.length cs.length cB cL) 32) → True → Calls Try.prog 8 #[.pointer (some ⟨w.heap.size, 0, none⟩), .agg (opCells kind D a n v pB pL bs.length cs.length cB cL)] w2 fun e w' => e = .returned (.bool true) ∧ TrioMoved w.heap.size w.heap.size (65536 * (k : Int) + 65536) w2 w' := fun w2 hw2 _ => by
        have k2 : Keeps (fun _ => False) wr w2 := by rw [hw2]; exact Keeps.of (World.grownBy_alloc wr _ none) (by simp)
        exact plays_all w2 w.heap.size w.heap.size dd rr HH (65536 * (k : Int)) kind D a n v pB pL bs cs cB cL (HT.out.kept k2 (by simp)) (Nat.le_trans HKK.out.size k2.size) (by omega) (by omega) (HOP.out.kept k2 (by simp))
      by_cases c1 : lo ≤ kind ∧ kind ≤ hi
      · obtain ⟨c2, c3⟩ := c1
        have hkd : True := trivial
        go_wp2_with (first
          | (go_at_call 8; refine (hplay _ rfl hkd).mono ?_; rintro e w3 ⟨rfl, hx⟩; have HM := Hid.mk' hx; clear hx))
        go_roundw
        case rel =>
          refine ⟨k + 1, by omega, by omega, by go_num, ?_, ?_⟩
          · obtain ⟨dd', rr', HH', q⟩ := HM.out.1
            exact ⟨dd', rr', HH', by rw [show (65536 * ((k + 1 : Nat) : Int)) = 65536 * (k : Int) + 65536 by omega]; exact q⟩
          · exact HKK.out.trans ((Keeps.of (World.grownBy_alloc wr _ none) (by simp)).trans HM.out.2)
        case measure => simp [intOf]; omega
      · have c4 : ¬ lo ≤ kind ∨ (lo ≤ kind ∧ ¬ kind ≤ hi) := by omega
        by_cases c5 : kind ≤ 3
        · have hkd : True := trivial
          rcases c4 with c4 | ⟨c4, c4'⟩
          all_goals
            go_wp2_with (first
              | (go_at_call 8; refine (hplay _ rfl hkd).mono ?_; rintro e w3 ⟨rfl, hx⟩; have HM := Hid.mk' hx; clear hx))
            go_roundw
            case rel =>
              refine ⟨k + 1, by omega, by omega, by go_num, ?_, ?_⟩
              · obtain ⟨dd', rr', HH', q⟩ := HM.out.1
                exact ⟨dd', rr', HH', by rw [show (65536 * ((k + 1 : Nat) : Int)) = 65536 * (k : Int) + 65536 by omega]; exact q⟩
              · exact HKK.out.trans ((Keeps.of (World.grownBy_alloc wr _ none) (by simp)).trans HM.out.2)
            case measure => simp [intOf]; omega
        · by_cases c6 : 7 ≤ kind ∧ kind ≤ 12
          · have hkd : True := trivial
            obtain ⟨c7, c8⟩ := c6
            rcases c4 with c4 | ⟨c4, c4'⟩
            all_goals
              go_wp2_with (first
                | (go_at_call 8; refine (hplay _ rfl hkd).mono ?_; rintro e w3 ⟨rfl, hx⟩; have HM := Hid.mk' hx; clear hx))
              go_roundw
              case rel =>
                refine ⟨k + 1, by omega, by omega, by go_num, ?_, ?_⟩
                · obtain ⟨dd', rr', HH', q⟩ := HM.out.1
                  exact ⟨dd', rr', HH', by rw [show (65536 * ((k + 1 : Nat) : Int)) = 65536 * (k : Int) + 65536 by omega]; exact q⟩
                · exact HKK.out.trans ((Keeps.of (World.grownBy_alloc wr _ none) (by simp)).trans HM.out.2)
              case measure => simp [intOf]; omega
          · have c7 : ¬ 7 ≤ kind ∨ (7 ≤ kind ∧ ¬ kind ≤ 12) := by omega
            clear hplay
            rcases c4 with c4 | ⟨c4, c4'⟩
            all_goals
              rcases c7 with c7 | ⟨c7, c7'⟩
              all_goals
                go_wp2
                go_roundw
                case rel =>
                  refine ⟨k + 1, by omega, by omega, by go_num, ?_, ?_⟩
                  · have k2 := Keeps.of (X := fun _ => False) (World.grownBy_alloc wr (.cells (opCells kind D a n v pB pL bs.length cs.length cB cL) 32) none) (by simp)
                    have q := HT.out.kept k2 (by simp)
                    exact ⟨dd, rr, HH, q.both, q.lo, fun i hi => (q.pair i hi).more (by omega), q.apart, q.hi⟩
                  · exact HKK.out.trans (Keeps.of (World.grownBy_alloc wr _ none) (by simp))
                case measure => simp [intOf]; omega
    · have hcut : ((k : Int) < (l.length : Int) ∧ ¬ (k : Int) < 400) ∨ ¬ (k : Int) < (l.length : Int) := by omega
      have HKK := Hid.mk' hrel.out.2
      clear hlt hrel hk1 hk2
      rcases hcut with ⟨hi1, hi2⟩ | hi1
      all_goals
        go_wp2
        go_ret
        exact ⟨rfl, HKK.out.below (Nat.le_refl _) (fun k hk => hk)⟩


end Go.Proofs.Ytfiekdgpdboolac
