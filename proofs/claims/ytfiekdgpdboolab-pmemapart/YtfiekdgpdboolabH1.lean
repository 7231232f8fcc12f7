import Derived.Test.YtfiekdgpdboolabF2
namespace Go.Proofs.Ytfiekdgpdboolab
open Go.RowKit Go.Maps

/-- The byte number i as it was stored last, but for the words of T. -/
def St.viewIn (S : St) (T : Int → Bool) (i : Nat) : Int :=
  if T (8 * (i / 8) : Nat) = false ∧ S.pd (8 * (i / 8) : Nat) ≠ [] then byteOf ((S.pd (8 * (i / 8) : Nat)).getD ((S.pd (8 * (i / 8) : Nat)).length - 1) 0) (i % 8) else S.old.getD i 0
def St.viewTo (S : St) (T : Int → Bool) : List Int := (List.range S.old.length).map (S.viewIn T)
/-- The bytes as they were stored last. -/
def St.view (S : St) : List Int := S.viewTo fun _ => false

theorem viewTo_len (S : St) (T : Int → Bool) : (S.viewTo T).length = S.old.length := by simp [St.viewTo]
theorem viewTo_get (S : St) (T : Int → Bool) (i : Nat) (hi : i < S.old.length) : (S.viewTo T).getD i 0 = S.viewIn T i := by
  simp [St.viewTo, List.getD_eq_getElem?_getD, hi]

theorem viewTo_step (S : St) (T : Int → Bool) (a : Int) (hp : S.pd a ≠ []) (h0 : 0 ≤ a) (h1 : a + 8 ≤ S.old.length) (h8 : a % 8 = 0) :
    layB (S.viewTo T) a.toNat ((S.pd a).getD ((S.pd a).length - 1) 0) = S.viewTo (less T a) := by
  apply list_eq_getD 0
  · rw [layB_len _ _ _ (by rw [viewTo_len]; omega), viewTo_len, viewTo_len]
  · intro i hi
    rw [layB_len _ _ _ (by rw [viewTo_len]; omega), viewTo_len] at hi
    rw [layB_get _ _ _ _ (by rw [viewTo_len]; omega), viewTo_get _ _ _ hi, viewTo_get _ _ _ hi]
    by_cases hc : a.toNat ≤ i ∧ i < a.toNat + 8
    · rw [if_pos hc]
      have e3 : ((8 * (i / 8) : Nat) : Int) = a := by omega
      have e4 : i % 8 = i - a.toNat := by omega
      simp only [St.viewIn, e3, less, e4]
      rw [if_pos ⟨by simp, hp⟩]
    · rw [if_neg hc]
      have e3 : ((8 * (i / 8) : Nat) : Int) ≠ a := by omega
      simp only [St.viewIn, less]
      simp only [decide_eq_true e3, Bool.and_true]

theorem viewTo_start (S : St) (T : Int → Bool) (hT : ∀ a, T a = false → S.pd a = []) : S.viewTo T = S.old := by
  apply list_eq_getD 0
  · rw [viewTo_len]
  · intro i hi
    rw [viewTo_len] at hi
    rw [viewTo_get _ _ _ hi]
    unfold St.viewIn
    rw [if_neg]
    intro h
    exact h.2 (hT _ h.1)

theorem viewTo_byts {w : World} {F : Nat → Prop} {d : Nat} {S : St} {L : Lay} (h : DevAt w F d S L) (T : Int → Bool) : ∀ b ∈ S.viewTo T, 0 ≤ b ∧ b ≤ 255 := by
  intro b hb
  simp only [St.viewTo, List.mem_map] at hb
  obtain ⟨i, _, rfl⟩ := hb
  unfold St.viewIn
  split
  · exact byteOf_bd _ _
  · simp only [List.getD_eq_getElem?_getD]
    rcases hb : S.old[i]? with _ | b
    · simp
    · exact h.byts b (List.mem_of_getElem? hb)

theorem viewTo_congr (S : St) (T T' : Int → Bool) (h : ∀ a, T a = T' a) : S.viewTo T = S.viewTo T' := by rw [show T = T' from funext h]

set_option maxHeartbeats 1000000 in
set_option maxRecDepth 20000 in
theorem view_dev (w : World) (F : Nat → Prop) (d : Nat) (S : St) (L : Lay) (h : DevAt w F d S L) (hs' : S.steps ≤ 900000000) :
    Calls Try.prog 24 #[.pointer (some ⟨d, 0, none⟩)] w fun e w' => e = .returned (.slice (some ⟨w.heap.size, 0, none⟩) S.old.length S.old.length) ∧
      w'.heap[w.heap.size]? = some (.cells (u8s S.view).toArray 5 (0, 0)) ∧ Keeps (fun _ => False) w w' := by
  obtain ⟨c0, c1, c2, c3, c4, c5, c6⟩ := dev_cells h.dev
  have hsz := h.size
  have hcop := copied_any ⟨L.ob, 0, none⟩ S.old.length S.old.length (u8s S.old) w (by simp [u8s]) (by omega) (fun j v hj => by
    have := h.bytes
    by_cases h0 : j = 0
    · subst h0; simpa [World.cell?, Addr.add, this] using hj
    · simpa [World.cell?, Addr.add, h0, this] using hj) (by intro v hv; simp only [u8s, List.mem_map] at hv; obtain ⟨_, _, rfl⟩ := hv; rfl) (heap_lt h.bytes)
  have HV : Hid (DevAt w F d S L) := h
  clear h c1 c2 c3 c4 c5 c6
  go_enter Try.func24, Try.ntmps24
  go_wp2_with (first
    | (go_at_call 44; refine hcop.mono ?_; rintro e w1 ⟨rfl, hb1, hg1, hs1⟩
       have H1 : Hid (w1.heap[w.heap.size]? = some (.cells (u8s S.old).toArray 5 (0, 0)) ∧ w.grownBy w1 none ∧ w1.heap.size = w.heap.size + 1) := ⟨hb1, hg1, hs1⟩
       have HD1 : Hid (DevAt w1 F d S L) := HV.out.kept (X := fun _ => False) (Keeps.of hg1 (by simp)) (by simp)
       have hm1 := HD1.out.hmap
       have k1 := (dev_cells HD1.out.dev).2.1
       clear hb1 hg1 hs1)
    | (at_range; refine wpList_range_own _ rfl _ 73 rfl 3 84 keyLaw Try.underlying73 ptrElem L.bm L.nn L.D rfl hm1 ?_; intro w2 hrg2 hg2 hs2))
  go_frame
  obtain ⟨hb1, hg1, hs1⟩ := H1.out
  have HFN : Hid (¬ F w.heap.size ∧ ¬ F w1.heap.size) := ⟨fun hf => by have := HV.out.fsz _ hf; omega, fun hf => by have := HV.out.fsz _ hf; omega⟩
  have HR1 : Hid (w1.heap.size = w.heap.size + 1) := hs1
  have HS2 : Hid (∃ left cnt, w2.ranges Try.prog 3 ptrElem L.bm w1.heap.size L.nn L.D left cnt ∧ DevAt w2 F d S L ∧ Keeps (fun _ => False) w w2 ∧ w2.heap[w.heap.size]? = some (.cells (u8s (S.viewTo fun a => left (.int .i64 a))).toArray 5 (0, 0)) ∧ ∀ a, left (.int .i64 a) = true → S.pd a ≠ []) := by
    have hh : ∀ a, Maps.has L.D (.int .i64 a) = decide (S.pd a ≠ []) := fun a => has_some HV.out a
    refine ⟨_, _, hrg2, HD1.out.kept (X := fun _ => False) (Keeps.of hg2 (by simp)) (by simp), (Keeps.of hg1 (by simp)).step hg2 (by simp), ?_, fun a ha => by rw [hh a] at ha; simpa using ha⟩
    rw [viewTo_start S _ (fun a ha => by
      have ha' : Maps.has L.D (.int .i64 a) = false := ha
      rw [hh a] at ha'; simpa using ha')]
    exact (hg2.block _ (by omega) (by simp)).trans hb1
  clear hb1 hg1 hs1 hrg2 hg2 hs2 hm1 k1 H1 HD1 hcop
  go_loopw [4] (fun _ wr => Hid (∃ left cnt, wr.ranges Try.prog 3 ptrElem L.bm w1.heap.size L.nn L.D left cnt ∧ DevAt wr F d S L ∧ Keeps (fun _ => False) w wr ∧ wr.heap[w.heap.size]? = some (.cells (u8s (S.viewTo fun a => left (.int .i64 a))).toArray 5 (0, 0)) ∧ ∀ a, left (.int .i64 a) = true → S.pd a ≠ []))
    (fun _ wr => wr.rangeLeft L.bm w1.heap.size)
  case atStart => exact HS2
  case round =>
    obtain ⟨left, cnt, hrg, hdev, hkp, hbb, hlf⟩ := hrel
    go_wp2_with (first | (at_next; refine wpList_next_ranges _ rfl _ rfl 3 keyLaw ptrElem (Value.int .i64) ptrOf invK3 invV3 L.bm w1.heap.size L.nn L.D left cnt rfl hrg ?_ ?_))
    · intro _ hl0
      have HB : Hid (wr.heap[w.heap.size]? = some (.cells (u8s S.view).toArray 5 (0, 0))) := by
        have e := viewTo_congr S (fun a => left (.int .i64 a)) (fun _ => false) (fun a => hl0 _)
        rw [e] at hbb
        exact hbb
      have HK := Hid.mk' hkp
      clear hrg hdev hkp hbb hlf hl0
      go_wp2
      go_ret
      exact ⟨rfl, HB.out, HK.out⟩
    · intro x c kl yd yp w3 cnt3 hkey hlk hv hat hrg3 hlt hg3 hs3 hen
      obtain ⟨x', ex, rfl, hwx⟩ := Maps.keyOf_int_inv Try.underlying3 hkey
      cases ex
      have hpx : S.pd x ≠ [] := hlf x hlk
      have hat2 := hat .nil
      rw [hdev.at_some hpx] at hat2
      have hat3 : yd = .lit (.int .i64 (L.pp x)) := hat2.symm
      subst hat3
      obtain rfl : c = some (L.pp x) := by
        have := ptrElem_int hv
        cases c with
        | none => simp [ptrOf] at this
        | some c => simp [ptrOf] at this; rw [this]
      simp only [ptrOf, Option.map] at hen ⊢
      have hdom := hdev.dom x hpx
      obtain ⟨xn, rfl⟩ := Int.eq_ofNat_of_zero_le hdom.1
      have hd3 : DevAt w3 F d S L := hdev.kept (X := fun i => i = w1.heap.size) (Keeps.of hg3 (by simp)) (fun i hi e => HFN.out.2 (e ▸ hi))
      have hb3 : w3.heap[w.heap.size]? = some (.cells (u8s (S.viewTo fun a => left (.int .i64 a))).toArray 5 (0, 0)) := (hg3.block _ (heap_lt hbb) (by have := HR1.out; simp; omega)).trans hbb
      have hlen := hd3.lens xn
      have hkl : 0 < (S.pd (xn : Int)).length := by
        rcases hq : S.pd (xn : Int) with _ | ⟨q, l⟩
        · exact absurd hq hpx
        · simp
      obtain ⟨v, hvv⟩ : ∃ v, v = (S.pd (xn : Int)).getD ((S.pd (xn : Int)).length - 1) 0 := ⟨_, rfl⟩
      have hnow := now_any (L.pp xn) (L.gg xn) (S.pd (xn : Int)).length (L.cp xn) (S.ms xn) v _ w3 (hd3.pend xn hpx).1 (hd3.pend xn hpx).2 hkl (by omega) (by
        rw [hvv]
        simp [u64s, List.getD_eq_getElem?_getD, List.getElem?_eq_getElem (show (S.pd (xn : Int)).length - 1 < (S.pd (xn : Int)).length by omega)])
      have hlay : ∀ nq, Calls Try.prog 41 #[.slice (some ⟨w.heap.size, 0, none⟩) S.old.length S.old.length, .int .i64 xn, .int .u64 v] (w3.drewN nq) _ := fun nq => lay_any w.heap.size S.old.length xn v (u8s (S.viewTo fun a => left (.int .i64 a))) (w3.drewN nq) hb3 (by simp [u8s, viewTo_len]) (by omega) (by omega)
      have HD3 := Hid.mk' hd3
      have HKP : Hid (Keeps (fun _ => False) w w3) := hkp.step hg3 (by rintro i e; cases e; exact Or.inr (by have := HR1.out; omega))
      have HRG : Hid (wr.ranges Try.prog 3 ptrElem L.bm w1.heap.size L.nn L.D left cnt) := hrg
      have HVV : Hid (v = (S.pd (xn : Int)).getD ((S.pd (xn : Int)).length - 1) 0 ∧ S.pd (xn : Int) ≠ [] ∧ 0 ≤ (xn : Int) ∧ (xn : Int) + 8 ≤ S.old.length ∧ (xn : Int) % 8 = 0) := ⟨hvv, hpx, hdom⟩
      clear hat hat2 hkey hv hdev hkp hg3 hs3 hrg hd3 hb3 hbb hvv hpx hdom hlen hkl
      go_wp2_with (first
        | (go_at_call 45; refine hnow.mono ?_; rintro e w4 ⟨rfl, nq, hw4⟩; subst w4)
        | (go_at_call 41; refine (hlay nq).mono ?_; rintro e w5 ⟨rfl, hb5, hg5⟩))
      have hg5' : w3.grownBy w5 (some w.heap.size) := ⟨hg5.os, hg5.tape, hg5.output, hg5.size, hg5.block⟩
      have hrg5 := hrg3.kept hg5' (by
        have := HV.out.fsz _ HV.out.fm
        simp; omega) (by have := HR1.out; simp; omega)
      go_roundw
      case rel =>
        refine ⟨_, cnt3, hrg5, HD3.out.kept (X := fun i => i = w.heap.size) (Keeps.of hg5' (by simp)) (fun i hi e => HFN.out.1 (e ▸ hi)), HKP.out.step hg5' (by rintro i e; cases e; exact Or.inr (Nat.le_refl _)), ?_, ?_⟩
        · have e1 : S.viewTo (fun a => left (.int .i64 a) && !(Lit.int .i64 a).sameKey (.int .i64 (xn : Int))) = S.viewTo (less (fun a => left (.int .i64 a)) (xn : Int)) := viewTo_congr _ _ _ (fun a => by simp [less, sameKey_int])
          obtain ⟨v1, v2, v3, v4, v5⟩ := HVV.out
          rw [e1, ← viewTo_step S _ (xn : Int) v2 v3 v4 v5, u8s_layB, ← v1]
          exact hb5
        · intro a ha
          simp at ha
          exact hlf a ha.1
      case measure => rw [hrg5.left_eq, HRG.out.left_eq]; exact hlt

end Go.Proofs.Ytfiekdgpdboolab
