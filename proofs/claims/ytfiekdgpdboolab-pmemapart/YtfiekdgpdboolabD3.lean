import Derived.Test.YtfiekdgpdboolabD2
import Derived.Test.YtfiekdgpdboolabE1
import Derived.Test.YtfiekdgpdboolabB3
namespace Go.Proofs.Ytfiekdgpdboolab
open Go.RowKit Go.Maps

theorem keys_mem {w : World} {b n : Nat} {D : DataW Unit} (hown : w.ownsMap Try.prog 3 ptrElem b n D) : (intKeys D).Nodup ∧ ∀ x, x ∈ intKeys D ↔ Maps.has D (.int .i64 x) = true := by
  obtain ⟨es, hD, hpw, _⟩ := hown.entries keyLaw
  obtain ⟨es', hD', hko⟩ := hown.keysOf
  obtain rfl : es = es' := by rw [hD] at hD'; simpa using hD'
  subst hD
  have hk : ∀ p ∈ es, ∃ x, p.1 = .int .i64 x := fun p hp => by obtain ⟨v, hv⟩ := hko p hp; obtain ⟨x, _, hx, _⟩ := Maps.keyOf_i64 Try.underlying3 hv; exact ⟨x, hx⟩
  constructor
  · show (es.map fun p => Go.intOf p.1).Nodup
    refine List.pairwise_map.2 (hpw.imp_of_mem fun {p q} hp' hq' hne e => hne ?_)
    obtain ⟨a, ha⟩ := hk p hp'
    obtain ⟨c, hc⟩ := hk q hq'
    rw [ha, hc] at e ⊢
    exact congrArg _ e
  · intro x
    rw [has_eq, List.any_eq_true]
    show x ∈ es.map (fun p => Go.intOf p.1) ↔ _
    rw [List.mem_map]
    constructor
    · rintro ⟨p, hp', rfl⟩
      obtain ⟨a, ha⟩ := hk p hp'
      exact ⟨p, hp', by rw [ha]; simp [Lit.sameKey, Go.intOf]⟩
    · rintro ⟨p, hp', hs⟩
      obtain ⟨a, ha⟩ := hk p hp'
      rw [ha] at hs
      exact ⟨p, hp', by rw [ha]; simpa [Lit.sameKey, Go.intOf] using hs⟩

theorem rising_dev (w : World) (F : Nat → Prop) (d : Nat) (S : St) (L : Lay) (h : DevAt w F d S L) (hs' : S.steps ≤ 1000000000) :
    Calls Try.prog 46 #[.pointer (some ⟨d, 0, none⟩)] w fun e w' => ∃ p ks cap, e = .returned (.slice p ks.length cap) ∧ Rising S ks ∧ (0 < ks.length → ∃ g, p = some ⟨g, 0, none⟩ ∧ w.heap.size ≤ g ∧ ∀ i, i < ks.length → w'.cell? ⟨g, i, none⟩ = some (.int .i64 (ks.getD i 0))) ∧ ks.length ≤ 1000000000 ∧ Keeps (fun _ => False) w w' := by
  have hsz := h.hmap.size_le
  have hnn := h.nns
  refine (Try.rising d L.bm L.nn L.D ptrElem w h.hmap (dev_cells h.dev).2.1 (by unfold maxLen; omega) (by omega)).mono ?_
  rintro e w' ⟨v, ss, rfl, hS, hrow, hnil, hb⟩
  obtain ⟨hnd, hmem⟩ := keys_mem h.hmap
  have hperm : (ss.mergeSort (fun x y => decide (x ≤ y))).Perm (intKeys L.D) := (List.mergeSort_perm ss _).trans hS
  have hR : Rising S (ss.mergeSort (fun x y => decide (x ≤ y))) := by
    constructor
    · have tr : ∀ a b c : Int, decide (a ≤ b) = true → decide (b ≤ c) = true → decide (a ≤ c) = true := fun a b c h1 h2 => by simp only [decide_eq_true_eq] at *; omega
      have tt : ∀ a b : Int, (decide (a ≤ b) || decide (b ≤ a)) = true := fun a b => by simp only [Bool.or_eq_true, decide_eq_true_eq]; omega
      have h1 := List.pairwise_mergeSort tr tt ss
      have h2 : (ss.mergeSort (fun x y => decide (x ≤ y))).Nodup := hperm.nodup_iff.2 hnd
      exact (h1.and h2).imp (fun {a b} hab => by have := hab.1; have h3 := hab.2; simp only [decide_eq_true_eq] at this; omega)
    · intro a
      rw [hperm.mem_iff, hmem, has_some h]
      simp
  have hlen : (ss.mergeSort (fun x y => decide (x ≤ y))).length = ss.length := List.length_mergeSort ss
  have hkl : ss.length ≤ 1000000000 := by
    have h1 : ss.length = (intKeys L.D).length := hS.length_eq
    obtain ⟨es, hD, _⟩ := h.hmap.entries keyLaw
    rw [hD] at h1 hsz
    simp only [intKeys, List.length_map] at h1
    simp only [Maps.size] at hsz
    omega
  have hk : Keeps (fun _ => False) w w' := ⟨hb.os, hb.tape, hb.output, hb.size, fun k hk _ => hb.block k hk⟩
  rcases hrow.2 with ⟨e1, e2⟩ | ⟨g, cap, cur, e1, hg, hh, q1, q2, q3, q4⟩
  · refine ⟨none, _, 0, ?_, hR, ?_, ?_, hk⟩
    · rw [e1, hlen, e2]
    · intro h0; omega
    · omega
  · refine ⟨some ⟨g, 0, none⟩, _, cap, ?_, hR, ?_, ?_, hk⟩
    · rw [e1, hlen]
    · intro _
      refine ⟨g, rfl, hg, fun i hi => ?_⟩
      subst e1
      rw [hrow.cellAt i (by omega)]
      rw [List.getElem?_map, List.getD_eq_getElem?_getD, List.getElem?_eq_getElem hi]
      rfl
    · rw [hlen]; exact hkl

theorem crash_dev (w : World) (F : Nat → Prop) (d : Nat) (S : St) (L : Lay) (h : DevAt w F d S L) (hs' : S.steps ≤ 900000000) (hn0 : 8 ≤ S.old.length) (pc : Option Addr) (cc : Nat) (cs : List Int) (hcl : cs.length ≤ maxLen)
    (hpc : 0 < cs.length → ∃ cb co, pc = some ⟨cb, co, none⟩ ∧ cb < w.heap.size ∧ ∀ i, i < cs.length → w.cell? ⟨cb, co + i, none⟩ = some (.int .i64 (cs.getD i 0))) :
    Calls Try.prog 23 #[.pointer (some ⟨d, 0, none⟩), .slice pc cs.length cc] w fun e w' => ∃ ks, Rising S ks ∧ e = .returned (.slice (some ⟨w.heap.size, 0, none⟩) S.old.length S.old.length) ∧
      w'.heap[w.heap.size]? = some (.cells (u8s (S.crash ks cs)).toArray 5 (0, 0)) ∧ Keeps (fun _ => False) w w' :=
  crash_walk rising_dev w F d S L h hs' hn0 pc cc cs hcl hpc

end Go.Proofs.Ytfiekdgpdboolab
