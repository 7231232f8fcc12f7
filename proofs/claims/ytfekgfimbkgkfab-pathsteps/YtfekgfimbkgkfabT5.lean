import Derived.Test.YtfekgfimbkgkfabT4
import Derived.Test.YtfekgfimbkgkfabF3
namespace Go.Proofs.Ytfekgfimbkgkfab
open Go.RowKit Go.Maps

/-- Parent's three ways, and what is asked on them. -/
theorem hears_cases (F : Dr) (p : List ByteArray) :
    (named p = false ∧ prn F p = (0, ⟨#[]⟩, 145)) ∨
    (named p = true ∧ ∃ e, (e = 143 ∨ e = 144) ∧ prn F p = (0, ⟨#[]⟩, e) ∧ asked F p (p.length - 1) = asked F p p.length) ∨
    (named p = true ∧ ∃ d s e, prn F p = (d, s, 0) ∧ asked F p p.length = asked F p (p.length - 1) ++ [e]) := by
  rcases Bool.eq_false_or_eq_true (named p) with hN | hN
  · right
    have h0 := named_ne hN
    have h1 : 0 < p.length := List.length_pos_iff.2 h0
    have hd : isDot (lastP p) = false ∧ isUp (lastP p) = false := by
      unfold named at hN
      cases h1 : isDot (lastP p) <;> cases h2 : isUp (lastP p) <;> simp_all
    obtain ⟨q, hq⟩ : ∃ q, p.length = q + 1 := ⟨p.length - 1, by omega⟩
    have hs : asked F p p.length = asked F p q ++ ask1 (lead F p.dropLast) (lastP p) := by
      rw [hq, dropLast_take, lastP_getD, hq]; rfl
    have hp : prn F p = match lead F p.dropLast with
        | .bad e => (0, ⟨#[]⟩, e)
        | .ok a _ => if a.2 = true then (a.1, lastP p, 0) else (0, ⟨#[]⟩, 144) := by
      unfold prn; rw [if_pos hN]; cases lead F p.dropLast <;> rfl
    have hq' : p.length - 1 = q := by omega
    rw [hq']
    cases hl : lead F p.dropLast with
    | bad e =>
      rw [hl] at hp hs
      left
      exact ⟨hN, e, lead_bad hl, hp, by rw [hs]; exact (List.append_nil _).symm⟩
    | ok a r =>
      rw [hl] at hp hs
      simp only at hp
      have hs : asked F p p.length = asked F p q ++ (if (a.2 && !isDot (lastP p) && !isUp (lastP p)) = true then [(a.1, lastP p, 0, false)] else []) := hs
      by_cases ha : a.2 = true
      · right
        rw [if_pos ha] at hp
        rw [if_pos (by simp [ha, hd])] at hs
        exact ⟨hN, _, _, _, hp, hs⟩
      · left
        rw [if_neg ha] at hp
        rw [if_neg (by simp [ha])] at hs
        exact ⟨hN, 144, Or.inr rfl, hp, by rw [hs, List.append_nil]⟩
  · left
    refine ⟨hN, ?_⟩
    unfold prn; rw [if_neg (by simp [hN])]

/-- What hears is given. -/
structure HC (w : World) (v0 : Value) (l : List Ed) (F : Dr) (xt bm n : Nat) (vp : Value) (p : List ByteArray) (vq : Value) : Prop where
  re : Row w v0 l.length (ecells l)
  fl : tabF l = F
  wf : wfF F
  ll : l.length ≤ 3518437208780
  tab : TabAt w xt bm n F
  rp : Row w vp p.length (strs p)
  pl : p.length ≤ 1000
  pz : ∀ s ∈ p, s.size ≤ 281474976710656
  rq : Row w vq (asked F p p.length).length (ecells (asked F p p.length))
theorem HC.eo {w : World} {v0 : Value} {l : List Ed} {F : Dr} {xt bm n : Nat} {vp : Value} {p : List ByteArray} {vq : Value} (h : HC w v0 l F xt bm n vp p vq) {x : Nat} (hx : w.heap.size ≤ x) : EO x v0 l F vp p :=
  ⟨h.fl, h.wf, fun g hg h0 => Nat.lt_of_lt_of_le (h.re.lt g hg h0) hx, h.ll, fun g hg h0 => Nat.lt_of_lt_of_le (h.rp.lt g hg h0) hx, h.pl, h.pz⟩
/-- What hears holds: the path's box, two Ears. -/
structure HS (w : World) (v0 vp : Value) (sl : Bool) (x1 : Nat) (va1 : Value) (q1 : List Ed) (x2 : Nat) (va2 : Value) (W : World) : Prop where
  kp : Keeps (fun _ => False) w W
  bx : W.heap[w.heap.size]? = some (.cells #[vp, .bool sl] 25 (0, 0))
  s1 : W.heap[x1]? = some (.cells #[v0, va1] 71 (0, 0))
  r1 : Row W va1 q1.length (ecells q1)
  s2 : W.heap[x2]? = some (.cells #[v0, va2] 71 (0, 0))
/-- .. behind Parent of the second. -/
structure HT (w : World) (v0 vp : Value) (sl : Bool) (x2 : Nat) (va2 : Value) (q2 : List Ed) (W : World) : Prop where
  kp : Keeps (fun _ => False) w W
  bx : W.heap[w.heap.size]? = some (.cells #[vp, .bool sl] 25 (0, 0))
  s2 : W.heap[x2]? = some (.cells #[v0, va2] 71 (0, 0))
  r2 : Row W va2 q2.length (ecells q2)
section
variable {w W W' : World} {v0 vp vq : Value} {l : List Ed} {F : Dr} {xt bm n : Nat} {p : List ByteArray} {sl : Bool} {x1 x2 : Nat} {va1 va2 : Value} {q1 q2 : List Ed}
theorem HS.keep (h : HS w v0 vp sl x1 va1 q1 x2 va2 W) (k : Keeps (fun _ => False) W W') : HS w v0 vp sl x1 va1 q1 x2 va2 W' := ⟨h.kp.trans k, k.at h.bx id, k.at h.s1 id, h.r1.keep k, k.at h.s2 id⟩
theorem HT.keep (h : HT w v0 vp sl x2 va2 q2 W) (k : Keeps (fun _ => False) W W') : HT w v0 vp sl x2 va2 q2 W' := ⟨h.kp.trans k, k.at h.bx id, k.at h.s2 id, h.r2.keep k⟩
theorem HS.res1 (C : Hid (HC w v0 l F xt bm n vp p vq)) (H : Hid (HS w v0 vp sl x1 (.slice none 0 0) [] x2 va2 W)) (hx : w.heap.size < x1) (h12 : x1 ≠ x2) :
    Calls Try.prog 14 #[.iface 69 (.pointer (some ⟨x1, 0, none⟩)), .agg #[vp, .bool sl]] W fun e w' => e = .returned (.tuple #[.int .i64 (rsv F p sl).1, .bool (rsv F p sl).2.1, .int .i64 (rsv F p sl).2.2]) ∧ ∃ a c, Hid (HS w v0 vp sl x1 (.slice a (asked F p p.length).length c) (asked F p p.length) x2 va2 w') := by
  refine (resolve_ears W x1 v0 l F ⟨H.out.s1, C.out.re.keep H.out.kp⟩ vp p sl (C.out.eo (by omega)) (C.out.rp.keep H.out.kp)).mono ?_
  rintro e w' ⟨rfl, H2⟩
  obtain ⟨va, h1, h2⟩ := H2.out
  have hr := Row.of_own h1.ra
  obtain ⟨a, c, rfl, _⟩ := id hr
  exact ⟨rfl, a, c, H.out.kp.then h2 (fun k hk => Or.inr (by omega)), h2.at H.out.bx (by omega), h1.st, hr, h2.at H.out.s2 (fun e => h12 e.symm)⟩
theorem HS.res2 (C : Hid (HC w v0 l F xt bm n vp p vq)) (H : Hid (HS w v0 vp sl x1 va1 q1 x2 va2 W)) :
    Calls Try.prog 14 #[.iface 26 (.pointer (some ⟨xt, 0, none⟩)), .agg #[vp, .bool sl]] W fun e w' => e = .returned (.tuple #[.int .i64 (rsv F p sl).1, .bool (rsv F p sl).2.1, .int .i64 (rsv F p sl).2.2]) ∧ Hid (HS w v0 vp sl x1 va1 q1 x2 va2 w') := by
  have hn := C.out.pl
  refine (resolve_any W xt bm n F (C.out.tab.grow H.out.kp) C.out.wf vp p sl (C.out.rp.keep H.out.kp) (by omega) C.out.pz).mono ?_
  rintro e w' ⟨rfl, hk⟩
  exact ⟨rfl, H.out.keep hk⟩
theorem HS.same (C : Hid (HC w v0 l F xt bm n vp p vq)) (H : Hid (HS w v0 vp sl x1 va1 (asked F p p.length) x2 va2 W)) :
    Calls Try.prog 23 #[va1, vq] W fun e w' => e = .returned (.bool true) ∧ Hid (HS w v0 vp sl x1 va1 (asked F p p.length) x2 va2 w') := by
  have hn := C.out.pl
  have hl := asked_len F p p.length
  refine (sameEdges_any W va1 vq _ _ H.out.r1 (C.out.rq.keep H.out.kp) rfl (by omega)).mono ?_
  rintro e w' ⟨rfl, hk⟩
  exact ⟨by simp, H.out.keep hk⟩
theorem HS.par1 (C : Hid (HC w v0 l F xt bm n vp p vq)) (H : Hid (HS w v0 vp sl x1 va1 q1 x2 (.slice none 0 0) W)) (hx : w.heap.size < x2) (hq : (if named p = true then asked F p (p.length - 1) else []) = q2) :
    Calls Try.prog 22 #[.iface 69 (.pointer (some ⟨x2, 0, none⟩)), .agg #[vp, .bool sl]] W fun e w' => e = .returned (.tuple #[.int .i64 (prn F p).1, .string (prn F p).2.1, .int .i64 (prn F p).2.2]) ∧ ∃ a c, Hid (HT w v0 vp sl x2 (.slice a q2.length c) q2 w') := by
  refine (parent_ears W x2 v0 l F ⟨H.out.s2, C.out.re.keep H.out.kp⟩ vp p sl (C.out.eo (by omega)) (C.out.rp.keep H.out.kp)).mono ?_
  rintro e w' ⟨rfl, H2⟩
  obtain ⟨va, h1, h2⟩ := H2.out
  rw [hq] at h1
  have hr := Row.of_own h1.ra
  obtain ⟨a, c, rfl, _⟩ := id hr
  exact ⟨rfl, a, c, H.out.kp.then h2 (fun k hk => Or.inr (by omega)), h2.at H.out.bx (by omega), h1.st, hr⟩
theorem HT.par2 (C : Hid (HC w v0 l F xt bm n vp p vq)) (H : Hid (HT w v0 vp sl x2 va2 q2 W)) :
    Calls Try.prog 22 #[.iface 26 (.pointer (some ⟨xt, 0, none⟩)), .agg #[vp, .bool sl]] W fun e w' => e = .returned (.tuple #[.int .i64 (prn F p).1, .string (prn F p).2.1, .int .i64 (prn F p).2.2]) ∧ Hid (HT w v0 vp sl x2 va2 q2 w') := by
  have hn := C.out.pl
  refine (parent_any W xt bm n F (C.out.tab.grow H.out.kp) C.out.wf vp p sl (C.out.rp.keep H.out.kp) (by omega) C.out.pz).mono ?_
  rintro e w' ⟨rfl, hk⟩
  exact ⟨rfl, H.out.keep hk⟩
/-- sameEdges of what the second was asked and the first of asks. -/
theorem HT.same (C : Hid (HC w v0 l F xt bm n vp p vq)) (H : Hid (HT w v0 vp sl x2 va2 q2 W)) (a : Option Addr) (c m : Nat) (hv : vq = .slice a (asked F p p.length).length c) (hm : m ≤ (asked F p p.length).length) (hq : (asked F p p.length).take m = q2) :
    Calls Try.prog 23 #[va2, .slice a m c] W fun e w' => e = .returned (.bool true) ∧ Hid (HT w v0 vp sl x2 va2 q2 w') := by
  have hn := C.out.pl
  have hl := asked_len F p p.length
  have hr := C.out.rq
  rw [hv] at hr
  have hr2 := (hr.takeE hm).keep H.out.kp
  rw [hq] at hr2
  have hq2 : q2.length ≤ 1000 := by rw [← hq, List.length_take]; omega
  refine (sameEdges_any W va2 _ _ _ H.out.r2 hr2 rfl (by omega)).mono ?_
  rintro e w' ⟨rfl, hk⟩
  exact ⟨by simp, H.out.keep hk⟩
end
end Go.Proofs.Ytfekgfimbkgkfab
