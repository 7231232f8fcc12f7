import Derived.Test.YtfekgfimbkgkfabF3
import Derived.Test.YtfekgfimbkgkfabF2
namespace Go.Proofs.Ytfekgfimbkgkfab
open Go.RowKit Go.Maps

def mkS : ByteArray := ⟨#[109, 97, 114, 107]⟩
def moS : ByteArray := ⟨#[109, 111, 114, 101]⟩
def mE1 : Ed := (-7, mkS, 7, false)
def mE2 : Ed := (-8, moS, 8, false)
theorem mk_ok : (Lit.int .i64 (-7)).wf = true ∧ mkS.size ≤ maxLen := ⟨by decide, by unfold maxLen; decide⟩

structure LA (w : World) (bp : Nat) (vp : Value) (p : List ByteArray) (sl : Bool) (v0 : Value) (l : List Ed) (W : World) : Prop where
  kp : Keeps (fun _ => False) w W
  pb : PB W bp vp p sl
  ed : Row W v0 l.length (ecells l)
theorem LA.keep {w : World} {bp : Nat} {vp : Value} {p : List ByteArray} {sl : Bool} {v0 : Value} {l : List Ed} {W W' : World} (h : LA w bp vp p sl v0 l W) (k : Keeps (fun _ => False) W W') : LA w bp vp p sl v0 l W' := ⟨h.kp.trans k, h.pb.keep k, h.ed.keep k⟩
/-- .. with the two lists that have marks behind them. -/
structure LB (w : World) (bp : Nat) (vp : Value) (p : List ByteArray) (sl : Bool) (v0 : Value) (l : List Ed) (vf ve : Value) (W : World) : Prop where
  la : LA w bp vp p sl v0 l W
  fu : Row W vf (p.length + 2) (strs (p ++ [mkS, moS]))
  li : Row W ve (l.length + 2) (ecells (l ++ [mE1, mE2]))
theorem LB.keep {w : World} {bp : Nat} {vp : Value} {p : List ByteArray} {sl : Bool} {v0 : Value} {l : List Ed} {vf ve : Value} {W W' : World} (h : LB w bp vp p sl v0 l vf ve W) (k : Keeps (fun _ => False) W W') : LB w bp vp p sl v0 l vf ve W' := ⟨h.la.keep k, h.fu.keep k, h.li.keep k⟩
/-- .. with the path that is cut off the first, and a table. -/
structure LC (w : World) (bp : Nat) (vp : Value) (p : List ByteArray) (sl : Bool) (v0 : Value) (l : List Ed) (vf ve : Value) (bq : Nat) (vq : Value) (x bm : Nat) (W : World) : Prop where
  lb : LB w bp vp p sl v0 l vf ve W
  q : PB W bq vq p sl
  t : TabAt W x bm l.length (tabF l)
theorem LC.keep {w : World} {bp : Nat} {vp : Value} {p : List ByteArray} {sl : Bool} {v0 : Value} {l : List Ed} {vf ve : Value} {bq : Nat} {vq : Value} {x bm : Nat} {W W' : World} (h : LC w bp vp p sl v0 l vf ve bq vq x bm W) (k : Keeps (fun _ => False) W W') : LC w bp vp p sl v0 l vf ve bq vq x bm W' := ⟨h.lb.keep k, h.q.keep k, h.t.grow k⟩
theorem strs_app (a b : List ByteArray) : strs (a ++ b) = strs a ++ strs b := by simp [strs]
theorem ecells_app (a b : List Ed) : ecells (a ++ b) = ecells a ++ ecells b := by simp [ecells]
theorem Row.front {W : World} {a : Option Addr} {n c : Nat} {xs ys : List Value} (h : Row W (.slice a (n + 2) c) (n + 2) (xs ++ ys)) : Row W (.slice a n c) n xs := by
  have hc := h.cap
  refine ⟨a, c, rfl, by omega, fun _ => ?_⟩
  obtain ⟨b, o, c', e, hb, hh⟩ := h.pos (by omega)
  cases e
  exact ⟨b, o, rfl, hb, fun j u hj => hh j u (by rw [List.getElem?_append_left ((List.getElem?_eq_some_iff.1 hj).1)]; exact hj)⟩

set_option maxHeartbeats 8000000 in
set_option maxRecDepth 100000 in
theorem lent_walk (w : World) (v0 : Value) (l : List Ed) (h0 : Row w v0 l.length (ecells l)) (hl : l.length ≤ 3518437208780) (ho : ∀ e ∈ l, EdOk e) (vp : Value) (p : List ByteArray) (sl : Bool) (hp : Row w vp p.length (strs p)) (hk : PsOk p) (hk2 : p.length ≤ 8796093021952) :
    Calls Try.prog 6 #[v0, .agg #[vp, .bool sl]] w fun e w' => e = .returned (.bool true) ∧ Keeps (fun _ => False) w w' := by
  obtain ⟨i0, hi, hz0, hz1, hz2⟩ := info_parts info9
  obtain ⟨j0, hj, hy0, hy1, hy2⟩ := info_parts info40
  have HF : Hid (wfF (tabF l)) := wfF_tab ho
  have HK : Hid (PsOk p ∧ ∀ e ∈ l, EdOk e) := ⟨hk, ho⟩
  have HA0 : Hid (LA w w.heap.size vp p sl v0 l (w.alloc (.cells #[vp, .bool sl] 25))) := ⟨(Keeps.refl _ w).alloc _, ⟨heap_last _ _, hp.keep ((Keeps.refl _ w).alloc _)⟩, h0.keep ((Keeps.refl _ w).alloc _)⟩
  have h10 := first_any (w.alloc (.cells #[vp, .bool sl] 25))
  obtain ⟨va, vcp, rfl, hcap, _⟩ := id hp
  obtain ⟨ea, ecp, rfl, hecap, _⟩ := id h0
  have hpl := hk.1
  clear h0 ho hp hk
  go_enter Try.func6, Try.ntmps6
  go_wp2_with (first
    | (go_at_call 10; refine h10.mono ?_; clear h10; rintro e w1 ⟨rfl, hk1⟩
       have H1 := Hid.mk' (HA0.out.keep hk1)
       have a0 := H1.out.pb.c0
       have a1 := H1.out.pb.c1
       have N1 := Hid.mk' H1.out.pb.row.news
       clear hk1)
    | (at_builtin; refine wpList_append_own_at _ rfl _ _ 22 rfl w3.heap.size 40 j0 (.agg #[.int .i64 0, .string ⟨#[]⟩, .int .i64 0, .bool false]) 4 40 Try.underlying22 hj hy0 hy1 hy2 rfl (by decide) v4 l.length (ecells l) rfl (R4.out.alloc _) ⟨w4.heap.size, 0, none⟩ 2 2 (ecells [mE1, mE2]) rfl rfl (World.news_of_block (heap_last _ _)) (ecells_one _) (by unfold maxLen; omega) (by omega) (by rw [World.size_alloc]; have := K4.out.size; omega) ?_; intro v5 w5 hown5 hgr5 _ _
       obtain ⟨ra5, rc5, er5, hc5, _⟩ := Row.of_own hown5
       subst er5
       have hk5 := (K4.out.alloc (.cells #[.int .i64 (-7), .string ⟨#[109, 97, 114, 107]⟩, .int .i64 7, .bool false, .int .i64 (-8), .string ⟨#[109, 111, 114, 101]⟩, .int .i64 8, .bool false] 40)).step hgr5 (fun k hk => Or.inr (R4.out.lt k hk).1)
       have H5 : Hid (LB w w.heap.size (.slice va p.length vcp) p sl (.slice ea l.length ecp) l (.slice ra3 (p.length + 2) rc3) (.slice ra5 (l.length + 2) rc5) w5) := ⟨H3.out.keep hk5, F3.out.keep hk5, by have := Row.of_own hown5; rw [← ecells_app] at this; exact this⟩
       have b0 := H5.out.la.pb.c0
       have b1 := H5.out.la.pb.c1
       clear hown5 hgr5 hk5)
    | (at_builtin; refine wpList_append_own_at _ rfl _ _ 23 rfl w1.heap.size 9 i0 (.string ⟨#[]⟩) 1 16 Try.underlying23 hi hz0 hz1 hz2 rfl (by decide) v2 p.length (strs p) rfl (R2.out.alloc _) ⟨w2.heap.size, 0, none⟩ 2 2 (strs [mkS, moS]) rfl rfl (World.news_of_block (heap_last _ _)) (strs_one _) (by unfold maxLen; omega) (by omega) (by rw [World.size_alloc]; have := K2.out.size; omega) ?_; intro v3 w3 hown3 hgr3 _ _
       obtain ⟨ra3, rc3, er3, hc3, _⟩ := Row.of_own hown3
       subst er3
       have hk3 := (K2.out.alloc (.cells #[.string ⟨#[109, 97, 114, 107]⟩, .string ⟨#[109, 111, 114, 101]⟩] 9)).step hgr3 (fun k hk => Or.inr (R2.out.lt k hk).1)
       have H3 := Hid.mk' (H1.out.keep hk3)
       have F3 : Hid (Row w3 (.slice ra3 (p.length + 2) rc3) (p.length + 2) (strs (p ++ [mkS, moS]))) := by have := Row.of_own hown3; rw [← strs_app] at this; exact this
       have h20 := copyEdges_any w3 _ l H3.out.ed hl
       clear hown3 hgr3 hk3)
    | (at_builtin; refine wpList_append_any _ rfl _ _ 23 rfl w1.heap.size 9 i0 (.string ⟨#[]⟩) 1 16 Try.underlying23 hi hz0 hz1 hz2 rfl (by decide) (.slice none 0 0) 0 [] rfl (World.ownsRow_nil _ _ _ _) va p.length vcp (strs p) rfl (by rw [strs_len, Nat.mul_one]) N1.out (strs_one p) (by unfold maxLen; omega) (by omega) (Nat.le_refl _) ?_; intro v2 w2 hown2 hgr2
       have R2 : Hid (w2.ownsRow w1.heap.size 9 1 v2 p.length (strs p)) := by have := hown2; rw [Nat.zero_add, List.nil_append] at this; exact this
       have K2 : Hid (Keeps (fun _ => False) w1 w2) := Keeps.of hgr2 (by simp [Value.ownBlock])
       clear hown2 hgr2)
    | (go_at_call 20; refine h20.mono ?_; clear h20; rintro e w4 ⟨v4, rfl, H4x⟩
       have R4 := Hid.mk' H4x.out.1
       have K4 := Hid.mk' H4x.out.2
       clear H4x))
  have hpc : (p.length : Int) ≤ (rc3 : Int) := by omega
  have hec : (l.length : Int) ≤ (rc5 : Int) := by omega
  have hp0 : (0 : Int) ≤ (p.length : Int) := by omega
  have b2 : (w5.alloc (.cells #[.slice none 0 0, .bool false] 25)).cell? ⟨w.heap.size, 1, none⟩ = some (.bool sl) := ((Keeps.refl (fun _ => False) w5).alloc _).cell b1 id
  go_region
  have hA5 : Keeps (fun _ => False) w5 (w5.alloc (.cells #[.slice ra3 p.length rc3, .bool sl] 25)).drew := (((Keeps.refl _ w5).alloc _).trans (Keeps.drewN _ _ 1))
  have H6 : Hid (LB w w.heap.size (.slice va p.length vcp) p sl (.slice ea l.length ecp) l (.slice ra3 (p.length + 2) rc3) (.slice ra5 (l.length + 2) rc5) (w5.alloc (.cells #[.slice ra3 p.length rc3, .bool sl] 25)).drew ∧ PB (w5.alloc (.cells #[.slice ra3 p.length rc3, .bool sl] 25)).drew w5.heap.size (.slice ra3 p.length rc3) p sl) := ⟨H5.out.keep hA5, heap_last w5 _, by
    have := (H5.out.keep hA5).fu
    rw [strs_app] at this
    exact this.front⟩
  clear hA5 b0 b1 b2 a0 a1 H1 H3 F3 R2 R4 K2 K4 N1 HA0 H5
  generalize (w5.alloc (.cells #[.slice ra3 p.length rc3, .bool sl] 25)).drew = W6 at H6 ⊢
  obtain ⟨d0, d1⟩ := And.intro H6.out.2.c0 H6.out.2.c1
  obtain ⟨d2, d3⟩ := And.intro H6.out.1.la.pb.c0 H6.out.1.la.pb.c1
  have h9 := newTable_any W6 (.slice ra5 l.length rc5) l (by
    have := H6.out.1.li
    rw [ecells_app] at this
    exact this.front) (by omega) HK.out.2
  have HPS : Hid (PsOk p) := HK.out.1
  have hmk : mkS.toList = [109, 97, 114, 107] := by rw [ByteArray.toList_eq]; rfl
  have hmo : moS.toList = [109, 111, 114, 101] := by rw [ByteArray.toList_eq]; rfl
  go_wp2_with (first
    | (go_at_call 23; refine (sameEdges_any _ (.slice ra5 l.length rc5) (.slice ea l.length ecp) l l (by
         have := H15.out.1.lb.li
         rw [ecells_app] at this
         exact this.front) H15.out.1.lb.la.ed rfl (by omega)).mono ?_; rintro e w16 ⟨rfl, hk16⟩
       rw [decide_eq_true rfl]
       have K16 := Hid.mk' (H15.out.1.lb.la.kp.trans hk16)
       obtain ⟨eb, eo, ecc, ee, _, hec16⟩ := (H15.out.1.keep hk16).lb.li.pos (by omega)
       cases ee
       have m0 := hec16 (l.length * 4 + 0) (.int .i64 (-7)) (by rw [ecells_app, List.getElem?_append_right (by rw [ecells_len]; omega), ecells_len]; simp; rfl)
       have m1 := hec16 (l.length * 4 + 2) (.int .i64 7) (by rw [ecells_app, List.getElem?_append_right (by rw [ecells_len]; omega), ecells_len]; simp; rfl)
       have m2 := hec16 ((l.length + 1) * 4 + 0) (.int .i64 (-8)) (by rw [ecells_app, List.getElem?_append_right (by rw [ecells_len]; omega), ecells_len, show (l.length + 1) * 4 + 0 - l.length * 4 = 4 by omega]; rfl)
       have m3 := hec16 ((l.length + 1) * 4 + 2) (.int .i64 8) (by rw [ecells_app, List.getElem?_append_right (by rw [ecells_len]; omega), ecells_len, show (l.length + 1) * 4 + 2 - l.length * 4 = 6 by omega]; rfl)
       simp only [Nat.add_zero] at m0 m2
       rw [← Nat.add_assoc] at m1 m3
       clear hec16 hk16)
    | (go_at_call 13; refine (same_any _ (.slice ra3 p.length rc3) (.slice va p.length vcp) p p sl sl H14.out.1.q.row H14.out.1.lb.la.pb.row HPS.out.1).mono ?_; rintro e w15 ⟨rfl, hk15⟩
       rw [decide_eq_true (And.intro rfl rfl)]
       have H15 := Hid.mk' (And.intro (H14.out.1.keep hk15) trivial)
       obtain ⟨fb, fo, fcc, ef, _, hfc15⟩ := H15.out.1.lb.fu.pos (by omega)
       cases ef
       have n0 := hfc15 p.length (.string mkS) (by rw [strs_app, List.getElem?_append_right (by rw [strs_len]; omega), strs_len]; simp; rfl)
       have n1 := hfc15 (p.length + 1) (.string moS) (by rw [strs_app, List.getElem?_append_right (by rw [strs_len]; omega), strs_len, show p.length + 1 - p.length = 1 by omega]; rfl)
       clear hfc15 hk15)
    | (go_at_call 16; refine (look_any _ _ _ _ _ H13.out.2 (-7) mkS mk_ok.1 mk_ok.2).mono ?_; rintro e w14 ⟨rfl, hk14⟩
       have H14 := Hid.mk' (And.intro (H13.out.1.keep hk14) (H13.out.2.grow hk14))
       obtain ⟨q0, q1⟩ := And.intro H14.out.1.q.c0 H14.out.1.q.c1
       obtain ⟨q2, q3⟩ := And.intro H14.out.1.lb.la.pb.c0 H14.out.1.lb.la.pb.c1
       clear hk14)
    | (go_at_call 16; refine (look_any _ _ _ _ _ H12.out.1.t (-7) mkS mk_ok.1 mk_ok.2).mono ?_; rintro e w13 ⟨rfl, hk13⟩
       have H13 := Hid.mk' (And.intro (H12.out.1.keep hk13) (H12.out.2.grow hk13))
       clear hk13 H12)
    | (go_at_call 9; refine (newTable_any _ v11 l (Row.of_own R11.out) (by omega) HK.out.2).mono ?_; rintro e w12 ⟨rfl, H12x⟩
       have H12 := Hid.mk' (And.intro (H11.out.keep H12x.out.2) H12x.out.1)
       clear H12x)
    | (go_at_call 20; refine (copyEdges_any _ _ l H10.out.lb.la.ed hl).mono ?_; rintro e w11 ⟨v11, rfl, H11x⟩
       have H11 := Hid.mk' (H10.out.keep H11x.out.2)
       have R11 := Hid.mk' H11x.out.1
       clear H11x)
    | (go_at_call 22; refine (parent_any _ _ _ _ _ H9.out.t HF.out _ p sl H9.out.q.row HPS.out.1 HPS.out.2).mono ?_; rintro e w10 ⟨rfl, hk10⟩
       have H10 := Hid.mk' (H9.out.keep hk10)
       clear hk10)
    | (go_at_call 14; refine (resolve_any _ _ _ _ _ H8.out.t HF.out _ p sl H8.out.q.row HPS.out.1 HPS.out.2).mono ?_; rintro e w9 ⟨rfl, hk9⟩
       have H9 := Hid.mk' (H8.out.keep hk9)
       obtain ⟨o0, o1⟩ := And.intro H9.out.q.c0 H9.out.q.c1
       clear hk9)
    | (go_at_call 11; refine (clean_any _ _ p sl H7b.out.q.row HPS.out.1 HPS.out.2).mono ?_; rintro e w8 ⟨r8, rfl, H8x⟩
       have H8 := Hid.mk' (H7b.out.keep H8x.out.2)
       obtain ⟨p0, p1⟩ := And.intro H8.out.q.c0 H8.out.q.c1
       clear H8x)
    | (go_at_call 21; refine (text_any _ _ p sl H7.out.q.row (by omega) HPS.out.2).mono ?_; rintro e w7b ⟨rfl, hk7b⟩
       have H7b := Hid.mk' (H7.out.keep hk7b)
       obtain ⟨r0, r1⟩ := And.intro H7b.out.q.c0 H7b.out.q.c1
       clear hk7b)
    | (go_at_call 9; refine h9.mono ?_; clear h9; rintro e w7 ⟨rfl, H7x⟩
       have H7 : Hid (LC w w.heap.size (.slice va p.length vcp) p sl (.slice ea l.length ecp) l (.slice ra3 (p.length + 2) rc3) (.slice ra5 (l.length + 2) rc5) w5.heap.size (.slice ra3 p.length rc3) (W6.heap.size + 1) W6.heap.size w7) := ⟨H6.out.1.keep H7x.out.2, H6.out.2.keep H7x.out.2, H7x.out.1⟩
       obtain ⟨s0, s1⟩ := And.intro H7.out.q.c0 H7.out.q.c1
       clear H7x))
  go_ret
  exact ⟨rfl, K16.out⟩
end Go.Proofs.Ytfekgfimbkgkfab
