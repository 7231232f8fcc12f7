import Derived.Test.YtfekgfimbkgkfabF1
namespace Go.Proofs.Ytfekgfimbkgkfab
open Go.RowKit Go.Maps

/-- A table, and a path in a box. -/
structure TS (w : World) (x bm n : Nat) (F : Dr) (bp : Nat) (v : Value) (p : List ByteArray) (sl : Bool) (W : World) : Prop where
  kp : Keeps (fun _ => False) w W
  tab : TabAt W x bm n F
  pp : PB W bp v p sl
section
variable {w W : World} {x bm n : Nat} {F : Dr} {bp : Nat} {v : Value} {p : List ByteArray} {sl : Bool}
theorem TS.keep {W' : World} (h : TS w x bm n F bp v p sl W) (k : Keeps (fun _ => False) W W') : TS w x bm n F bp v p sl W' := ⟨h.kp.trans k, h.tab.grow k, h.pp.keep k⟩
theorem TS.resolve (H : Hid (TS w x bm n F bp v p sl W)) (hF : Hid (wfF F)) (hp : Hid (PsOk p)) : Calls Try.prog 14 #[.iface 26 (.pointer (some ⟨x, 0, none⟩)), .agg #[v, .bool sl]] W fun e w' => e = .returned (.tuple #[.int .i64 (rsv F p sl).1, .bool (rsv F p sl).2.1, .int .i64 (rsv F p sl).2.2]) ∧ Hid (TS w x bm n F bp v p sl w') := by
  refine (resolve_any W x bm n F H.out.tab hF.out v p sl H.out.pp.row hp.out.1 hp.out.2).mono ?_
  rintro e w' ⟨rfl, hk⟩
  exact ⟨rfl, H.out.keep hk⟩
/-- .. of another path. -/
theorem TS.resolve2 (H : Hid (TS w x bm n F bp v p sl W)) (hF : Hid (wfF F)) (v2 : Value) (q : List ByteArray) (s2 : Bool) (hr : Hid (Row W v2 q.length (strs q))) (hp : Hid (PsOk q)) : Calls Try.prog 14 #[.iface 26 (.pointer (some ⟨x, 0, none⟩)), .agg #[v2, .bool s2]] W fun e w' => e = .returned (.tuple #[.int .i64 (rsv F q s2).1, .bool (rsv F q s2).2.1, .int .i64 (rsv F q s2).2.2]) ∧ Hid (TS w x bm n F bp v p sl w' ∧ Keeps (fun _ => False) W w') := by
  refine (resolve_any W x bm n F H.out.tab hF.out v2 q s2 hr.out hp.out.1 hp.out.2).mono ?_
  rintro e w' ⟨rfl, hk⟩
  exact ⟨rfl, H.out.keep hk, hk⟩
theorem TS.parent (H : Hid (TS w x bm n F bp v p sl W)) (hF : Hid (wfF F)) (hp : Hid (PsOk p)) : Calls Try.prog 22 #[.iface 26 (.pointer (some ⟨x, 0, none⟩)), .agg #[v, .bool sl]] W fun e w' => e = .returned (.tuple #[.int .i64 (prn F p).1, .string (prn F p).2.1, .int .i64 (prn F p).2.2]) ∧ Hid (TS w x bm n F bp v p sl w') := by
  refine (parent_any W x bm n F H.out.tab hF.out v p sl H.out.pp.row hp.out.1 hp.out.2).mono ?_
  rintro e w' ⟨rfl, hk⟩
  exact ⟨rfl, H.out.keep hk⟩
theorem TS.look (H : Hid (TS w x bm n F bp v p sl W)) (d : Int) (s : ByteArray) (hd : (Lit.int .i64 d).wf = true) (hs : s.size ≤ maxLen) : Calls Try.prog 16 #[.pointer (some ⟨x, 0, none⟩), .int .i64 d, .string s] W fun e w' => e = .returned (.tuple #[.int .i64 (F d s).1, .bool (F d s).2]) ∧ Hid (TS w x bm n F bp v p sl w') := by
  refine (look_any W x bm n F H.out.tab d s hd hs).mono ?_
  rintro e w' ⟨rfl, hk⟩
  exact ⟨rfl, H.out.keep hk⟩
theorem TS.step (H : Hid (TS w x bm n F bp v p sl W)) (hp : Hid (PsOk p)) (k : Nat) (hk : k ≤ p.length) : Calls Try.prog 15 #[.agg #[v, .bool sl], .int .i64 k] W fun e w' => ∃ r : Option Addr, ∃ c : Nat, e = .returned (.agg #[.slice r k c, .bool false]) ∧ Hid (TS w x bm n F bp v p sl w' ∧ w'.ownsRow W.heap.size 9 1 (.slice r k c) k (strs (p.take k)) ∧ Row w' (.slice r k c) (p.take k).length (strs (p.take k)) ∧ Keeps (fun _ => False) W w') := by
  refine (step_any W v p sl k H.out.pp.row hp.out.1 hk).mono ?_
  rintro e w' ⟨r, rfl, H2⟩
  have hl : (p.take k).length = k := by rw [List.length_take]; omega
  have h1 := H2.out.1
  have h2 := Row.of_own h1
  obtain ⟨a, c, e, _⟩ := id h2
  rw [hl] at e h1
  subst e
  exact ⟨a, c, rfl, H.out.keep H2.out.2, h1, h2, H2.out.2⟩
end
theorem start_any (w : World) (v0 : Value) (l : List Ed) (h0 : Row w v0 l.length (ecells l)) (hl : l.length ≤ 3518437208780) (ho : ∀ e ∈ l, EdOk e) (vp : Value) (p : List ByteArray) (sl : Bool) (hp : Row w vp p.length (strs p)) :
    Calls Try.prog 9 #[v0] (w.alloc (.cells #[vp, .bool sl] 25)) fun e w' => e = .returned (.pointer (some ⟨w.heap.size + 1 + 1, 0, none⟩)) ∧ Hid (TS w (w.heap.size + 1 + 1) (w.heap.size + 1) l.length (tabF l) w.heap.size vp p sl w') := by
  have hA : Keeps (fun _ => False) w (w.alloc (.cells #[vp, .bool sl] 25)) := (Keeps.refl _ w).alloc _
  refine (newTable_any (w.alloc (.cells #[vp, .bool sl] 25)) v0 l (h0.keep hA) (by omega) ho).mono ?_
  rintro e w' ⟨rfl, H⟩
  obtain ⟨h1, h2⟩ := H.out
  have hs : (w.alloc (.cells #[vp, .bool sl] 25)).heap.size = w.heap.size + 1 := World.size_alloc ..
  rw [hs] at h1
  exact ⟨by rw [hs], hA.trans h2, h1, PB.keep ⟨heap_last _ _, hp.keep hA⟩ h2⟩
theorem TS.first {w W : World} {x bm n : Nat} {F : Dr} {bp : Nat} {v : Value} {p : List ByteArray} {sl : Bool} (H : Hid (TS w x bm n F bp v p sl W)) : Calls Try.prog 10 #[] W fun e w' => e = .returned (.bool true) ∧ Hid (TS w x bm n F bp v p sl w') := by
  refine (first_any W).mono ?_
  rintro e w' ⟨rfl, hk⟩
  exact ⟨rfl, H.out.keep hk⟩
theorem PsOk.take {p : List ByteArray} (h : PsOk p) (k : Nat) : PsOk (p.take k) := ⟨by have := h.1; rw [List.length_take]; omega, fun s hs => h.2 s (List.mem_of_mem_take hs)⟩
theorem PsOk.last {p : List ByteArray} (h : PsOk p) (h0 : p ≠ []) : (lastP p).size ≤ maxLen := by have := h.2 _ (last_mem h0); unfold maxLen; omega
theorem dropLast_take (p : List ByteArray) : p.dropLast = p.take (p.length - 1) := List.dropLast_eq_take ..

/-- Parent and Resolve, case by case. -/
theorem parent_cases (F : Dr) (hF : wfF F) (p : List ByteArray) (sl : Bool) :
    (named p = false ∧ prn F p = (0, ⟨#[]⟩, 145)) ∨
    (named p = true ∧ ∃ e, (e = 143 ∨ e = 144) ∧ prn F p = (0, ⟨#[]⟩, e) ∧ rsv F p sl = (0, false, e)) ∨
    (named p = true ∧ ∃ d, (Lit.int .i64 d).wf = true ∧ prn F p = (d, lastP p, 0) ∧ rsv F (p.take (p.length - 1)) false = (d, true, 0) ∧
      rsv F p sl = if (F d (lastP p)).1 < 1 then (0, false, 143) else if (sl && !(F d (lastP p)).2) = true then (0, false, 144) else ((F d (lastP p)).1, (F d (lastP p)).2, 0)) := by
  rcases Bool.eq_false_or_eq_true (named p) with hN | hN
  · right
    have h0 := named_ne hN
    have hd : isDot (lastP p) = false ∧ isUp (lastP p) = false := by
      unfold named at hN
      cases h1 : isDot (lastP p) <;> cases h2 : isUp (lastP p) <;> simp_all
    have hp : prn F p = match lead F p.dropLast with
        | .bad e => (0, ⟨#[]⟩, e)
        | .ok a _ => if a.2 = true then (a.1, lastP p, 0) else (0, ⟨#[]⟩, 144) := by
      unfold prn; rw [if_pos hN]; cases lead F p.dropLast <;> rfl
    have hL : lead F p = match lead F p.dropLast with | .bad e => .bad e | .ok a' r' => step1 F a' r' (lastP p) := by
      have := lead_snoc F p.dropLast (lastP p)
      rw [snoc_last h0] at this
      rw [this]; cases lead F p.dropLast <;> rfl
    cases hl : lead F p.dropLast with
    | bad e =>
      rw [hl] at hp hL
      left
      exact ⟨hN, e, lead_bad hl, hp, by unfold rsv; rw [hL]⟩
    | ok a r =>
      rw [hl] at hp hL
      simp only at hp hL
      by_cases ha : a.2 = true
      · right
        rw [if_pos ha] at hp
        refine ⟨hN, a.1, lead_wf hF hl, hp, ?_, ?_⟩
        · rw [← dropLast_take]
          unfold rsv
          rw [hl]
          simp [ha]
        · have hs : step1 F a r (lastP p) = if (F a.1 (lastP p)).1 < 1 then .bad 143 else .ok (F a.1 (lastP p)) (a :: r) := by
            unfold step1
            rw [if_pos ha, if_neg (by simp [hd.1]), if_neg (by simp [hd.2])]
          rw [hs] at hL
          unfold rsv
          rw [hL]
          by_cases h1 : (F a.1 (lastP p)).1 < 1
          · rw [if_pos h1, if_pos h1]
          · rw [if_neg h1, if_neg h1]
      · left
        rw [if_neg ha] at hp
        refine ⟨hN, 144, Or.inr rfl, hp, ?_⟩
        have hs : step1 F a r (lastP p) = .bad 144 := by unfold step1; rw [if_neg ha]
        unfold rsv
        rw [hL, hs]
  · left
    refine ⟨hN, ?_⟩
    unfold prn; rw [if_neg (by simp [hN])]
end Go.Proofs.Ytfekgfimbkgkfab
