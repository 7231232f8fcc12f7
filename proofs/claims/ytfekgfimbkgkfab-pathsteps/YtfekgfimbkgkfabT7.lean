import Derived.Test.YtfekgfimbkgkfabT6
namespace Go.Proofs.Ytfekgfimbkgkfab
open Go.RowKit Go.Maps

theorem rsv_false (F : Dr) (p : List ByteArray) : rsv F p false = match lead F p with | .bad e => (0, false, e) | .ok a _ => (a.1, a.2, 0) := by
  unfold rsv; cases lead F p <;> rfl
/-- One part more: what Resolve answers, what is asked. -/
theorem steps_next (F : Dr) (hF : wfF F) (p : List ByteArray) (k : Nat) (h1 : k < p.length) (s : ByteArray) (hs : p.getD k bz = s) :
    (∃ e : Int, (e = 143 ∨ e = 144) ∧ rsv F (p.take k) false = (0, false, e) ∧ rsv F (p.take (k + 1)) false = (0, false, e) ∧ asked F p (k + 1) = asked F p k) ∨
    (∃ n, rsv F (p.take k) false = (n, false, 0) ∧ rsv F (p.take (k + 1)) false = (0, false, 144) ∧ asked F p (k + 1) = asked F p k) ∨
    (∃ n, rsv F (p.take k) false = (n, true, 0) ∧ isDot s = true ∧ rsv F (p.take (k + 1)) false = (n, true, 0) ∧ asked F p (k + 1) = asked F p k) ∨
    (∃ n m, rsv F (p.take k) false = (n, true, 0) ∧ isDot s = false ∧ isUp s = true ∧ rsv F (p.take (k + 1)) false = (m, true, 0) ∧ asked F p (k + 1) = asked F p k) ∨
    (∃ n, (Lit.int .i64 n).wf = true ∧ rsv F (p.take k) false = (n, true, 0) ∧ isDot s = false ∧ isUp s = false ∧ rsv F (p.take (k + 1)) false = (if (F n s).1 < 1 then (0, false, 143) else ((F n s).1, (F n s).2, 0)) ∧ asked F p (k + 1) = asked F p k ++ [(n, s, 0, false)]) := by
  have hT : lead F (p.take (k + 1)) = match lead F (p.take k) with | .bad e => .bad e | .ok a' r' => step1 F a' r' s := by
    rw [take_getD bz h1, hs]; exact lead_snoc F _ s
  have hA : asked F p (k + 1) = asked F p k ++ ask1 (lead F (p.take k)) s := by rw [← hs]; rfl
  rw [rsv_false, rsv_false, hT, hA]
  cases hl : lead F (p.take k) with
  | bad e => exact Or.inl ⟨e, lead_bad hl, rfl, rfl, by show _ ++ [] = _; rw [List.append_nil]⟩
  | ok a r =>
    right
    obtain ⟨n, b⟩ := a
    have hw : (Lit.int .i64 n).wf = true := lead_wf hF hl
    have hask : ask1 (.ok (n, b) r) s = if (b && !isDot s && !isUp s) = true then [(n, s, 0, false)] else [] := rfl
    rw [hask]
    cases b with
    | false => exact Or.inl ⟨n, rfl, by simp [step1], by simp⟩
    | true =>
      right
      rcases Bool.eq_false_or_eq_true (isDot s) with hD | hD
      · exact Or.inl ⟨n, rfl, hD, by simp [step1, hD], by simp [hD]⟩
      · right
        rcases Bool.eq_false_or_eq_true (isUp s) with hU | hU
        · left
          have hn : named (p.take (k + 1)) = false := by
            rw [take_getD bz h1, hs]
            have : lastP (p.take k ++ [s]) = s := by simp [lastP]
            unfold named
            rw [this, hU]; simp
          rw [hl] at hT
          simp only at hT
          cases r with
          | nil => exact ⟨n, n, rfl, hD, hU, by simp [step1, hD, hU], by simp [hU]⟩
          | cons bb r =>
            have h2 : step1 F (n, true) (bb :: r) s = .ok bb r := by simp [step1, hD, hU]
            rw [h2] at hT
            have h3 := unnamed_dir hT hn
            exact ⟨n, bb.1, rfl, hD, hU, by simp [h2, h3], by simp [hU]⟩
        · right
          refine ⟨n, hw, rfl, hD, hU, ?_, by simp [hD, hU]⟩
          have h2 : step1 F (n, true) r s = if (F n s).1 < 1 then .bad 143 else .ok (F n s) ((n, true) :: r) := by simp [step1, hD, hU]
          simp only
          rw [h2]
          by_cases h3 : (F n s).1 < 1
          · rw [if_pos h3, if_pos h3]
          · rw [if_neg h3, if_neg h3]
theorem steps_end (F : Dr) (p : List ByteArray) (sl : Bool) :
    (∃ e : Int, (e = 143 ∨ e = 144) ∧ rsv F p false = (0, false, e) ∧ rsv F p sl = (0, false, e)) ∨
    (∃ n, rsv F p false = (n, false, 0) ∧ sl = true ∧ rsv F p sl = (0, false, 144)) ∨
    (∃ n b, rsv F p false = (n, b, 0) ∧ (sl = false ∨ b = true) ∧ rsv F p sl = (n, b, 0)) := by
  rw [rsv_false]
  unfold rsv
  cases hl : lead F p with
  | bad e => exact Or.inl ⟨e, lead_bad hl, rfl, rfl⟩
  | ok a r =>
    right
    obtain ⟨n, b⟩ := a
    cases sl <;> cases b <;> simp
theorem TS.keepX {X : Nat → Prop} {w W W' : World} {x bm n : Nat} {F : Dr} {bp : Nat} {v : Value} {p : List ByteArray} {sl : Bool} {B : Nat} (h : TS w x bm n F bp v p sl W) (k : Keeps X W W') (hX : ∀ c, X c → B ≤ c) (hw : w.heap.size ≤ B) (hx : x < B) (hm : bm < B) (hb : bp < B) (hv : ∀ g, v.ownBlock = some g → 0 < p.length → g < B) : TS w x bm n F bp v p sl W' :=
  ⟨h.kp.then k (fun c hc => Or.inr (Nat.le_trans hw (hX c hc))), h.tab.keep k (fun e => by have := hX _ e; omega) (fun e => by have := hX _ e; omega), ⟨k.at h.pp.box (fun e => by have := hX _ e; omega), h.pp.row.keepZ k (fun g hg h0 e => by have := hX _ e; have := hv g hg h0; omega)⟩⟩

/-- What PathSteps' loop holds: the table, the path, what was asked of the table for the first k parts. -/
structure PS (w : World) (x bm n : Nat) (F : Dr) (bp : Nat) (v : Value) (p : List ByteArray) (sl : Bool) (B : Nat) (q : Value) (k : Nat) (W : World) : Prop where
  ts : TS w x bm n F bp v p sl W
  own : W.ownsRow B 40 4 q (asked F p k).length (ecells (asked F p k))
  size : B ≤ W.heap.size
section
variable {w W : World} {x bm n : Nat} {F : Dr} {bp : Nat} {v : Value} {p : List ByteArray} {sl : Bool} {B : Nat} {q : Value} {k : Nat}
theorem PS.keep {W' : World} (h : PS w x bm n F bp v p sl B q k W) (kk : Keeps (fun _ => False) W W') : PS w x bm n F bp v p sl B q k W' := ⟨h.ts.keep kk, own_grow h.own kk, Nat.le_trans h.size kk.size⟩
theorem PS.step (H : Hid (PS w x bm n F bp v p sl B q k W)) (hp : Hid (PsOk p)) (j : Nat) (hj : j ≤ p.length) : Calls Try.prog 15 #[.agg #[v, .bool sl], .int .i64 j] W fun e w' => ∃ r : Option Addr, ∃ c : Nat, e = .returned (.agg #[.slice r j c, .bool false]) ∧ Hid (PS w x bm n F bp v p sl B q k w' ∧ Row w' (.slice r j c) (p.take j).length (strs (p.take j))) := by
  refine (step_any W v p sl j H.out.ts.pp.row hp.out.1 hj).mono ?_
  rintro e w' ⟨r, rfl, H2⟩
  have hl : (p.take j).length = j := by rw [List.length_take]; omega
  have h2 := Row.of_own H2.out.1
  obtain ⟨a, c, e, _⟩ := id h2
  rw [hl] at e
  subst e
  exact ⟨a, c, rfl, H.out.keep H2.out.2, h2⟩
theorem PS.res (H : Hid (PS w x bm n F bp v p sl B q k W)) (hF : Hid (wfF F)) (v2 : Value) (p2 : List ByteArray) (s2 : Bool) (hr : Hid (Row W v2 p2.length (strs p2))) (hp : Hid (PsOk p2)) : Calls Try.prog 14 #[.iface 26 (.pointer (some ⟨x, 0, none⟩)), .agg #[v2, .bool s2]] W fun e w' => e = .returned (.tuple #[.int .i64 (rsv F p2 s2).1, .bool (rsv F p2 s2).2.1, .int .i64 (rsv F p2 s2).2.2]) ∧ Hid (PS w x bm n F bp v p sl B q k w') := by
  refine (resolve_any W x bm n F H.out.ts.tab hF.out v2 p2 s2 hr.out hp.out.1 hp.out.2).mono ?_
  rintro e w' ⟨rfl, hk⟩
  exact ⟨rfl, H.out.keep hk⟩
theorem PS.look (H : Hid (PS w x bm n F bp v p sl B q k W)) (d : Int) (s : ByteArray) (hd : (Lit.int .i64 d).wf = true) (hs : s.size ≤ maxLen) : Calls Try.prog 16 #[.pointer (some ⟨x, 0, none⟩), .int .i64 d, .string s] W fun e w' => e = .returned (.tuple #[.int .i64 (F d s).1, .bool (F d s).2]) ∧ Hid (PS w x bm n F bp v p sl B q k w') := by
  refine (look_any W x bm n F H.out.ts.tab d s hd hs).mono ?_
  rintro e w' ⟨rfl, hk⟩
  exact ⟨rfl, H.out.keep hk⟩
theorem PS.hears (H : Hid (PS w x bm n F bp v p sl B q p.length W)) (hF : Hid (wfF F)) (hp : Hid (PsOk p)) (v0 : Value) (l : List Ed) (h0 : Hid (Row w v0 l.length (ecells l))) (hl : l.length ≤ 3518437208780) (hfl : tabF l = F) (hn : p.length ≤ 1000) : Calls Try.prog 17 #[v0, .pointer (some ⟨x, 0, none⟩), .agg #[v, .bool sl], q] W fun e w' => e = .returned (.bool true) ∧ Hid (PS w x bm n F bp v p sl B q p.length w') := by
  refine (hears_any W v0 l F x bm n v p sl q ⟨h0.out.keep H.out.ts.kp, hfl, hF.out, hl, H.out.ts.tab, H.out.ts.pp.row, hn, hp.out.2, Row.of_own H.out.own⟩).mono ?_
  rintro e w' ⟨rfl, hk⟩
  exact ⟨rfl, H.out.keep hk⟩
end
end Go.Proofs.Ytfekgfimbkgkfab
