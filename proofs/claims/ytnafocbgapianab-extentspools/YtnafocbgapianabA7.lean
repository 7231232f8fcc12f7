import Derived.Test.YtnafocbgapianabA6
namespace Go.Proofs.Ytnafocbgapianab
open Go.RowKit

/-- A list of spans that lies in memory, to be read. -/
def SpIn (w : World) (p : Option Addr) (l : List (Int × Int)) : Prop :=
  0 < l.length → ∃ b o, p = some ⟨b, o, none⟩ ∧ b < w.heap.size ∧ ∀ i, i < l.length →
    w.cell? ⟨b, o + i * 2, none⟩ = some (.int .i64 (l.getD i (0, 0)).1) ∧ w.cell? ⟨b, o + i * 2 + 1, none⟩ = some (.int .i64 (l.getD i (0, 0)).2)

theorem SpIn.kept {w w' : World} {p : Option Addr} {l : List (Int × Int)} {X : Nat → Prop} (h : SpIn w p l) (k : Keeps X w w') (hX : ∀ b, X b → p.map (·.block) ≠ some b) : SpIn w' p l := by
  intro h0
  obtain ⟨b, o, e, hb, hc⟩ := h h0
  have hn : ¬ X b := fun hx => hX b hx (by rw [e]; rfl)
  exact ⟨b, o, e, Nat.lt_of_lt_of_le hb k.size, fun i hi => ⟨k.cell (hc i hi).1 hn, k.cell (hc i hi).2 hn⟩⟩
theorem SpIn.grown {w w' : World} {p : Option Addr} {l : List (Int × Int)} {X : Nat → Prop} (h : SpIn w p l) (k : Keeps X w w') (hX : ∀ b, X b → w.heap.size ≤ b) : SpIn w' p l := by
  intro h0
  obtain ⟨b, o, e, hb, hc⟩ := h h0
  have hn : ¬ X b := fun hx => by have := hX b hx; omega
  exact ⟨b, o, e, Nat.lt_of_lt_of_le hb k.size, fun i hi => ⟨k.cell (hc i hi).1 hn, k.cell (hc i hi).2 hn⟩⟩

/-- What goodSpans tells of a list, from the page 'next' on. -/
def gsp (pages next : Int) : List (Int × Int) → Bool
  | [] => true
  | s :: l => if s.1 < next ∨ s.2 < 1 ∨ pages - s.1 < s.2 then false else gsp pages (s.1 + s.2) l

theorem drop_getD {α : Type} {l : List α} {k : Nat} (d : α) (h : k < l.length) : l.drop k = l.getD k d :: l.drop (k + 1) := by
  rw [List.drop_eq_getElem_cons h, List.getD_eq_getElem?_getD, List.getElem?_eq_getElem h]; rfl

set_option maxHeartbeats 2000000 in
theorem goodSpans_any (p i c d : Int) (w : World) (sp : Option Addr) (cap : Nat) (l : List (Int × Int)) (h : SpIn w sp l) (hl : l.length ≤ maxLen) (hr : ∀ s ∈ l, s.1 ≤ 9223372036854775807) (hp : 0 ≤ p ∧ p ≤ 1024) (hd : 0 ≤ d ∧ d ≤ 1024) :
    Calls Try.prog 40 #[.agg #[.int .i64 p, .int .i64 i, .int .i64 c, .int .i64 d], .slice sp l.length cap] w fun e w' => e = .returned (.bool (gsp p d l)) ∧ Keeps (fun k => w.heap.size ≤ k) w w' := by
  have hB := box4 w (.int .i64 p) (.int .i64 i) (.int .i64 c) (.int .i64 d) 24
  have g0 : Keeps (fun k => w.heap.size ≤ k) w (w.alloc (.cells #[.int .i64 p, .int .i64 i, .int .i64 c, .int .i64 d] 24)) := Keeps.of (World.grownBy_alloc w _ none) (by simp)
  have hs0 : (w.alloc (.cells #[.int .i64 p, .int .i64 i, .int .i64 c, .int .i64 d] 24)).heap.size = w.heap.size + 1 := by simp
  have HIN := Hid.mk' (h.grown g0 (fun b hb => hb))
  unfold maxLen at hl
  obtain ⟨w1, hw1⟩ : ∃ w1, w1 = w.alloc (.cells #[.int .i64 p, .int .i64 i, .int .i64 c, .int .i64 d] 24) := ⟨_, rfl⟩
  have hd4 := (cells4 hB).2.2.2.1
  go_enter Try.func40, Try.ntmps40
  go_wp2
  rw [← hw1] at hB g0 hs0 HIN ⊢
  have HB := Hid.mk' hB
  have HG := Hid.mk' g0
  clear hB g0 h hd4 hw1
  go_loopw [5, 12] (fun nx i wr => ∃ (k : Nat) (x : Int), k ≤ l.length ∧ i = .int .i64 k ∧ nx = .int .i64 x ∧ 0 ≤ x ∧ x ≤ 1024 ∧ Hid (gsp p d l = gsp p x (l.drop k) ∧ Keeps (fun k => w1.heap.size ≤ k) w1 wr)) (fun _ i _ => l.length - (intOf i).toNat)
  case atStart => exact ⟨0, d, by omega, rfl, rfl, hd.1, hd.2, rfl, Keeps.refl _ _⟩
  case round =>
    obtain ⟨k, x, hk, rfl, rfl, hx1, hx2, hrel⟩ := hrel
    by_cases hlt : k < l.length
    · have hdr := drop_getD (0, 0) hlt
      obtain ⟨b, o, rfl, hb, hc⟩ := HIN.out (by omega)
      obtain ⟨e1, e2⟩ := hc k hlt
      have hkw := hrel.out.2
      have e1' := hkw.cell e1 (by simp; omega)
      have e2' := hkw.cell e2 (by simp; omega)
      have h4 : (l.getD k (0, 0)).1 ≤ 9223372036854775807 := hr _ (by rw [List.getD_eq_getElem?_getD, List.getElem?_eq_getElem hlt]; exact List.getElem_mem hlt)
      generalize l.getD k (0, 0) = s at *
      obtain ⟨f, n⟩ := s
      simp only at e1 e2 e1' e2' h4
      have hR := hkw.at HB.out (by omega)
      have hR2 := ((World.grownBy_alloc wr (.cells #[.int .i64 f, .int .i64 n] 46) none).block _ (heap_lt hR) (by simp)).trans hR
      obtain ⟨q0, q1, q2, q3, qf⟩ := cells4 hR2
      have HK2 := Hid.mk' (hkw.then (X := fun k => w1.heap.size ≤ k) (Keeps.of (X := fun k => w1.heap.size ≤ k) (World.grownBy_alloc wr (.cells #[.int .i64 f, .int .i64 n] 46) none) (by simp)) (fun k hk => Or.inl hk))
      have hlt' : (k : Int) < (l.length : Int) := by omega
      have HGS := Hid.mk' hrel.out.1
      rw [hdr] at HGS
      clear e1 e2 hc hkw hR hR2 q1 q2 q3 qf hrel hdr
      have HKW := Hid.mk' (HG.out.then HK2.out (by intro k hk; right; omega))
      by_cases h1 : f < x
      · have HF : Hid (gsp p d l = false) := by show _ = _; rw [HGS.out]; simp [gsp, h1]
        go_wp2
        go_ret
        exact ⟨ret_bool HF.out.symm, HKW.out⟩
      · by_cases h2 : n < 1
        · have HF : Hid (gsp p d l = false) := by show _ = _; rw [HGS.out]; simp [gsp, h2]
          go_wp2
          go_ret
          exact ⟨ret_bool HF.out.symm, HKW.out⟩
        · have hwr : IntKind.i64.wrap (p - f) = p - f := i64_id (by omega) (by omega)
          have hwr2 : wrap64 (p - f) = p - f := wrap64_id (by omega) (by omega)
          by_cases h3 : p - f < n
          · have HF : Hid (gsp p d l = false) := by show _ = _; rw [HGS.out]; simp [gsp, h3]
            go_wp2
            go_ret
            exact ⟨ret_bool HF.out.symm, HKW.out⟩
          · have HF : Hid (gsp p d l = gsp p (f + n) (l.drop (k + 1))) := by show _ = _; rw [HGS.out, gsp, if_neg (by simp; omega)]
            have hs : IntKind.i64.wrap (f + n) = f + n := i64_id (by omega) (by omega)
            go_wp2
            go_roundw
            case rel => exact ⟨k + 1, f + n, by omega, by go_num, rfl, by omega, by omega, HF.out, HK2.out⟩
            case measure => simp [intOf]; omega
    · have hk' : k = l.length := by omega
      have HF : Hid (gsp p d l = true) := by
        show _ = _
        rw [hrel.out.1, hk', List.drop_length]; rfl
      have HKW := Hid.mk' (HG.out.then hrel.out.2 (by intro k hk; right; omega))
      have hlt' : ¬ (k : Int) < (l.length : Int) := by omega
      clear hk' hrel
      go_wp2
      go_ret
      exact ⟨ret_bool HF.out.symm, HKW.out⟩

end Go.Proofs.Ytnafocbgapianab
