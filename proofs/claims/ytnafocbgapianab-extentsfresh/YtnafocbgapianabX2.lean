import Derived.Test.YtnafocbgapianabX1
namespace Go.Proofs.Ytnafocbgapianab
open Go.RowKit

set_option maxHeartbeats 4000000 in
set_option maxRecDepth 20000 in
theorem spoilt_any (w : World) (p q : Option Addr) (cap cap2 n : Nat) (mark : Int) (h1 : MkIn w p n mark) (h2 : TlIn w q n mark) (hn : n ≤ 2000) :
    Calls Try.prog 36 #[.agg #[.slice p n cap, .slice q (n + 1) cap2, .int .i64 mark], .int .i64 n] w fun e w' => e = .returned (.bool true) ∧ Keeps (fun j => w.heap.size ≤ j) w w' := by
  have g0 : Keeps (fun j => w.heap.size ≤ j) w (w.alloc (.cells #[.slice p n cap, .slice q (n + 1) cap2, .int .i64 mark] 79)) := Keeps.of (World.grownBy_alloc w _ none) (by simp)
  have hR := (MapKept.heap_alloc w (.cells #[.slice p n cap, .slice q (n + 1) cap2, .int .i64 mark] 79)).1
  obtain ⟨w1, hw1⟩ : ∃ w1, w1 = w.alloc (.cells #[.slice p n cap, .slice q (n + 1) cap2, .int .i64 mark] 79) := ⟨_, rfl⟩
  obtain ⟨bq, oq, rfl, hbq, hcq, hq1, hq2⟩ := h2
  have hnw : IntKind.i64.wrap ((n : Int) + 1) = (n : Int) + 1 := i64_id (by omega) (by omega)
  go_enter Try.func36, Try.ntmps36
  go_wp2
  rw [← hw1] at g0 hR ⊢
  obtain ⟨R, hRe⟩ : ∃ R, R = w.heap.size := ⟨_, rfl⟩
  rw [← hRe] at hR ⊢
  have hs1 := heap_lt hR
  have H0 := Hid.mk' (And.intro g0 hR)
  have HM := Hid.mk' h1
  have HQ := Hid.mk' (And.intro hbq (And.intro hcq (And.intro hq1 hq2)))
  have HRE := Hid.mk' hRe
  clear g0 hR hw1 h1 hcq hq1 hq2 hRe hbq
  go_loopw [5] (fun iv wr => ∃ i : Nat, i ≤ n ∧ iv = .int .i64 i ∧ Hid (Keeps (fun j => w1.heap.size ≤ j) w1 wr)) (fun iv _ => n - (intOf iv).toNat)
  case atStart => exact ⟨0, by omega, rfl, Keeps.refl _ _⟩
  case round =>
    obtain ⟨i, hi, rfl, hrel⟩ := hrel
    have hkw : Keeps (fun j => w.heap.size ≤ j) w wr := H0.out.1.then hrel.out (fun j hj => by left; have := H0.out.1.size; omega)
    have hbq := HQ.out.1
    by_cases hlt : i < n
    · have hlt' : (i : Int) < (n : Int) := by omega
      have hi0 : (0 : Int) ≤ (i : Int) := by omega
      have hlt2 : (i : Int) < (n : Int) + 1 := by omega
      obtain ⟨b, o, rfl, hb, hc⟩ := HM.out (by omega)
      have hneg : IntKind.i64.wrap (-(i : Int)) = -(i : Int) := i64_id (by omega) (by omega)
      have ka : Keeps (fun j => wr.heap.size ≤ j) wr (wr.alloc (.cells #[.int .i64 mark, .int .i64 (-(i : Int))] 46)) := Keeps.of (World.grownBy_alloc wr _ none) (by simp)
      have hR2 := ka.at (hrel.out.at H0.out.2 (by omega)) (by have := hrel.out.size; omega)
      obtain ⟨c0, c1, c2, cf⟩ := cells3 hR2
      have hI := (MapKept.heap_alloc wr (.cells #[.int .i64 mark, .int .i64 (-(i : Int))] 46)).1
      obtain ⟨d0, d1, df⟩ := cells2 hI
      have hws := hkw.size
      have e1 := ka.cell (hkw.cell (hc i hlt).1 (by simp; omega)) (by simp; omega)
      have e2 := ka.cell (hkw.cell (hc i hlt).2 (by simp; omega)) (by simp; omega)
      have e3 := ka.cell (hkw.cell (HQ.out.2.1 i hlt).1 (by simp; omega)) (by simp; omega)
      have e4 := ka.cell (hkw.cell (HQ.out.2.1 i hlt).2 (by simp; omega)) (by simp; omega)
      obtain ⟨c0', c1', c2', _⟩ := cells3 (hrel.out.at H0.out.2 (by omega))
      have HK := Hid.mk' (hrel.out.then ka (fun j hj => by left; have := hrel.out.size; omega))
      clear hc hrel hkw ka hR2 hI cf df
      go_wp2
      go_quiet (fail)
      go_wp2
      go_roundw
      case rel => exact ⟨i + 1, by omega, by go_num, HK.out.trans (Keeps.drewN _ _ _)⟩
      case measure => simp [intOf]; omega
    · have hlt' : ¬ (i : Int) < (n : Int) := by omega
      have hws := hkw.size
      obtain ⟨c0, c1, c2, _⟩ := cells3 (hrel.out.at H0.out.2 (by omega))
      have e3 := hkw.cell HQ.out.2.2.1 (by simp; omega)
      have e4 := hkw.cell HQ.out.2.2.2 (by simp; omega)
      have hlt2 : (n : Int) < (n : Int) + 1 := by omega
      have hn0 : (0 : Int) ≤ (n : Int) := by omega
      have HK := Hid.mk' hkw
      clear hrel hkw
      go_wp2
      go_quiet (fail)
      go_wp2
      go_ret
      exact ⟨ret_bool (by simp), HK.out.trans (Keeps.drewN _ _ _)⟩

end Go.Proofs.Ytnafocbgapianab
