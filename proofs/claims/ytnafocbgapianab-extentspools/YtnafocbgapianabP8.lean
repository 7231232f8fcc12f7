import Derived.Test.YtnafocbgapianabP7
import Derived.Test.YtnafocbgapianabW7
namespace Go.Proofs.Ytnafocbgapianab
open Go.RowKit

theorem OpOk.raise {w : World} {B B' : Nat} {pp : Option Addr} {pn : Nat} {sq : Option Addr} {sn : Nat} {l1 : List Int} {l2 : List (Int × Int)} (h : OpOk w B pp pn sq sn l1 l2) (hb : B ≤ B') : OpOk w B' pp pn sq sn l1 l2 :=
  ⟨h.n1, h.n2, h.in1, h.in2, fun h0 b e => by have := h.low1 h0 b e; omega, fun h0 b e => by have := h.low2 h0 b e; omega, h.len1, h.len2, h.wt1, h.wt2, h.hr⟩

theorem pplay_start (w : World) : PPlay w w.heap.size w.heap.size (fun _ => none) (w.alloc (.cells #[.pointer none, .pointer none, .pointer none, .pointer none, .pointer none, .pointer none, .pointer none, .pointer none, .pointer none, .pointer none, .pointer none, .pointer none, .pointer none, .pointer none, .pointer none, .pointer none] 73)) :=
  ⟨(MapKept.heap_alloc w _).1, (fun _ _ _ h => by cases h), (fun _ _ _ _ _ _ _ h => by cases h), ⟨Nat.le_refl _, (fun _ _ _ h => by cases h)⟩, Keeps.of (World.grownBy_alloc w _ none) (by simp)⟩

set_option maxHeartbeats 4000000 in
set_option maxRecDepth 20000 in
theorem pools_walk (w : World) (p : Option Addr) (cap : Nat) (l : List OpT) (hl : OpIn w p l) (hall : ∀ i, i < l.length → ∃ l1 l2, OpOk w w.heap.size (l.getD i opZ).pp (l.getD i opZ).pn (l.getD i opZ).sq (l.getD i opZ).sn l1 l2) (hll : l.length ≤ maxLen) :
    Calls Try.prog 8 #[.slice p l.length cap] w fun e w' => e = .returned (.bool true) ∧ Keeps (fun k => w.heap.size ≤ k) w w' := by
  have hf := first_any w
  have HL := Hid.mk' hl
  have HAL := Hid.mk' hall
  unfold maxLen at hll
  clear hl hall
  go_enter Try.func8, Try.ntmps8
  go_wp2_with (first
    | (go_at_call 25; refine hf.mono ?_; clear hf; rintro r w1 ⟨rfl, hk1⟩; have HK1 := Hid.mk' hk1; clear hk1))
  have HM := Hid.mk' (pplay_start w1)
  obtain ⟨P, hP⟩ : ∃ P, P = w1.heap.size := ⟨_, rfl⟩
  rw [← hP] at HM
  obtain ⟨w2, hw2⟩ : ∃ w2, w2 = w1.alloc (.cells #[.pointer none, .pointer none, .pointer none, .pointer none, .pointer none, .pointer none, .pointer none, .pointer none, .pointer none, .pointer none, .pointer none, .pointer none, .pointer none, .pointer none, .pointer none, .pointer none] 73) := ⟨_, rfl⟩
  rw [← hw2] at HM
  rw [← hw2, ← hP]
  have HP := Hid.mk' hP
  clear hw2 hP
  go_loopw [4] (fun iv wr => ∃ i : Nat, i ≤ l.length ∧ iv = .int .i64 i ∧ Hid (∃ st, PPlay w1 P P st wr)) (fun iv _ => l.length - (intOf iv).toNat)
  case atStart => exact ⟨0, by omega, rfl, _, HM.out⟩
  case round =>
    obtain ⟨i, hi, rfl, hrel⟩ := hrel
    obtain ⟨st, hm⟩ := hrel.out
    clear hrel
    have hkw : Keeps (fun j => w.heap.size ≤ j) w wr := HK1.out.then hm.keep (fun j hj => by left; have := HK1.out.size; have := HP.out; omega)
    by_cases hlt : i < l.length
    · have hlt' : (i : Int) < (l.length : Int) := by omega
      have hi0 : (0 : Int) ≤ (i : Int) := by omega
      obtain ⟨b, o, rfl, hbs, hcs⟩ := HL.out (by omega)
      have hop := OpT.kept (hcs i hlt) hkw (by omega)
      obtain ⟨l1, l2, hok⟩ := HAL.out i hlt
      have hok2 := (hok.grown hkw (fun j hj => hj)).raise (B' := P) (by have := HK1.out.size; have := HP.out; omega)
      clear hok
      clear hcs
      generalize l.getD i opZ = t at *
      obtain ⟨k, A, Bq, N, M, pp, pn, pc, sq, sn, sc, s0, s1, s2, s3⟩ := t
      obtain ⟨e0, e1, e2, e3, e4, e5, e6, e7, e8, e9, e10⟩ := hop
      simp only at hok2
      simp only at e0 e1 e2 e3 e4 e5 e6 e7 e8 e9 e10
      have HM2 := Hid.mk' hm
      clear hkw
      by_cases h1 : 11 ≤ k
      · by_cases h6 : k ≤ 19
        · have hmk := pools_any hm k A Bq N M pp pn pc sq sn sc s0 s1 s2 s3 l1 l2 hok2 ⟨h1, h6⟩
          clear hm hok2
          go_wp2_with (first
            | (go_at_call 38; refine hmk.mono ?_; clear hmk; rintro r w3 ⟨rfl, st3, hm3⟩; have HM3 := Hid.mk' hm3; clear hm3))
          go_roundw
          case rel => exact ⟨i + 1, by omega, by go_num, _, HM3.out⟩
          case measure => simp [intOf]; omega
        · clear hm hok2
          go_wp2
          go_roundw
          case rel => exact ⟨i + 1, by omega, by go_num, _, HM2.out⟩
          case measure => simp [intOf]; omega
      · clear hm hok2
        go_wp2
        go_roundw
        case rel => exact ⟨i + 1, by omega, by go_num, _, HM2.out⟩
        case measure => simp [intOf]; omega
    · have hlt' : ¬ (i : Int) < (l.length : Int) := by omega
      have HKW := Hid.mk' hkw
      clear hm hkw
      go_wp2
      go_ret
      exact ⟨rfl, HKW.out⟩

end Go.Proofs.Ytnafocbgapianab
