import Derived.Test.YtnafocbgapianabW6
namespace Go.Proofs.Ytnafocbgapianab
open Go.RowKit

/-- An op of a script, by its cells. -/
structure OpT where
  k : Int
  A : Int
  Bq : Int
  N : Int
  M : Int
  pp : Option Addr
  pn : Nat
  pc : Nat
  sq : Option Addr
  sn : Nat
  sc : Nat
  s0 : Int
  s1 : Int
  s2 : Int
  s3 : Int
def opZ : OpT := ⟨0, 0, 0, 0, 0, none, 0, 0, none, 0, 0, 0, 0, 0, 0⟩
instance : Inhabited OpT := ⟨opZ⟩
def OpT.agg (t : OpT) : Value := .agg #[.int .i64 t.k, .int .i64 t.A, .int .i64 t.Bq, .int .i64 t.N, .int .i64 t.M, .slice t.pp t.pn t.pc, .slice t.sq t.sn t.sc, .int .i64 t.s0, .int .i64 t.s1, .int .i64 t.s2, .int .i64 t.s3]
def OpT.at_ (t : OpT) (w : World) (b o : Nat) : Prop :=
  w.cell? ⟨b, o, none⟩ = some (.int .i64 t.k) ∧ w.cell? ⟨b, o + 1, none⟩ = some (.int .i64 t.A) ∧ w.cell? ⟨b, o + 2, none⟩ = some (.int .i64 t.Bq) ∧ w.cell? ⟨b, o + 3, none⟩ = some (.int .i64 t.N) ∧ w.cell? ⟨b, o + 4, none⟩ = some (.int .i64 t.M) ∧
  w.cell? ⟨b, o + 5, none⟩ = some (.slice t.pp t.pn t.pc) ∧ w.cell? ⟨b, o + 6, none⟩ = some (.slice t.sq t.sn t.sc) ∧ w.cell? ⟨b, o + 7, none⟩ = some (.int .i64 t.s0) ∧ w.cell? ⟨b, o + 8, none⟩ = some (.int .i64 t.s1) ∧ w.cell? ⟨b, o + 9, none⟩ = some (.int .i64 t.s2) ∧ w.cell? ⟨b, o + 10, none⟩ = some (.int .i64 t.s3)
def OpIn (w : World) (p : Option Addr) (l : List OpT) : Prop :=
  0 < l.length → ∃ b o, p = some ⟨b, o, none⟩ ∧ b < w.heap.size ∧ ∀ i, i < l.length → (l.getD i opZ).at_ w b (o + i * 11)
theorem OpT.kept {t : OpT} {w w' : World} {b o : Nat} {X : Nat → Prop} (h : t.at_ w b o) (k : Keeps X w w') (hx : ¬ X b) : t.at_ w' b o := by
  obtain ⟨h0, h1, h2, h3, h4, h5, h6, h7, h8, h9, h10⟩ := h
  exact ⟨k.cell h0 hx, k.cell h1 hx, k.cell h2 hx, k.cell h3 hx, k.cell h4 hx, k.cell h5 hx, k.cell h6 hx, k.cell h7 hx, k.cell h8 hx, k.cell h9 hx, k.cell h10 hx⟩

theorem mplay_start (w : World) : MPlay w w.heap.size w.heap.size (fun _ => none) (w.alloc (.cells #[.pointer none, .pointer none, .pointer none, .pointer none, .pointer none, .pointer none, .pointer none, .pointer none, .pointer none, .pointer none, .pointer none, .pointer none, .pointer none, .pointer none, .pointer none, .pointer none] 73)) :=
  ⟨(MapKept.heap_alloc w _).1, (fun _ _ _ h => by cases h), (fun _ _ _ _ _ _ _ h => by cases h), ⟨Nat.le_refl _, (fun _ _ _ h => by cases h)⟩, Keeps.of (World.grownBy_alloc w _ none) (by simp)⟩

set_option maxHeartbeats 4000000 in
set_option maxRecDepth 20000 in
theorem marks_walk (w : World) (p : Option Addr) (cap : Nat) (l : List OpT) (hl : OpIn w p l) (hll : l.length ≤ maxLen) :
    Calls Try.prog 6 #[.slice p l.length cap] w fun e w' => e = .returned (.bool true) ∧ Keeps (fun k => w.heap.size ≤ k) w w' := by
  have hf := first_any w
  have HL := Hid.mk' hl
  unfold maxLen at hll
  clear hl
  go_enter Try.func6, Try.ntmps6
  go_wp2_with (first
    | (go_at_call 25; refine hf.mono ?_; clear hf; rintro r w1 ⟨rfl, hk1⟩; have HK1 := Hid.mk' hk1; clear hk1))
  have HM := Hid.mk' (mplay_start w1)
  obtain ⟨P, hP⟩ : ∃ P, P = w1.heap.size := ⟨_, rfl⟩
  rw [← hP] at HM
  obtain ⟨w2, hw2⟩ : ∃ w2, w2 = w1.alloc (.cells #[.pointer none, .pointer none, .pointer none, .pointer none, .pointer none, .pointer none, .pointer none, .pointer none, .pointer none, .pointer none, .pointer none, .pointer none, .pointer none, .pointer none, .pointer none, .pointer none] 73) := ⟨_, rfl⟩
  rw [← hw2] at HM
  rw [← hw2, ← hP]
  have HP := Hid.mk' hP
  clear hw2 hP
  go_loopw [4] (fun iv wr => ∃ i : Nat, i ≤ l.length ∧ iv = .int .i64 i ∧ Hid (∃ st, MPlay w1 P P st wr)) (fun iv _ => l.length - (intOf iv).toNat)
  case atStart => exact ⟨0, by omega, rfl, _, HM.out⟩
  case round =>
    obtain ⟨i, hi, rfl, hrel⟩ := hrel
    obtain ⟨st, hm⟩ := hrel.out
    clear hrel
    have hkw : Keeps (fun j => w.heap.size ≤ j) w wr := HK1.out.then hm.keep (fun j hj => by left; have := HK1.out.size; have := HP.out; omega)
    by_cases hlt : i < l.length
    · have hlt' : (i : Int) < (l.length : Int) := by omega
      have hi0 : (0 : Int) ≤ (i : Int) := by omega
      obtain ⟨b, o, rfl, hbs, hcs⟩ := HL.out (by omega)
      have hop := OpT.kept (hcs i hlt) hkw (by omega)
      clear hcs
      generalize l.getD i opZ = t at *
      obtain ⟨k, A, Bq, N, M, pp, pn, pc, sq, sn, sc, s0, s1, s2, s3⟩ := t
      obtain ⟨e0, e1, e2, e3, e4, e5, e6, e7, e8, e9, e10⟩ := hop
      simp only at e0 e1 e2 e3 e4 e5 e6 e7 e8 e9 e10
      have HM2 := Hid.mk' hm
      clear hkw
      by_cases h1 : 1 ≤ k
      · by_cases h6 : k ≤ 6
        · have hmk := marks_any hm k A Bq N M pp pn pc sq sn sc s0 s1 s2 s3 ⟨h1, h6⟩
          clear hm
          go_wp2_with (first
            | (go_at_call 34; refine hmk.mono ?_; clear hmk; rintro r w3 ⟨rfl, st3, hm3⟩; have HM3 := Hid.mk' hm3; clear hm3))
          go_roundw
          case rel => exact ⟨i + 1, by omega, by go_num, _, HM3.out⟩
          case measure => simp [intOf]; omega
        · clear hm
          go_wp2
          go_roundw
          case rel => exact ⟨i + 1, by omega, by go_num, _, HM2.out⟩
          case measure => simp [intOf]; omega
      · clear hm
        go_wp2
        go_roundw
        case rel => exact ⟨i + 1, by omega, by go_num, _, HM2.out⟩
        case measure => simp [intOf]; omega
    · have hlt' : ¬ (i : Int) < (l.length : Int) := by omega
      have HKW := Hid.mk' hkw
      clear hm hkw
      go_wp2
      go_ret
      exact ⟨rfl, HKW.out⟩

end Go.Proofs.Ytnafocbgapianab
