import Derived.Test.YtnafocbgapianabP6
namespace Go.Proofs.Ytnafocbgapianab
open Go.RowKit

set_option maxHeartbeats 4000000 in
set_option maxRecDepth 20000 in
theorem pools_makes11 {w0 : World} {B P : Nat} {st : Nat → Option PSlot} {w : World} (h : PPlay w0 B P st w) (A Bq N M : Int) (pp : Option Addr) (pn pc : Nat) (sq : Option Addr) (sn sc : Nat) (s0 s1 s2 s3 : Int)
    (hm : ∀ wx, PPlay w0 B P st wx → Keeps (fun j => w.heap.size ≤ j) w wx → Calls Try.prog 58 #[.pointer (some ⟨P, 0, none⟩), .agg #[.int .i64 11, .int .i64 A, .int .i64 Bq, .int .i64 N, .int .i64 M, .slice pp pn pc, .slice sq sn sc, .int .i64 s0, .int .i64 s1, .int .i64 s2, .int .i64 s3]] wx fun r w' => r = .returned (.bool true) ∧ ∃ st', PPlay w0 B P st' w') :
    Calls Try.prog 38 #[.pointer (some ⟨P, 0, none⟩), .agg #[.int .i64 11, .int .i64 A, .int .i64 Bq, .int .i64 N, .int .i64 M, .slice pp pn pc, .slice sq sn sc, .int .i64 s0, .int .i64 s1, .int .i64 s2, .int .i64 s3]] w fun r w' => r = .returned (.bool true) ∧ ∃ st', PPlay w0 B P st' w' := by
  have g0 : Keeps (fun j => w.heap.size ≤ j) w (w.alloc (.cells #[.int .i64 11, .int .i64 A, .int .i64 Bq, .int .i64 N, .int .i64 M, .slice pp pn pc, .slice sq sn sc, .int .i64 s0, .int .i64 s1, .int .i64 s2, .int .i64 s3] 75)) := Keeps.of (World.grownBy_alloc w _ none) (by simp)
  have hm1 := hm _ (h.grown g0) g0
  clear h g0 hm
  go_enter Try.func38, Try.ntmps38
  go_wp2_with (first
    | (go_at_call 58; refine hm1.mono ?_; clear hm1; rintro r w2 ⟨rfl, st2, hp2⟩; have HP2 := Hid.mk' hp2; clear hp2))
  go_ret
  exact ⟨rfl, _, HP2.out⟩

set_option maxHeartbeats 4000000 in
set_option maxRecDepth 20000 in
theorem pools_makes19 {w0 : World} {B P : Nat} {st : Nat → Option PSlot} {w : World} (h : PPlay w0 B P st w) (A Bq N M : Int) (pp : Option Addr) (pn pc : Nat) (sq : Option Addr) (sn sc : Nat) (s0 s1 s2 s3 : Int)
    (hm : ∀ wx, PPlay w0 B P st wx → Keeps (fun j => w.heap.size ≤ j) w wx → Calls Try.prog 58 #[.pointer (some ⟨P, 0, none⟩), .agg #[.int .i64 19, .int .i64 A, .int .i64 Bq, .int .i64 N, .int .i64 M, .slice pp pn pc, .slice sq sn sc, .int .i64 s0, .int .i64 s1, .int .i64 s2, .int .i64 s3]] wx fun r w' => r = .returned (.bool true) ∧ ∃ st', PPlay w0 B P st' w') :
    Calls Try.prog 38 #[.pointer (some ⟨P, 0, none⟩), .agg #[.int .i64 19, .int .i64 A, .int .i64 Bq, .int .i64 N, .int .i64 M, .slice pp pn pc, .slice sq sn sc, .int .i64 s0, .int .i64 s1, .int .i64 s2, .int .i64 s3]] w fun r w' => r = .returned (.bool true) ∧ ∃ st', PPlay w0 B P st' w' := by
  have g0 : Keeps (fun j => w.heap.size ≤ j) w (w.alloc (.cells #[.int .i64 19, .int .i64 A, .int .i64 Bq, .int .i64 N, .int .i64 M, .slice pp pn pc, .slice sq sn sc, .int .i64 s0, .int .i64 s1, .int .i64 s2, .int .i64 s3] 75)) := Keeps.of (World.grownBy_alloc w _ none) (by simp)
  have hm1 := hm _ (h.grown g0) g0
  clear h g0 hm
  go_enter Try.func38, Try.ntmps38
  go_wp2_with (first
    | (go_at_call 58; refine hm1.mono ?_; clear hm1; rintro r w2 ⟨rfl, st2, hp2⟩; have HP2 := Hid.mk' hp2; clear hp2))
  go_ret
  exact ⟨rfl, _, HP2.out⟩

/-- What is known of the lists of an op. -/
structure OpOk (w : World) (B : Nat) (pp : Option Addr) (pn : Nat) (sq : Option Addr) (sn : Nat) (l1 : List Int) (l2 : List (Int × Int)) : Prop where
  n1 : pn = l1.length
  n2 : sn = l2.length
  in1 : IntIn w pp l1
  in2 : SpIn w sq l2
  low1 : 0 < l1.length → ∀ b, pp.map (·.block) = some b → b < B
  low2 : 0 < l2.length → ∀ b, sq.map (·.block) = some b → b < B
  len1 : l1.length ≤ maxLen
  len2 : l2.length ≤ maxLen
  wt1 : l1.length * 8 ≤ 140737488355328
  wt2 : l2.length * 16 ≤ 140737488355328
  hr : ∀ s ∈ l2, s.1 ≤ 9223372036854775807

theorem OpOk.grown {w w' : World} {B : Nat} {pp : Option Addr} {pn : Nat} {sq : Option Addr} {sn : Nat} {l1 : List Int} {l2 : List (Int × Int)} {X : Nat → Prop} (h : OpOk w B pp pn sq sn l1 l2) (k : Keeps X w w') (hX : ∀ j, X j → B ≤ j) : OpOk w' B pp pn sq sn l1 l2 :=
  ⟨h.n1, h.n2, h.in1.lt_kept k (fun h0 b hb _ hx => by have := hX b hx; have := h.low1 h0 b hb; omega), h.in2.lt_kept k (fun h0 b hb _ hx => by have := hX b hx; have := h.low2 h0 b hb; omega), h.low1, h.low2, h.len1, h.len2, h.wt1, h.wt2, h.hr⟩

theorem makes_any {w0 : World} {B P : Nat} {st : Nat → Option PSlot} {w : World} (h : PPlay w0 B P st w) (A Bq N M : Int) (pp : Option Addr) (pn pc : Nat) (sq : Option Addr) (sn sc : Nat) (s0 s1 s2 s3 : Int) (l1 : List Int) (l2 : List (Int × Int)) (ho : OpOk w B pp pn sq sn l1 l2) :
    Calls Try.prog 58 #[.pointer (some ⟨P, 0, none⟩), .agg #[.int .i64 11, .int .i64 A, .int .i64 Bq, .int .i64 N, .int .i64 M, .slice pp pn pc, .slice sq sn sc, .int .i64 s0, .int .i64 s1, .int .i64 s2, .int .i64 s3]] w fun r w' => r = .returned (.bool true) ∧ ∃ st', PPlay w0 B P st' w' := by
  obtain ⟨n1, n2, i1, i2, lo1, lo2, le1, le2, w1, w2, hr⟩ := ho
  subst n1 n2
  by_cases hg : goodI s0 s1 s2 ∧ s3 = dataOf s1
  · obtain ⟨sh, e0, e1, e2, e3⟩ : ∃ sh : Sh, s0 = sh.pages ∧ s1 = sh.inodes ∧ s2 = sh.cores ∧ s3 = sh.data := by
      have h1 := hg.1
      have h2 := hg.2
      unfold goodI at h1
      unfold dataOf at h1 h2
      exact ⟨⟨s0.toNat, s1.toNat, s2.toNat, s3.toNat⟩, by simp only; omega, by simp only; omega, by simp only; omega, by simp only; omega⟩
    subst e0 e1 e2 e3
    have hsh := (goodI_iff sh).1 hg
    cases hb : gsp sh.pages sh.data l2 with
    | false => exact makes_range h A Bq N M pp l1.length pc sq sc l2 sh hsh i2 lo2 le2 w2 hr hb
    | true => exact makes_good h A Bq N M pp l1.length pc sq sc l2 sh hsh i2 lo2 le2 w2 hr hb
  · exact makes_shape h A Bq N M pp l1.length pc sq sc l2 s0 s1 s2 s3 i2 lo2 le2 w2 hg

theorem mcopy_any {w0 : World} {B P : Nat} {st : Nat → Option PSlot} {w : World} (h : PPlay w0 B P st w) (A Bq N M : Int) (pp : Option Addr) (pn pc : Nat) (sq : Option Addr) (sn sc : Nat) (s0 s1 s2 s3 : Int) :
    Calls Try.prog 58 #[.pointer (some ⟨P, 0, none⟩), .agg #[.int .i64 19, .int .i64 A, .int .i64 Bq, .int .i64 N, .int .i64 M, .slice pp pn pc, .slice sq sn sc, .int .i64 s0, .int .i64 s1, .int .i64 s2, .int .i64 s3]] w fun r w' => r = .returned (.bool true) ∧ ∃ st', PPlay w0 B P st' w' := by
  obtain ⟨a, ha, hA⟩ := and3_nat A
  obtain ⟨b, hb, hB⟩ := and3_nat Bq
  cases hsa : st a with
  | none =>
    cases hsb : st b with
    | none => exact copy_nn h A Bq N M pp pn pc sq sn sc s0 s1 s2 s3 a b ha hb hA hB hsa hsb
    | some t => exact copy_ns h A Bq N M pp pn pc sq sn sc s0 s1 s2 s3 a b ha hb hA hB hsa t hsb
  | some s => exact copy_ss h A Bq N M pp pn pc sq sn sc s0 s1 s2 s3 a b ha hb hA hB s hsa

/-- A step of pools. -/
theorem pools_any {w0 : World} {B P : Nat} {st : Nat → Option PSlot} {w : World} (h : PPlay w0 B P st w) (k A Bq N M : Int) (pp : Option Addr) (pn pc : Nat) (sq : Option Addr) (sn sc : Nat) (s0 s1 s2 s3 : Int) (l1 : List Int) (l2 : List (Int × Int)) (ho : OpOk w B pp pn sq sn l1 l2) (hk : 11 ≤ k ∧ k ≤ 19) :
    Calls Try.prog 38 #[.pointer (some ⟨P, 0, none⟩), .agg #[.int .i64 k, .int .i64 A, .int .i64 Bq, .int .i64 N, .int .i64 M, .slice pp pn pc, .slice sq sn sc, .int .i64 s0, .int .i64 s1, .int .i64 s2, .int .i64 s3]] w fun r w' => r = .returned (.bool true) ∧ ∃ st', PPlay w0 B P st' w' := by
  obtain ⟨a, ha, hA⟩ := and3_nat A
  have hlo := h.low.1
  have hPl := heap_lt h.at_
  by_cases h11 : k = 11
  · subst h11
    exact pools_makes11 h A Bq N M pp pn pc sq sn sc s0 s1 s2 s3 (fun wx hp hk => makes_any hp A Bq N M pp pn pc sq sn sc s0 s1 s2 s3 l1 l2 (ho.grown hk (fun j hj => by omega)))
  by_cases h19 : k = 19
  · subst h19
    exact pools_makes19 h A Bq N M pp pn pc sq sn sc s0 s1 s2 s3 (fun wx hp hk => mcopy_any hp A Bq N M pp pn pc sq sn sc s0 s1 s2 s3)
  cases hsa : st a with
  | none => exact pools_none h A Bq N M k pp pn pc sq sn sc s0 s1 s2 s3 (by simpa using h11) (by simpa using h19) a ha hA hsa
  | some s =>
    by_cases h12 : k = 12
    · subst h12; exact pools_take h A Bq N M pp pn pc sq sn sc s0 s1 s2 s3 a ha hA s hsa
    by_cases h13 : k = 13
    · subst h13
      obtain ⟨n1, n2, i1, i2, lo1, lo2, le1, le2, w1, w2, hr⟩ := ho
      subst n1
      exact pools_give h A Bq N M pp pc l1 sq sn sc s0 s1 s2 s3 i1 lo1 le1 w1 a ha hA s hsa
    exact pools_looks h A Bq N M k pp pn pc sq sn sc s0 s1 s2 s3 (by omega) (by simpa using h11) (by simpa using h19) (by simpa using h12) (by simpa using h13) a ha hA s hsa

end Go.Proofs.Ytnafocbgapianab
