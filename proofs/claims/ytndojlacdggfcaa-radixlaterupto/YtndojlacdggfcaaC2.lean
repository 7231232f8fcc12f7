import Derived.Test.YtndojlacdggfcaaC1
namespace Go.Proofs.Ytndojlacdggfcaa
open Go.RowKit Go.Shelf

attribute [local go_sem] Oper.semAt_some

set_option maxRecDepth 100000 in
set_option maxHeartbeats 2000000 in
theorem each_in (F : Fence) (hd : F.depth = none) (h32 : F.fn 32) (hro : F.round = none) (l N B : Nat) (lo : Int) (g : Nat → Int) (J Jx : List El → World → Prop) (hJ : AbidesFrom B J)
    (hY : ∀ m pre x W, J pre W → pre.length < N → YieldAt F m Try.prog l (encs x) W fun e W' =>
      (e = .returned (.bool true) ∧ J (pre ++ [x]) W' ∧ KeepS W W') ∨ (e = .returned (.bool false) ∧ Jx (pre ++ [x]) W')) (k : Nat) :
    ∀ (n : Nat) (p : Option Addr) (v : Int) (first : Nat) (pre : List El) (W : World) (X : Nat → Prop), k ≤ 3 → SlotAt W X k p v (fun o => g (first + o)) → first + 8 ^ k ≤ 512 → J pre W → pre.length + (els g lo first (8 ^ k)).length ≤ N →
      CallsIn F n Try.prog 32 #[.agg #[.pointer p, .int .i64 v], .int .i64 (first : Int), .int .i64 ((8 ^ k : Nat) : Int), .int .i64 lo, .func (.yield l) #[] #[]] W fun e W' =>
        (e = .returned (.bool true) ∧ J (pre ++ els g lo first (8 ^ k)) W' ∧ KeepS W W') ∨ (e = .returned (.bool false) ∧ ∃ q, q <+: els g lo first (8 ^ k) ∧ Jx (pre ++ q) W') := by
  have hdd : ∀ k : Nat, (F.depth.isSome = true → 1 ≤ k) := fun k h => by rw [hd] at h; cases h
  have heq : ∀ (p : Option Addr) (v : Int) (w : World), (Op.equalIn 10000 71 (.agg #[.pointer p, .int .i64 v]) (.agg #[.pointer none, .int .i64 0])).run Try.prog w = .ok (p.isNone && v == 0) w := fun p v w => slot_eql 9998 p v w
  induction k with
  | zero =>
    intro n p v first pre W X _ hs hf hj hN
    obtain ⟨rfl, rfl⟩ := hs
    rw [show (8 ^ 0 : Nat) = 1 from rfl] at hN hf ⊢
    rw [show ((1 : Nat) : Int) = 1 from rfl]
    simp only [Nat.add_zero]
    have hfl : first < 512 := by omega
    have hK := Keeps.new W (.cells #[.pointer none, .int .i64 (g first)] 71)
    have hj1 : J pre (W.alloc (.cells #[.pointer none, .int .i64 (g first)] 71)) := hJ pre W _ none hj (World.grownBy_alloc W _ none) (by simp)
    by_cases h1 : (first : Int) + 1 ≤ lo
    · have hE : els g lo first 1 = [] := els_none fun o h2 h3 => by left; omega
      rw [hE]
      refine callsIn_of_wp Try.func32 rfl h32 ?_ hro
      simp only [Try.ntmps32, List.size_toArray, List.length_cons, List.length_nil, Nat.reduceAdd, Nat.reduceSub, Array.replicate_succ, Array.replicate_zero, List.push_toArray, List.append_toArray, List.nil_append, List.cons_append]
      gi_wp2
      go_ret
      exact .inl ⟨rfl, by simpa using hj1, hK.none_slots⟩
    · have h1' : lo < (first : Int) + 1 := by omega
      by_cases h2 : g first = 0
      · have hE : els g lo first 1 = [] := els_none fun o h3 h4 => by right; rw [show o = first by omega]; exact h2
        rw [hE]
        rw [h2] at hj1 hK ⊢
        have heq0 := heq none 0
        clear heq
        refine callsIn_of_wp Try.func32 rfl h32 ?_ hro
        simp only [Try.ntmps32, List.size_toArray, List.length_cons, List.length_nil, Nat.reduceAdd, Nat.reduceSub, Array.replicate_succ, Array.replicate_zero, List.push_toArray, List.append_toArray, List.nil_append, List.cons_append]
        gi_wp2
        go_ret
        exact .inl ⟨rfl, by simpa using hj1, hK.none_slots⟩
      · have hE : els g lo first 1 = [(⟨first, hfl⟩, g first)] := els_one hfl (by omega) h2
        rw [hE] at hN ⊢
        have heq0 := heq none (g first)
        rw [show ((none : Option Addr).isNone && g first == 0) = false by simpa using h2] at heq0
        clear heq
        obtain ⟨fn, tmps, assign, body, hy, hR⟩ := hY (n - 1) pre (⟨first, hfl⟩, g first) _ hj1 (by simp at hN; omega)
        dsimp only [encs] at hy
        refine callsIn_of_wp Try.func32 rfl h32 ?_ hro
        simp only [Try.ntmps32, List.size_toArray, List.length_cons, List.length_nil, Nat.reduceAdd, Nat.reduceSub, Array.replicate_succ, Array.replicate_zero, List.push_toArray, List.append_toArray, List.nil_append, List.cons_append]
        gi_wp2_with ((try refine ⟨hdd _, ?_⟩); refine hR.mono ?_; clear hR; rintro e W2 (⟨rfl, hj2, hk2⟩ | ⟨rfl, hx2⟩))
        · go_ret
          exact .inl ⟨rfl, hj2, hK.none_slots.trans hk2⟩
        · go_ret
          exact .inr ⟨rfl, _, List.prefix_rfl, hx2⟩
  | succ k ih =>
    intro n p v first pre W X hk hs hf hj hN
    have hp0 := pow_le k (by omega)
    have hdv := pow_div k
    have hR1 : 1 ≤ 8 ^ k := Nat.pow_pos (by decide)
    obtain ⟨R, hR⟩ : ∃ R, 8 ^ k = R := ⟨_, rfl⟩
    obtain ⟨R8, hR8⟩ : ∃ R, 8 ^ (k + 1) = R := ⟨_, rfl⟩
    have E8 := Hid.mk' (show R8 = R * 8 by rw [← hR8, Nat.pow_succ, hR])
    rw [hR] at hp0 hdv hR1
    rw [hR8] at hdv hf hN ⊢
    obtain ⟨rfl, ⟨rfl, hz⟩ | ⟨b, q, u, rfl, hxb, hn, hs⟩⟩ := hs
    · have hK := Keeps.new W (.cells #[.pointer none, .int .i64 0] 71)
      have hj1 : J pre (W.alloc (.cells #[.pointer none, .int .i64 0] 71)) := hJ pre W _ none hj (World.grownBy_alloc W _ none) (by simp)
      have hE : els g lo first R8 = [] := els_none fun o h3 h4 => by
        right
        have : g (first + (o - first)) = 0 := hz (o - first) (by rw [hR8]; omega)
        rwa [show first + (o - first) = o by omega] at this
      rw [hE]
      have heq0 := heq none 0
      clear heq ih hz hY
      by_cases h1 : (first : Int) + (R8 : Int) ≤ lo
      · refine callsIn_of_wp Try.func32 rfl h32 ?_ hro
        simp only [Try.ntmps32, List.size_toArray, List.length_cons, List.length_nil, Nat.reduceAdd, Nat.reduceSub, Array.replicate_succ, Array.replicate_zero, List.push_toArray, List.append_toArray, List.nil_append, List.cons_append]
        gi_wp2
        go_ret
        exact .inl ⟨rfl, by simpa using hj1, hK.none_slots⟩
      · have h1' : lo < (first : Int) + (R8 : Int) := by omega
        refine callsIn_of_wp Try.func32 rfl h32 ?_ hro
        simp only [Try.ntmps32, List.size_toArray, List.length_cons, List.length_nil, Nat.reduceAdd, Nat.reduceSub, Array.replicate_succ, Array.replicate_zero, List.push_toArray, List.append_toArray, List.nil_append, List.cons_append]
        gi_wp2
        go_ret
        exact .inl ⟨rfl, by simpa using hj1, hK.none_slots⟩
    · have hK := Keeps.new W (.cells #[.pointer (some ⟨b, 0, none⟩), .int .i64 0] 71)
      have hj1 : J pre (W.alloc (.cells #[.pointer (some ⟨b, 0, none⟩), .int .i64 0] 71)) := hJ pre W _ none hj (World.grownBy_alloc W _ none) (by simp)
      have hB0 := (MapKept.heap_alloc W (.cells #[.pointer (some ⟨b, 0, none⟩), .int .i64 0] 71)).1
      have heq0 := heq (some ⟨b, 0, none⟩) 0
      clear heq
      by_cases h1 : (first : Int) + (R8 : Int) ≤ lo
      · have hE : els g lo first R8 = [] := els_none fun o h3 h4 => by left; omega
        rw [hE]
        clear ih hs
        refine callsIn_of_wp Try.func32 rfl h32 ?_ hro
        simp only [Try.ntmps32, List.size_toArray, List.length_cons, List.length_nil, Nat.reduceAdd, Nat.reduceSub, Array.replicate_succ, Array.replicate_zero, List.push_toArray, List.append_toArray, List.nil_append, List.cons_append]
        gi_wp2
        go_ret
        exact .inl ⟨rfl, by simpa using hj1, hK.none_slots⟩
      · have h1' : lo < (first : Int) + (R8 : Int) := by omega
        have hn1 : NodeAt (W.alloc (.cells #[.pointer (some ⟨b, 0, none⟩), .int .i64 0] 71)) b q u := hK.none_nodes _ _ _ hn
        have hs1 : ∀ i, i < 8 → SlotAt (W.alloc (.cells #[.pointer (some ⟨b, 0, none⟩), .int .i64 0] 71)) X k (q i) (u i) (fun o => g (first + (i * R + o))) := fun i hi => by
          have := (hs i hi).keep hK.none_nodes
          rw [hR] at this
          exact this
        have HW := Hid.mk' (And.intro hK (And.intro hB0 (And.intro hn1 hs1)))
        have IH := Hid.mk' ih
        clear hK hB0 hn1 hs1 ih hs hn hj hY
        refine callsIn_of_wp Try.func32 rfl h32 ?_ hro
        simp only [Try.ntmps32, List.size_toArray, List.length_cons, List.length_nil, Nat.reduceAdd, Nat.reduceSub, Array.replicate_succ, Array.replicate_zero, List.push_toArray, List.append_toArray, List.nil_append, List.cons_append]
        gi_wp2
        gi_loopw [33] (fun c wr => ∃ i : Nat, i ≤ 8 ∧ c = .int .i64 i ∧ Hid (J (pre ++ els g lo first (i * R)) wr ∧ KeepS (W.alloc (.cells #[.pointer (some ⟨b, 0, none⟩), .int .i64 0] 71)) wr)) (fun c _ => 8 - (intOf c).toNat)
        case atStart => exact ⟨0, by omega, rfl, by simpa [els_zero] using hj1, KeepS.refl _⟩
        case round =>
          obtain ⟨i, hi, rfl, hrel⟩ := hrel
          obtain ⟨hjr, hkr⟩ := hrel.out
          have e8 := E8.out
          by_cases hlt8 : i < 8
          · have hi8 : (i : Int) < 8 := by omega
            have hiR := Nat.mul_le_mul_right R (show i ≤ 7 by omega)
            have hi1 : (i + 1) * R = i * R + R := by rw [Nat.add_mul, Nat.one_mul]
            obtain ⟨M, hM⟩ : ∃ M, i * R = M := ⟨_, rfl⟩
            have hmul : (i : Int) * (R : Int) = (M : Int) := by rw [← hM, Int.natCast_mul]
            have hMb : M + R ≤ R8 := by omega
            obtain ⟨c0, c1, _⟩ := cells2' (hkr _ _ _ (.inl rfl) HW.out.2.1)
            obtain ⟨n0, n1⟩ := node_cell (hkr.nodes _ _ _ HW.out.2.2.1) i hlt8
            have hsl := ((HW.out.2.2.2 i hlt8).keep hkr.nodes).congr (g := fun o => g (first + M + o)) (fun o _ => by rw [hM, Nat.add_assoc])
            rw [hM] at hjr
            have hpart : els g lo first R8 = els g lo first M ++ els g lo (first + M) R ++ els g lo (first + (M + R)) (R8 - (M + R)) := by
              rw [← els_add, ← els_add, Nat.add_sub_cancel' hMb]
            have hc := IH.out (n - 1) (q i) (u i) (first + M) _ wr X (by omega) hsl (by rw [hR]; omega) hjr (by rw [hR]; rw [hpart] at hN; simp only [List.length_append] at hN ⊢; omega)
            rw [hR, Int.natCast_add] at hc
            have hc' := hc.mono (R' := fun e W' => (e = .returned (.bool true) ∧ Hid (J (pre ++ els g lo first ((i + 1) * R)) W' ∧ KeepS (W.alloc (.cells #[.pointer (some ⟨b, 0, none⟩), .int .i64 0] 71)) W')) ∨
                (e = .returned (.bool false) ∧ Hid (∃ q, q <+: els g lo first R8 ∧ Jx (pre ++ q) W'))) (fun e W' h => h.elim
              (fun ⟨he, hj', hk'⟩ => .inl ⟨he, by rw [hi1, hM, els_add, ← List.append_assoc]; exact hj', hkr.trans hk'⟩)
              (fun ⟨he, q, ⟨r, hq⟩, hx⟩ => .inr ⟨he, els g lo first M ++ q, ⟨r ++ els g lo (first + (M + R)) (R8 - (M + R)), by rw [hpart, ← hq]; simp⟩, by rw [← List.append_assoc]; exact hx⟩))
            have HE := Hid.mk' (And.intro e8 hMb)
            clear hc hsl hpart hiR hi1 hjr hkr hrel IH HW e8 hM hN
            gi_wp2_with ((try refine ⟨hdd _, ?_⟩); gi_at_call 32; refine hc'.mono ?_; clear hc'; rintro e W2 (⟨rfl, hx⟩ | ⟨rfl, hx⟩))
            · exact ⟨⟨i + 1, by omega, by go_num, hx⟩, by simp [intOf]; omega⟩
            · go_ret
              exact .inr ⟨rfl, hx.out⟩
          · obtain rfl : i = 8 := by omega
            have hK := HW.out.1
            rw [show 8 * R = R8 by omega] at hjr
            have HJ := Hid.mk' (And.intro hjr (hK.none_slots.trans hkr))
            clear hjr hkr hrel IH HW hK hN
            gi_wp2
            go_ret
            exact .inl ⟨rfl, HJ.out.1, HJ.out.2⟩

end Go.Proofs.Ytndojlacdggfcaa
