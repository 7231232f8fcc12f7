import Derived.Test.YtfiekdgpdboolabR15
import Derived.Test.YtfiekdgpdboolabR16
import Derived.Test.YtfiekdgpdboolabG1
import Derived.SizedLaws
namespace Go.Proofs.Ytfiekdgpdboolab
open Go.RowKit Go.Maps

/-- An operation. -/
structure OpV where
  kind : Int
  D : Int
  a : Int
  n : Int
  v : Int
  pB : Option Addr
  bs : List Int
  cB : Nat
  pL : Option Addr
  cs : List Int
  cL : Nat

instance : Inhabited OpV := ⟨⟨0, 0, 0, 0, 0, none, [], 0, none, [], 0⟩⟩

/-- A script that lies in memory. -/
def OpsAt (w : World) (p : Option Addr) (l : List OpV) : Prop :=
  0 < l.length → ∃ b o, p = some ⟨b, o, none⟩ ∧ b < w.heap.size ∧ ∀ i, i < l.length →
    w.cell? ⟨b, o + i * 7, none⟩ = some (.int .i64 (l.getD i default).kind) ∧ w.cell? ⟨b, o + i * 7 + 1, none⟩ = some (.int .i64 (l.getD i default).D) ∧ w.cell? ⟨b, o + i * 7 + 2, none⟩ = some (.int .i64 (l.getD i default).a) ∧ w.cell? ⟨b, o + i * 7 + 3, none⟩ = some (.int .i64 (l.getD i default).n) ∧
    w.cell? ⟨b, o + i * 7 + 4, none⟩ = some (.int .u64 (l.getD i default).v) ∧ w.cell? ⟨b, o + i * 7 + 5, none⟩ = some (.slice (l.getD i default).pB (l.getD i default).bs.length (l.getD i default).cB) ∧ w.cell? ⟨b, o + i * 7 + 6, none⟩ = some (.slice (l.getD i default).pL (l.getD i default).cs.length (l.getD i default).cL) ∧
    OpAt w w.heap.size (l.getD i default).n (l.getD i default).v (l.getD i default).pB (l.getD i default).pL (l.getD i default).bs (l.getD i default).cs

theorem OpAt.kept {w w' : World} {B : Nat} {n v : Int} {pB pL : Option Addr} {bs cs : List Int} {X : Nat → Prop} (h : OpAt w B n v pB pL bs cs) (k : Keeps X w w') (hX : ∀ i, X i → w.heap.size ≤ i) : OpAt w' B n v pB pL bs cs :=
  ⟨h.by_.kept k hX, h.byb, h.byn, h.byl, h.il.kept k hX, h.ill, h.v0, h.n0⟩

set_option maxHeartbeats 4000000 in
set_option maxRecDepth 20000 in
theorem upTo_ok (w : World) (p : Option Addr) (cap : Nat) (l : List OpV) (lo hi : Int) (hO : OpsAt w p l) (hl : l.length ≤ maxLen) (h5 : ¬ (lo ≤ 5 ∧ 5 ≤ hi)) (h6 : ¬ (lo ≤ 6 ∧ 6 ≤ hi)) :
    Calls Try.prog 31 #[.slice p l.length cap, .int .i64 lo, .int .i64 hi] w fun e w' => e = .returned (.bool true) ∧ Below w.heap.size w w' := by
  have hbe := begin_ok w
  have HO := Hid.mk' hO
  unfold maxLen at hl
  clear hO
  go_enter Try.func31, Try.ntmps31
  go_wp2_with (first | (go_at_call 53; refine hbe.mono ?_; rintro e w1 ⟨rfl, ht1, hk1⟩; have H1 := Hid.mk' (show (∃ dd rr HH, TrioAt w1 w.heap.size w.heap.size dd rr HH 0) ∧ Keeps (fun _ => False) w w1 from ⟨ht1, hk1⟩); clear hbe ht1 hk1))
  go_loopw [9] (fun i wr => ∃ k : Nat, k ≤ l.length ∧ k ≤ 400 ∧ i = .int .i64 k ∧ Hid ((∃ dd rr HH, TrioAt wr w.heap.size w.heap.size dd rr HH (65536 * (k : Int))) ∧ Keeps (fun x => w.heap.size ≤ x) w wr)) (fun i _ => 400 - (intOf i).toNat)
  case atStart => exact ⟨0, by omega, by omega, rfl, H1.out.1, H1.out.2.mono fun _ _ h => h.elim⟩
  case round =>
    obtain ⟨k, hk1, hk2, rfl, hrel⟩ := hrel
    by_cases hlt : k < l.length ∧ k < 400
    · obtain ⟨hlt1, hlt2⟩ := hlt
      obtain ⟨b, o, rfl, hb, hc⟩ := HO.out (by omega)
      obtain ⟨e0, e1, e2, e3, e4, e5, e6, e7⟩ := hc k hlt1
      have kk := hrel.out.2
      have e0' := kk.cell e0 (by simp; omega)
      have e1' := kk.cell e1 (by simp; omega)
      have e2' := kk.cell e2 (by simp; omega)
      have e3' := kk.cell e3 (by simp; omega)
      have e4' := kk.cell e4 (by simp; omega)
      have e5' := kk.cell e5 (by simp; omega)
      have e6' := kk.cell e6 (by simp; omega)
      have hi1 : (k : Int) < (l.length : Int) := by omega
      have hi2 : (k : Int) < 400 := by omega
      have hi0 : (0 : Int) ≤ (k : Int) := by omega
      obtain ⟨dd, rr, HH, ht⟩ := hrel.out.1
      have HT := Hid.mk' ht
      have HKK := Hid.mk' kk
      have HOP := Hid.mk' (e7.kept kk (fun i hi => hi))
      generalize l.getD k default = x at *
      obtain ⟨kind, D, a, n, v, pB, bs, cB, pL, cs, cL⟩ := x
      simp only at e0' e1' e2' e3' e4' e5' e6' HOP
      clear e0 e1 e2 e3 e4 e5 e6 e7 hc ht kk hrel
      have hplay : ∀ w2, w2 = wr.alloc (.cells (opCells kind D a n v pB pL bs.length cs.length cB cL) 100) → (kind ≠ 5 ∧ kind ≠ 6) → Calls Try.prog 54 #[.pointer (some ⟨w.heap.size, 0, none⟩), .agg (opCells kind D a n v pB pL bs.length cs.length cB cL)] w2 fun e w' => e = .returned (.bool true) ∧ TrioMoved w.heap.size w.heap.size (65536 * (k : Int) + 65536) w2 w' := fun w2 hw2 hkd => by
        have k2 : Keeps (fun _ => False) wr w2 := by rw [hw2]; exact Keeps.of (World.grownBy_alloc wr _ none) (by simp)
        exact plays_ok w2 w.heap.size w.heap.size dd rr HH (65536 * (k : Int)) kind D a n v pB pL bs cs cB cL (HT.out.kept k2 (by simp)) (Nat.le_trans HKK.out.size k2.size) (by omega) (by omega) (HOP.out.kept k2 (by simp)) hkd
      by_cases c1 : lo ≤ kind ∧ kind ≤ hi
      · obtain ⟨c2, c3⟩ := c1
        have hkd : kind ≠ 5 ∧ kind ≠ 6 := by omega
        go_wp2_with (first
          | (go_at_call 54; refine (hplay _ rfl hkd).mono ?_; rintro e w3 ⟨rfl, hx⟩; have HM := Hid.mk' hx; clear hx))
        go_roundw
        case rel =>
          refine ⟨k + 1, by omega, by omega, by go_num, ?_, ?_⟩
          · obtain ⟨dd', rr', HH', q⟩ := HM.out.1
            exact ⟨dd', rr', HH', by rw [show (65536 * ((k + 1 : Nat) : Int)) = 65536 * (k : Int) + 65536 by omega]; exact q⟩
          · exact HKK.out.trans ((Keeps.of (World.grownBy_alloc wr _ none) (by simp)).trans HM.out.2)
        case measure => simp [intOf]; omega
      · have c4 : ¬ lo ≤ kind ∨ (lo ≤ kind ∧ ¬ kind ≤ hi) := by omega
        by_cases c5 : kind ≤ 3
        · have hkd : kind ≠ 5 ∧ kind ≠ 6 := by omega
          rcases c4 with c4 | ⟨c4, c4'⟩
          all_goals
            go_wp2_with (first
              | (go_at_call 54; refine (hplay _ rfl hkd).mono ?_; rintro e w3 ⟨rfl, hx⟩; have HM := Hid.mk' hx; clear hx))
            go_roundw
            case rel =>
              refine ⟨k + 1, by omega, by omega, by go_num, ?_, ?_⟩
              · obtain ⟨dd', rr', HH', q⟩ := HM.out.1
                exact ⟨dd', rr', HH', by rw [show (65536 * ((k + 1 : Nat) : Int)) = 65536 * (k : Int) + 65536 by omega]; exact q⟩
              · exact HKK.out.trans ((Keeps.of (World.grownBy_alloc wr _ none) (by simp)).trans HM.out.2)
            case measure => simp [intOf]; omega
        · by_cases c6 : 7 ≤ kind ∧ kind ≤ 12
          · have hkd : kind ≠ 5 ∧ kind ≠ 6 := by omega
            obtain ⟨c7, c8⟩ := c6
            rcases c4 with c4 | ⟨c4, c4'⟩
            all_goals
              go_wp2_with (first
                | (go_at_call 54; refine (hplay _ rfl hkd).mono ?_; rintro e w3 ⟨rfl, hx⟩; have HM := Hid.mk' hx; clear hx))
              go_roundw
              case rel =>
                refine ⟨k + 1, by omega, by omega, by go_num, ?_, ?_⟩
                · obtain ⟨dd', rr', HH', q⟩ := HM.out.1
                  exact ⟨dd', rr', HH', by rw [show (65536 * ((k + 1 : Nat) : Int)) = 65536 * (k : Int) + 65536 by omega]; exact q⟩
                · exact HKK.out.trans ((Keeps.of (World.grownBy_alloc wr _ none) (by simp)).trans HM.out.2)
              case measure => simp [intOf]; omega
          · have c7 : ¬ 7 ≤ kind ∨ (7 ≤ kind ∧ ¬ kind ≤ 12) := by omega
            clear hplay
            rcases c4 with c4 | ⟨c4, c4'⟩
            all_goals
              rcases c7 with c7 | ⟨c7, c7'⟩
              all_goals
                go_wp2
                go_roundw
                case rel =>
                  refine ⟨k + 1, by omega, by omega, by go_num, ?_, ?_⟩
                  · have k2 := Keeps.of (X := fun _ => False) (World.grownBy_alloc wr (.cells (opCells kind D a n v pB pL bs.length cs.length cB cL) 100) none) (by simp)
                    have q := HT.out.kept k2 (by simp)
                    exact ⟨dd, rr, HH, q.both, q.lo, fun i hi => (q.pair i hi).more (by omega), q.apart, q.hi⟩
                  · exact HKK.out.trans (Keeps.of (World.grownBy_alloc wr _ none) (by simp))
                case measure => simp [intOf]; omega
    · have hcut : ((k : Int) < (l.length : Int) ∧ ¬ (k : Int) < 400) ∨ ¬ (k : Int) < (l.length : Int) := by omega
      have HKK := Hid.mk' hrel.out.2
      clear hlt hrel hk1 hk2
      rcases hcut with ⟨hi1, hi2⟩ | hi1
      all_goals
        go_wp2
        go_ret
        exact ⟨rfl, HKK.out.below (Nat.le_refl _) (fun k hk => hk)⟩

end Go.Proofs.Ytfiekdgpdboolab

namespace Go.Proofs.Ytfiekdgpdboolab
open Go.ChangeShapes Go.WideShapes Go.ChangeAt Go.RowKit Go.Deep Go.Joins

theorem Try.cells5 : Try.prog.cellsOf 5 = 1 := by kernel_rfl
theorem Try.cells33 : Try.prog.cellsOf 33 = 1 := by kernel_rfl
theorem Try.cells43 : Try.prog.cellsOf 43 = 1 := by kernel_rfl
theorem Try.cells100 : Try.prog.cellsOf 100 = 7 := by kernel_rfl
theorem Try.bytes5 : Try.prog.bytesOf 5 = 1 := by kernel_rfl
theorem Try.bytes3 : Try.prog.bytesOf 3 = 8 := by kernel_rfl

variable {H : Type} {enc : TypeId × Value → H} {w : World} {spare : Nat → Bool} {held : Bool}

/-- All its weights are within reach. -/
def Light (t : TypeId) (d : DataW H) : Prop := ∀ n ∈ d.weights Try.prog t, n ≤ reachBytes

theorem wf_u8 {v : Int} (h : (Lit.int .u8 v).wf = true) : 0 ≤ v ∧ v ≤ 255 := by
  simp [Lit.wf, IntKind.min, IntKind.max, IntKind.signed, IntKind.bits] at h
  omega
theorem wf_i64b {n : Int} (h : (Lit.int .i64 n).wf = true) : -9223372036854775808 ≤ n ∧ n ≤ 9223372036854775807 := by
  simp [Lit.wf, IntKind.min, IntKind.max, IntKind.signed, IntKind.bits] at h
  omega

set_option maxRecDepth 100000 in
/-- A slice of bytes, opened. -/
theorem open_bytesL {fuel : Nat} {v : Value} {x : DataW H × List MemPlace} (h : DataW.trod enc Try.prog w 0 spare held fuel 33 [v] = some x) (hx : Light 33 x.1) :
    ∃ p cap, ∃ l : List Int, v = .slice p l.length cap ∧ BytesAt w p l ∧ (∀ b ∈ l, 0 ≤ b ∧ b ≤ 255) ∧ l.length ≤ 140737488351232 := by
  rcases open_slice1 Try.underlying33 Try.cells5 h with ⟨h0, _⟩ | ⟨a, len, cap, m, n, V, D, Pl, hcs, hb, hl, hm, hmm, hxx, hx'⟩
  · exact ⟨none, 0, [], by simpa using h0, fun h => absurd h (by simp), by simp, by simp⟩
  · have hlm : len ≤ m := by rw [hmm]; split <;> omega
    have each : ∀ i, i < len → ∃ q : Int, w.cell? (a.add i) = some (.int .u8 q) ∧ (0 ≤ q ∧ q ≤ 255) := by
      intro i hi
      obtain ⟨h1, h2⟩ := hx' i (by omega)
      obtain ⟨a0, e0, _, w0⟩ := DataW.trod_int Try.underlying5 h2
      simp at e0
      exact ⟨a0, by rw [h1, e0], wf_u8 w0⟩
    obtain ⟨q, hq⟩ := choose_lt each
    have hlen : len ≤ 140737488351232 := by
      rw [hxx] at hx
      have := hx ((((List.range len).map D).length + ((List.range (m - len)).map fun j => D (len + j)).length) * Try.prog.bytesOf 5) (by simp [DataW.weights, Try.underlying33])
      rw [Try.bytes5] at this
      simp [reachBytes] at this
      omega
    refine ⟨some a, cap, (List.range len).map q, by simpa using hcs, ?_, ?_, by simpa using hlen⟩
    · intro h0
      simp only [List.length_map, List.length_range] at h0
      have hs : a.spot = none ∧ a.block < w.heap.size := cell_addr (hq 0 h0).1
      obtain ⟨ab, ao, sp⟩ := a
      obtain rfl : sp = none := hs.1
      refine ⟨ab, ao, rfl, hs.2, fun i hi => ?_⟩
      simp only [List.length_map, List.length_range] at hi
      have e : ((List.range len).map q).getD i 0 = q i := by simp [List.getD_eq_getElem?_getD, hi]
      rw [e]
      have c0 := (hq i hi).1
      rw [addr_add] at c0
      exact c0
    · intro b hb'
      obtain ⟨i, hi, rfl⟩ := List.mem_map.1 hb'
      exact (hq i (List.mem_range.1 hi)).2

set_option maxRecDepth 100000 in
/-- A slice of ints, opened. -/
theorem open_intsL {fuel : Nat} {v : Value} {x : DataW H × List MemPlace} (h : DataW.trod enc Try.prog w 0 spare held fuel 43 [v] = some x) (hx : Light 43 x.1) :
    ∃ p cap, ∃ l : List Int, v = .slice p l.length cap ∧ IntsAt w p l ∧ l.length * 8 ≤ 140737488351232 := by
  rcases open_slice1 Try.underlying43 Try.cells3 h with ⟨h0, _⟩ | ⟨a, len, cap, m, n, V, D, Pl, hcs, hb, hl, hm, hmm, hxx, hx'⟩
  · exact ⟨none, 0, [], by simpa using h0, fun h => absurd h (by simp), by simp⟩
  · have hlm : len ≤ m := by rw [hmm]; split <;> omega
    have each : ∀ i, i < len → ∃ q : Int, w.cell? (a.add i) = some (.int .i64 q) := by
      intro i hi
      obtain ⟨h1, h2⟩ := hx' i (by omega)
      obtain ⟨a0, e0, _, w0⟩ := DataW.trod_int Try.underlying3 h2
      simp at e0
      exact ⟨a0, by rw [h1, e0]⟩
    obtain ⟨q, hq⟩ := choose_lt each
    have hlen : len * 8 ≤ 140737488351232 := by
      rw [hxx] at hx
      have := hx ((((List.range len).map D).length + ((List.range (m - len)).map fun j => D (len + j)).length) * Try.prog.bytesOf 3) (by simp [DataW.weights, Try.underlying43])
      rw [Try.bytes3] at this
      simp [reachBytes] at this
      omega
    refine ⟨some a, cap, (List.range len).map q, by simpa using hcs, ?_, by simpa using hlen⟩
    intro h0
    simp only [List.length_map, List.length_range] at h0
    have hs : a.spot = none ∧ a.block < w.heap.size := cell_addr (hq 0 h0)
    obtain ⟨ab, ao, sp⟩ := a
    obtain rfl : sp = none := hs.1
    refine ⟨ab, ao, rfl, hs.2, fun i hi => ?_⟩
    simp only [List.length_map, List.length_range] at hi
    have e : ((List.range len).map q).getD i 0 = q i := by simp [List.getD_eq_getElem?_getD, hi]
    rw [e]
    have c0 := hq i hi
    rw [addr_add] at c0
    exact c0

theorem weights_all {P : Program} {e : TypeId} {d : DataW H} : ∀ {l : List (DataW H)}, d ∈ l → ∀ n ∈ d.weights P e, n ∈ DataW.weightsAll P e l
  | x :: l, hd, n, hn => by
    simp only [DataW.weightsAll, List.mem_append]
    rcases List.mem_cons.1 hd with rfl | h
    · exact Or.inl hn
    · exact Or.inr (weights_all h n hn)

theorem under100 : ∃ fs : Array Field, Try.prog.underlying 100 = some (.struct fs) ∧ fs.toList.map (·.type) = [3, 3, 3, 3, 47, 33, 43] ∧ fs.toList.map (·.offset) = [0, 1, 2, 3, 4, 5, 6] := by
  refine ⟨_, Try.underlying100, ?_, ?_⟩ <;> kernel_rfl

set_option maxRecDepth 100000 in
theorem open_op {fuel : Nat} {cs' : List Value} {x : DataW H × List MemPlace} (h : DataW.trod enc Try.prog w 0 spare held fuel 100 cs' = some x) (hx : Light 100 x.1) :
    ∃ o : OpV, cs' = [.int .i64 o.kind, .int .i64 o.D, .int .i64 o.a, .int .i64 o.n, .int .u64 o.v, .slice o.pB o.bs.length o.cB, .slice o.pL o.cs.length o.cL] ∧ OpAt w w.heap.size o.n o.v o.pB o.pL o.bs o.cs := by
  obtain ⟨xs, n, _, hxe, hl, hlen, hg⟩ := DataW.trod_struct Try.underlying100 h
  rw [Try.cells100] at hl
  match xs, hlen, cs', hl with
  | [y0, y1, y2, y3, y4, y5, y6], _, [c0, c1, c2, c3, c4, c5, c6], _ =>
    have g0 := hg 0 _ rfl
    have g1 := hg 1 _ rfl
    have g2 := hg 2 _ rfl
    have g3 := hg 3 _ rfl
    have g4 := hg 4 _ rfl
    have g5 := hg 5 _ rfl
    have g6 := hg 6 _ rfl
    simp [Try.cells3, Try.cells47, Try.cells33, Try.cells43] at g0 g1 g2 g3 g4 g5 g6
    obtain ⟨a0, e0, _, _⟩ := DataW.trod_int Try.underlying3 g0
    obtain ⟨a1, e1, _, _⟩ := DataW.trod_int Try.underlying3 g1
    obtain ⟨a2, e2, _, _⟩ := DataW.trod_int Try.underlying3 g2
    obtain ⟨a3, e3, _, w3⟩ := DataW.trod_int Try.underlying3 g3
    obtain ⟨a4, e4, _, w4⟩ := DataW.trod_int Try.underlying47 g4
    simp at e0 e1 e2 e3 e4
    subst e0 e1 e2 e3 e4
    rw [hxe] at hx
    have hall : ∀ n ∈ DataW.weightsEach Try.prog [3, 3, 3, 3, 47, 33, 43] [y0.1, y1.1, y2.1, y3.1, y4.1, y5.1, y6.1], n ≤ reachBytes := fun n hn => hx n (by
      simp only [DataW.weights, Try.underlying100]
      exact hn)
    obtain ⟨pB, cB, bs, rfl, hb1, hb2, hb3⟩ := open_bytesL g5 (fun n hn => hall n (DataW.weights_mem_each (j := 5) rfl rfl n hn))
    obtain ⟨pL, cL, ls, rfl, hl1, hl2⟩ := open_intsL g6 (fun n hn => hall n (DataW.weights_mem_each (j := 6) rfl rfl n hn))
    refine ⟨⟨a0, a1, a2, a3, a4, pB, bs, cB, pL, ls, cL⟩, rfl, hb1, hb2, fun h0 b o e => ?_, hb3, hl1, hl2, wf_u64 w4, wf_i64b w3⟩
    obtain ⟨b', o', e', hb', _⟩ := hb1 h0
    rw [e'] at e
    cases e
    exact hb'

set_option maxRecDepth 100000 in
/-- A script, opened. -/
theorem open_ops {fuel : Nat} {v : Value} {x : DataW H × List MemPlace} (h : DataW.trod enc Try.prog w 0 spare held fuel 67 [v] = some x) (hx : Light 67 x.1) :
    ∃ p cap l, v = .slice p l.length cap ∧ OpsAt w p l ∧ l.length ≤ maxLen := by
  rcases open_slice Try.underlying67 h with ⟨h0, _⟩ | ⟨a, len, cap, m, n, D, Pl, hcs, hb, hl, hm, hmm, hxx, hx'⟩
  · exact ⟨none, 0, [], by simpa using h0, fun h => absurd h (by simp), by simp⟩
  · have hlm : len ≤ m := by rw [hmm]; split <;> omega
    have each : ∀ i, i < len → ∃ q : OpV, (w.cell? (a.add (i * 7)) = some (.int .i64 q.kind) ∧ w.cell? (a.add (i * 7 + 1)) = some (.int .i64 q.D) ∧ w.cell? (a.add (i * 7 + 2)) = some (.int .i64 q.a) ∧ w.cell? (a.add (i * 7 + 3)) = some (.int .i64 q.n) ∧ w.cell? (a.add (i * 7 + 4)) = some (.int .u64 q.v) ∧ w.cell? (a.add (i * 7 + 5)) = some (.slice q.pB q.bs.length q.cB) ∧ w.cell? (a.add (i * 7 + 6)) = some (.slice q.pL q.cs.length q.cL)) ∧ OpAt w w.heap.size q.n q.v q.pB q.pL q.bs q.cs := by
      intro i hi
      obtain ⟨cs', h1, h2⟩ := hx' i (by omega)
      rw [Try.cells100] at h1
      obtain ⟨_, hlen, hcell⟩ := World.cells?_some h1
      obtain ⟨q, rfl, hq⟩ := open_op h2 (fun n hn => by
        rw [hxx] at hx
        refine hx n ?_
        simp only [DataW.weights, Try.underlying67, List.mem_cons, List.mem_append]
        exact Or.inr (Or.inl (weights_all (d := D i) (List.mem_map.2 ⟨i, List.mem_range.2 hi, rfl⟩) n hn)))
      have c0 := hcell 0 (by omega)
      have c1 := hcell 1 (by omega)
      have c2 := hcell 2 (by omega)
      have c3 := hcell 3 (by omega)
      have c4 := hcell 4 (by omega)
      have c5 := hcell 5 (by omega)
      have c6 := hcell 6 (by omega)
      rw [add_add] at c0 c1 c2 c3 c4 c5 c6
      exact ⟨q, ⟨by simpa using c0, by simpa using c1, by simpa using c2, by simpa using c3, by simpa using c4, by simpa using c5, by simpa using c6⟩, hq⟩
    obtain ⟨q, hq⟩ := choose_lt each
    refine ⟨some a, cap, (List.range len).map q, by simpa using hcs, ?_, by simp; omega⟩
    intro h0
    simp only [List.length_map, List.length_range] at h0
    have hs : a.spot = none ∧ a.block < w.heap.size := cell_addr (hq 0 h0).1.1
    obtain ⟨ab, ao, sp⟩ := a
    obtain rfl : sp = none := hs.1
    refine ⟨ab, ao, rfl, hs.2, fun i hi => ?_⟩
    simp only [List.length_map, List.length_range] at hi
    have e : ((List.range len).map q).getD i default = q i := by simp [List.getD_eq_getElem?_getD, hi]
    rw [e]
    obtain ⟨⟨c0, c1, c2, c3, c4, c5, c6⟩, c7⟩ := hq i hi
    rw [addr_add] at c0 c1 c2 c3 c4 c5 c6
    exact ⟨c0, by simpa [Nat.add_assoc] using c1, by simpa [Nat.add_assoc] using c2, by simpa [Nat.add_assoc] using c3, by simpa [Nat.add_assoc] using c4, by simpa [Nat.add_assoc] using c5, by simpa [Nat.add_assoc] using c6, c7⟩

end Go.Proofs.Ytfiekdgpdboolab
