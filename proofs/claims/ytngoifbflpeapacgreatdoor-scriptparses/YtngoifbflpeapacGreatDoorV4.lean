import Derived.Test.YtngoifbflpeapacGreatDoorQ1
import Derived.Lib.SplitLaws
import Derived.Test.YtngoifbflpeapacGreatDoorV3
import Derived.Test.YtngoifbflpeapacGreatDoorB9
import Derived.Test.YtngoifbflpeapacGreatDoorH4
import Derived.Deep.QuietTactic
namespace Go.Proofs.YtngoifbflpeapacGreatDoor
open Go.RowKit Go.Maps
set_option maxRecDepth 100000

/-! A text's lines, by themselves. -/
def spl : Bs → List Bs
  | [] => [[]]
  | b :: r => if b = 10 then [] :: spl r else match spl r with
    | [] => [[b]]
    | l :: ls => (b :: l) :: ls
theorem spl_ne (s : Bs) : spl s ≠ [] := by
  cases s with
  | nil => simp [spl]
  | cons b r =>
    unfold spl
    split
    · simp
    · split <;> simp
theorem spl_none : ∀ s : Bs, (10 : UInt8) ∉ s → spl s = [s]
  | [], _ => rfl
  | b :: r, h => by
    have hb : ¬ b = 10 := fun e => h (by simp [e])
    rw [spl, if_neg hb, spl_none r (fun e => h (List.mem_cons_of_mem _ e))]
theorem spl_hit (r : Bs) : ∀ p : Bs, (10 : UInt8) ∉ p → spl (p ++ 10 :: r) = p :: spl r
  | [], _ => by show spl (10 :: r) = _; rw [spl, if_pos rfl]
  | b :: p, h => by
    have hb : ¬ b = 10 := fun e => h (by simp [e])
    show spl (b :: (p ++ 10 :: r)) = _
    rw [spl, if_neg hb, spl_hit r p (fun e => h (List.mem_cons_of_mem _ e))]
theorem ix_none : ∀ s : Bs, (10 : UInt8) ∉ s → Lib.index s [10] = -1
  | [], _ => rfl
  | b :: r, h => by
    have hb : ¬ b = 10 := fun e => h (by simp [e])
    have ih := ix_none r (fun e => h (List.mem_cons_of_mem _ e))
    have hp : ([10] : Bs).isPrefixOf (b :: r) = false := by
      have : ((10 : UInt8) == b) = false := beq_eq_false_iff_ne.2 (fun e => hb e.symm)
      show ((10 : UInt8) == b && _) = false
      rw [this]; rfl
    rw [Lib.index, hp, ih]
    rfl
theorem ix_hit (r : Bs) : ∀ p : Bs, (10 : UInt8) ∉ p → Lib.index (p ++ 10 :: r) [10] = (p.length : Int)
  | [], _ => by
    show Lib.index (10 :: r) [10] = 0
    rw [Lib.index, if_pos (by simp)]
  | b :: p, h => by
    have hb : ¬ b = 10 := fun e => h (by simp [e])
    have ih := ix_hit r p (fun e => h (List.mem_cons_of_mem _ e))
    have hp : ([10] : Bs).isPrefixOf (b :: (p ++ 10 :: r)) = false := by
      have : ((10 : UInt8) == b) = false := beq_eq_false_iff_ne.2 (fun e => hb e.symm)
      show ((10 : UInt8) == b && _) = false
      rw [this]; rfl
    show Lib.index (b :: (p ++ 10 :: r)) [10] = _
    rw [Lib.index, hp, ih, if_neg (by decide), if_neg (by simp)]
    simp
theorem splitK_spl : ∀ (k : Nat) (s : Bs), s.count 10 ≤ k → Lib.splitK [10] 0 k s = spl s
  | 0, s, h => by
    rw [spl_none s (fun hm => by have := List.count_pos_iff.2 hm; omega)]
    rfl
  | k + 1, s, h => by
    by_cases hm : (10 : UInt8) ∈ s
    · obtain ⟨p, r, rfl, hp⟩ := List.eq_append_cons_of_mem hm
      have hc : r.count 10 ≤ k := by
        rw [List.count_append, List.count_cons_self] at h
        omega
      rw [spl_hit r p hp, Lib.splitK, ix_hit r p hp, if_neg (by simp)]
      have e1 : ((p.length : Int)).toNat = p.length := by omega
      rw [e1, Nat.add_zero, List.take_left, show p.length + ([10] : Bs).length = p.length + 1 from rfl, ← List.drop_drop, List.drop_left]
      show p :: Lib.splitK [10] 0 k r = _
      rw [splitK_spl k r hc]
    · rw [spl_none s hm, Lib.splitK, ix_none s hm]
      rfl
/-- strings.Split at line feeds. -/
theorem split_spl (s : ByteArray) : Lib.splitB ⟨#[10]⟩ 0 (Lib.countB s ⟨#[10]⟩) s = (spl s.data.toList).map mkB := by
  have h := Lib.splitB_data ⟨#[10]⟩ 0 (Lib.countB s ⟨#[10]⟩) s
  have hc : s.data.toList.count 10 ≤ Lib.countB s ⟨#[10]⟩ := by
    have : Lib.countB s ⟨#[10]⟩ = s.data.toList.count 10 := Lib.count_one 10 s.data.toList
    omega
  rw [show (⟨#[10]⟩ : ByteArray).data.toList = [10] from rfl, splitK_spl _ _ hc] at h
  rw [← h, List.map_map]
  have : (mkB ∘ fun x : ByteArray => x.data.toList) = id := by funext x; exact mkB_data x
  rw [this, List.map_id]
theorem split_len (s : ByteArray) : Lib.countB s ⟨#[10]⟩ + 1 = (spl s.data.toList).length := by
  have hc : Lib.countB s ⟨#[10]⟩ = s.data.toList.count 10 := Lib.count_one 10 s.data.toList
  rw [hc]
  generalize s.data.toList = x
  induction x with
  | nil => rfl
  | cons b r ih =>
    rw [spl]
    by_cases hb : b = 10
    · subst hb
      rw [if_pos rfl, List.count_cons_self, List.length_cons, ← ih]
    · rw [if_neg hb, List.count_cons_of_ne (fun e => hb e), ih]
      cases hs : spl r with
      | nil => exact absurd hs (spl_ne r)
      | cons l ls => rfl
/-- Whether a line is passed over. -/
def psd (l : Bs) : Bool := match l.dropWhile (· == 32) with
  | [] => true
  | b :: _ => b == 35
/-- The lines that are steps. -/
def prs (x : Bs) : List Bs := (spl x).filter fun l => !psd l
theorem spl_le : ∀ x : Bs, ∀ l ∈ spl x, l.length ≤ x.length
  | [], l, h => by
    rw [show l = [] by simpa [spl] using h]
    exact Nat.le_refl _
  | b :: r, l, h => by
    rw [spl] at h
    by_cases hb : b = 10
    · rw [if_pos hb] at h
      rcases List.mem_cons.1 h with rfl | h
      · exact Nat.zero_le _
      · have := spl_le r l h; rw [List.length_cons]; omega
    · rw [if_neg hb] at h
      cases hs : spl r with
      | nil => exact absurd hs (spl_ne r)
      | cons a ls =>
        rw [hs] at h
        simp only at h
        rcases List.mem_cons.1 h with rfl | h
        · have := spl_le r a (by rw [hs]; simp)
          rw [List.length_cons, List.length_cons]; omega
        · have := spl_le r l (by rw [hs]; exact List.mem_cons_of_mem _ h)
          rw [List.length_cons]; omega
theorem spl_count (x : Bs) : (spl x).length ≤ x.length + 1 := by
  induction x with
  | nil => exact Nat.le_refl _
  | cons b r ih =>
    rw [spl]
    by_cases hb : b = 10
    · rw [if_pos hb, List.length_cons, List.length_cons]; omega
    · rw [if_neg hb]
      cases hs : spl r with
      | nil => exact absurd hs (spl_ne r)
      | cons a ls =>
        rw [hs] at ih
        simp only [List.length_cons] at ih ⊢
        omega
end Go.Proofs.YtngoifbflpeapacGreatDoor

namespace Go.Proofs.YtngoifbflpeapacGreatDoor
open Go.RowKit Go.Maps
set_option maxRecDepth 100000

/-! The document's passed. -/
theorem psd_drop {l : Bs} {j : Nat} {b : UInt8} (h : l[j]? = some b) : psd (l.drop j) = if b = 32 then psd (l.drop (j + 1)) else b == 35 := by
  have hj := (List.getElem?_eq_some_iff.1 h).1
  have e : l.drop j = b :: l.drop (j + 1) := by
    rw [List.drop_eq_getElem_cons hj]
    have : l[j] = b := by simpa [hj] using h
    rw [this]
  rw [e]
  unfold psd
  by_cases hb : b = 32
  · subst hb; simp
  · have hb2 : (b == 32) = false := beq_eq_false_iff_ne.2 hb
    rw [List.dropWhile_cons, hb2, if_neg hb]
    simp
set_option maxHeartbeats 4000000 in
theorem rpassed_any (w : World) (s : ByteArray) (hs : s.size ≤ 1000000) : Calls Tryz.prog 26 #[.string s] w fun e w' => e = .returned (.bool (psd s.data.toList)) ∧ w' = w := by
  have HS := Hid.mk' (size_len s)
  go_enter Tryz.func26, Tryz.ntmps26
  go_wp2
  go_loopw [3] (fun i wr => ∃ j : Nat, j ≤ s.size ∧ i = .int .i64 j ∧ Hid (psd s.data.toList = psd (s.data.toList.drop j)) ∧ wr = w) (fun i _ => s.size - (intOf i).toNat)
  case atStart => exact ⟨0, Nat.zero_le _, rfl, rfl, rfl⟩
  case round =>
    obtain ⟨j, hj, rfl, HJ, rfl⟩ := hrel
    by_cases h1 : j < s.size
    · have h1' : (j : Int) < (s.size : Int) := by omega
      have hb := byte_at s j h1
      have HD := Hid.mk' (HJ.out.trans (psd_drop hb))
      clear hb
      by_cases h32 : (s[j]'h1) = 32
      · have HJ2 : Hid (psd s.data.toList = psd (s.data.toList.drop (j + 1))) := by show _ = _; rw [HD.out, if_pos h32]
        have q1 := by_yes (k := 32) 32 rfl h32
        have q2 : (((s[j]'h1).toNat : Int) != 32) = false := by rw [bne, q1]; rfl
        generalize hbb : (s[j]'h1) = bb at *
        go_wp2
        go_roundw
        case rel => exact ⟨j + 1, by omega, by go_num, HJ2.out, by first | rfl | trivial⟩
        case measure => simp [intOf]; omega
      · have HE : Hid (psd s.data.toList = ((s[j]'h1) == 35)) := by show _ = _; rw [HD.out, if_neg h32]
        have q1 := by_no (k := 32) 32 rfl h32
        have q2 : (((s[j]'h1).toNat : Int) != 32) = true := by rw [bne, q1]; rfl
        have q3 : (((s[j]'h1).toNat : Int) == 35) = ((s[j]'h1) == 35) := by have h := beq_byte (s[j]'h1) 35; exact h
        generalize hbb : (s[j]'h1) = bb at *
        go_wp2
        go_ret
        exact ⟨by first | (rw [HE.out, ← q3]; rfl) | (rw [HE.out, ← q3]), rfl⟩
    · have h1' : ¬ (j : Int) < (s.size : Int) := by omega
      have HE : Hid (psd s.data.toList = true) := by show _ = _; rw [HJ.out, List.drop_of_length_le (by have := HS.out; omega)]; rfl
      go_wp2
      go_ret
      exact ⟨by rw [HE.out]; rfl, rfl⟩
end Go.Proofs.YtngoifbflpeapacGreatDoor

namespace Go.Proofs.YtngoifbflpeapacGreatDoor
open Go.RowKit Go.Maps
set_option maxRecDepth 100000

/-! The document's walk over the lines of a text. -/
structure Scan (x : Bs) (i f : Nat) (ds : List Bs) : Prop where
  fi : f ≤ i
  eq : spl x = ds ++ spl (x.drop f)
  no : (10 : UInt8) ∉ (x.drop f).take (i - f)
theorem scan0 (x : Bs) : Scan x 0 0 [] := ⟨Nat.le_refl _, by simp, by simp⟩
theorem take_more {x : Bs} {i f : Nat} {b : UInt8} (h : f ≤ i) (hx : x[i]? = some b) : (x.drop f).take (i + 1 - f) = (x.drop f).take (i - f) ++ [b] := by
  rw [show i + 1 - f = (i - f) + 1 by omega, List.take_add_one, List.getElem?_drop, show f + (i - f) = i by omega, hx]
  rfl
theorem Scan.go {x : Bs} {i f : Nat} {ds : List Bs} {b : UInt8} (h : Scan x i f ds) (hx : x[i]? = some b) (hb : ¬ b = 10) : Scan x (i + 1) f ds := by
  refine ⟨by have := h.fi; omega, h.eq, ?_⟩
  rw [take_more h.fi hx, List.mem_append, List.mem_singleton]
  rintro (h1 | h1)
  · exact h.no h1
  · exact hb h1.symm
theorem Scan.hit {x : Bs} {i f : Nat} {ds : List Bs} (h : Scan x i f ds) (hx : x[i]? = some 10) : Scan x (i + 1) (i + 1) (ds ++ [(x.drop f).take (i - f)]) := by
  have hi := (List.getElem?_eq_some_iff.1 hx).1
  have e : x.drop f = (x.drop f).take (i - f) ++ 10 :: x.drop (i + 1) := by
    have h1 := (List.take_append_drop (i - f) (x.drop f)).symm
    rw [List.drop_drop, show f + (i - f) = i by have := h.fi; omega, List.drop_eq_getElem_cons hi] at h1
    have : x[i] = 10 := by simpa [hi] using hx
    rw [this] at h1
    exact h1
  refine ⟨Nat.le_refl _, ?_, by simp⟩
  rw [h.eq, List.append_assoc]
  conv => lhs; rw [e, spl_hit _ _ h.no]
  rfl
theorem Scan.last {x : Bs} {f : Nat} {ds : List Bs} (h : Scan x x.length f ds) : spl x = ds ++ [(x.drop f).take (x.length - f)] := by
  have e : (x.drop f).take (x.length - f) = x.drop f := List.take_of_length_le (by rw [List.length_drop]; omega)
  have h1 := h.no
  rw [e] at h1 ⊢
  rw [h.eq, spl_none _ h1]
end Go.Proofs.YtngoifbflpeapacGreatDoor

namespace Go.Proofs.YtngoifbflpeapacGreatDoor
open Go.RowKit Go.Maps
set_option maxRecDepth 100000

set_option maxHeartbeats 2000000 in
theorem passedOver_any (w : World) (s : ByteArray) : Calls Tryz.prog 19 #[.string s] w fun e w' => e = .returned (.bool (psd s.data.toList)) ∧ w' = w := by
  have ht := Tryz.strings_TrimLeft_one s 32 (by decide) w
  unfold Lib.trimLeftB at ht
  have HP : Hid (psd s.data.toList = match s.data.toList.dropWhile (· == 32) with | [] => true | b :: _ => b == 35) := rfl
  generalize s.data.toList.dropWhile (· == 32) = d at *
  cases d with
  | nil =>
    go_enter Tryz.func19, Tryz.ntmps19
    go_wp2_with (first | (go_at_call 30; refine ht.mono ?_; clear ht; rintro e w1 ⟨rfl, rfl⟩))
    go_ret
    exact ⟨by rw [HP.out]; rfl, rfl⟩
  | cons b r =>
    have hz : (⟨(b :: r).toArray⟩ : ByteArray).toList.isEmpty = false := by rw [ByteArray.toList_eq]; rfl
    have h0 : (⟨(b :: r).toArray⟩ : ByteArray)[0]? = some b := rfl
    have hsz : (⟨(b :: r).toArray⟩ : ByteArray).size = r.length + 1 := by simp [ByteArray.size]
    go_enter Tryz.func19, Tryz.ntmps19
    go_wp2_with (first | (go_at_call 30; refine ht.mono ?_; clear ht; rintro e w1 ⟨rfl, rfl⟩))
    go_ret
    refine ⟨?_, rfl⟩
    show Ending.returned (.bool ((b.toNat : Int) == 35)) = _
    rw [HP.out]
    refine ret_bool ?_
    show ((b.toNat : Int) == 35) = (b == 35)
    by_cases hb : b = 35
    · subst hb; rfl
    · rw [beq_eq_false_iff_ne.2 hb]
      refine beq_eq_false_iff_ne.2 (fun e => hb ?_)
      have : b.toNat = 35 := by omega
      exact UInt8.toNat_inj.1 (by rw [this]; rfl)
end Go.Proofs.YtngoifbflpeapacGreatDoor

namespace Go.Proofs.YtngoifbflpeapacGreatDoor
open Go.RowKit Go.Maps
set_option maxRecDepth 100000

/-! Steps and errors, line by line. -/
def pcells (l : List (St × Value)) : List Value := l.flatMap fun p => (scell p.1 p.2).toList
theorem pcells_len (l : List (St × Value)) : (pcells l).length = l.length * 7 := by
  induction l with
  | nil => rfl
  | cons a l ih => simp [pcells, scell] at ih ⊢; omega
theorem pcells_app (a b : List (St × Value)) : pcells (a ++ b) = pcells a ++ pcells b := by simp [pcells]
theorem infoStep : (Tryz.prog.info? 25).map (fun i => (i.zero, i.size, i.bytes)) = some (some (.agg szero), 7, 88) := by kernel_rfl
theorem infoErr : (Tryz.prog.info? 31).map (fun i => (i.zero, i.size, i.bytes)) = some (some (.int .i64 0), 1, 8) := by kernel_rfl
/-- A list of steps of one's own, new since w, each with a list of its own. -/
structure PR (w W : World) (v : Value) (l : List (St × Value)) : Prop where
  row : W.ownsRow w.heap.size 25 7 v l.length (pcells l)
  ins : ∀ p ∈ l, W.ownsRow w.heap.size 3 1 p.2 p.1.l.length (ints p.1.l)
  shp : ∀ p ∈ l, ∃ r n c, p.2 = .slice r n c
  apart : l.Pairwise fun p q => ∀ g, p.2.ownBlock = some g → q.2.ownBlock ≠ some g
def ER (w W : World) (v : Value) (l : List Int) : Prop := W.ownsRow w.heap.size 31 1 v l.length (ints l)
theorem PR.nil (w W : World) : PR w W (.slice none 0 0) [] := ⟨World.ownsRow_nil _ _ _ _, (fun _ h => absurd h (by simp)), (fun _ h => absurd h (by simp)), List.Pairwise.nil⟩
theorem PR.keep {w A B : World} {v : Value} {l : List (St × Value)} (h : PR w A v l) (k : Keeps (fun _ => False) A B) : PR w B v l := ⟨own_grow h.row k, fun p hp => own_grow (h.ins p hp) k, h.shp, h.apart⟩
theorem ER.keep {w A B : World} {v : Value} {l : List Int} (h : ER w A v l) (k : Keeps (fun _ => False) A B) : ER w B v l := own_grow h k
/-- A row of another type is no row of steps. -/
theorem own_types {W : World} {base base2 : Nat} {e f : TypeId} {s t : Nat} {v z : Value} {n m : Nat} {xs ys : List Value} (h : W.ownsRow base e s v n xs) (k : W.ownsRow base2 f t z m ys) (hne : e ≠ f) : ∀ g, v.ownBlock = some g → ¬ z.ownBlock = some g := by
  intro g hg hz
  rcases h.2 with ⟨rfl, _⟩ | ⟨a, cap, cur, rfl, _, hb, _⟩
  · cases hg
  · rcases k.2 with ⟨rfl, _⟩ | ⟨b, cap2, cur2, rfl, _, hb2, _⟩
    · cases hz
    · cases hg
      cases hz
      rw [hb] at hb2
      injection hb2 with hb2
      injection hb2 with _ ht _
      exact hne ht
/-- append of a step to steps of one's own. -/
theorem wpList_appS {ops : Array Oper} {rest : List Oper} {o : Oper} {a : Act} {Q : Exit → Act → World → Prop} (hgd : o.guard = none) (s x : Operand)
    (ho : o.op = .call { callee := .builtin .append, args := #[s, x], argTypes := #[22, 22] }) (w W : World) (v : Value) (l : List (St × Value)) (hs : a.eval s = v) (h : PR w W v l) (hk : Keeps (fun _ => False) w W) (t : St) (r : Option Addr) (n c : Nat)
    (ht : W.ownsRow w.heap.size 3 1 (.slice r n c) t.l.length (ints t.l)) (hd : ∀ p ∈ l, ∀ g, p.2.ownBlock = some g → (Value.slice r n c).ownBlock ≠ some g)
    (hx : a.eval x = .slice (some ⟨W.heap.size, 0, none⟩) 1 1) (hl : l.length ≤ 1000000000)
    (K : ∀ v' W', PR w W' v' (l ++ [(t, .slice r n c)]) → (∀ (z : Value) (m : Nat) (ys : List Value), W.ownsRow w.heap.size 31 1 z m ys → W'.ownsRow w.heap.size 31 1 z m ys) → Keeps (fun _ => False) w W' → W.heap.size ≤ W'.heap.size → wpList Tryz.prog ops Q rest (a.put o.dst v') W') : wpList Tryz.prog ops Q (o :: rest) a (W.alloc (.cells (scell t (.slice r n c)) 25)) := by
  obtain ⟨i0, hi, hz0, hz1, hz2⟩ := info_parts infoStep
  refine wpList_append_own_at _ hgd s x 22 ho w.heap.size 25 i0 (.agg szero) 7 88 Tryz.underlying22 hi hz0 hz1 hz2 rfl (by decide) v l.length (pcells l) hs (h.row.alloc _) ⟨W.heap.size, 0, none⟩ 1 1 (scell t (.slice r n c)).toList hx rfl ?_ ?_ (by unfold maxLen; omega) (by omega) (by rw [World.size_alloc]; have := hk.size; omega) ?_
  · intro j u hj
    have h2 := heap_last W (.cells (scell t (.slice r n c)) 25)
    rw [addr_add]
    simp only [World.cell?, h2, Nat.zero_add]
    rw [Array.getElem?_toList] at hj
    exact hj
  · intro u hu
    simp only [scell, List.mem_cons, List.not_mem_nil, or_false] at hu
    rcases hu with rfl | rfl | rfl | rfl | rfl | rfl | rfl <;> rfl
  · intro v' W' hown hgr _ _
    have k1 : Keeps (fun k => v.ownBlock = some k) (W.alloc (.cells (scell t (.slice r n c)) 25)) W' := Keeps.of hgr (fun k hk => Or.inl hk)
    have k0 := (Keeps.refl (fun _ => False) W).alloc (.cells (scell t (.slice r n c)) 25)
    have other : ∀ {e : TypeId} {s : Nat} {z : Value} {m : Nat} {ys : List Value}, 25 ≠ e → W.ownsRow w.heap.size e s z m ys → W'.ownsRow w.heap.size e s z m ys := by
      intro e s z m ys hne ho2
      exact own_keep (own_grow ho2 k0) k1 (fun g hg hv => own_types h.row ho2 hne g hv hg)
    refine K v' W' ⟨?_, ?_, ?_, ?_⟩ (fun z m ys ho2 => other (by decide) ho2) ?_ ?_
    · rw [pcells_app, List.length_append]
      have e : pcells [(t, .slice r n c)] = (scell t (.slice r n c)).toList := by simp [pcells]
      rw [e]; exact hown
    · intro p hp
      rcases List.mem_append.1 hp with hp | hp
      · exact other (by decide) (h.ins p hp)
      · rw [List.mem_singleton.1 hp]; exact other (by decide) ht
    · intro p hp
      rcases List.mem_append.1 hp with hp | hp
      · exact h.shp p hp
      · rw [List.mem_singleton.1 hp]; exact ⟨r, n, c, rfl⟩
    · rw [List.pairwise_append]
      refine ⟨h.apart, List.pairwise_singleton _ _, fun p hp q hq => ?_⟩
      rw [List.mem_singleton.1 hq]
      exact hd p hp
    · refine (hk.alloc _).step hgr (fun k hk => Or.inr ?_)
      exact ((h.row.lt k hk).1)
    · have := k1.size; rw [World.size_alloc] at this; omega
/-- append of an error to errors of one's own. -/
theorem wpList_appE {ops : Array Oper} {rest : List Oper} {o : Oper} {a : Act} {Q : Exit → Act → World → Prop} (hgd : o.guard = none) (s x : Operand)
    (ho : o.op = .call { callee := .builtin .append, args := #[s, x], argTypes := #[28, 28] }) (w W : World) (v : Value) (l : List Int) (hs : a.eval s = v) (h : ER w W v l) (hk : Keeps (fun _ => False) w W) (n : Int)
    (hx : a.eval x = .slice (some ⟨W.heap.size, 0, none⟩) 1 1) (hl : l.length ≤ 1000000000) (z : Value) (ps : List (St × Value)) (hp : PR w W z ps)
    (K : ∀ v' W', ER w W' v' (l ++ [n]) → PR w W' z ps → Keeps (fun _ => False) w W' → wpList Tryz.prog ops Q rest (a.put o.dst v') W') : wpList Tryz.prog ops Q (o :: rest) a (W.alloc (.cells #[.int .i64 n] 31)) := by
  obtain ⟨i0, hi, hz0, hz1, hz2⟩ := info_parts infoErr
  refine wpList_append_own_at _ hgd s x 28 ho w.heap.size 31 i0 (.int .i64 0) 1 8 Tryz.underlying28 hi hz0 hz1 hz2 rfl (by decide) v l.length (ints l) hs (World.ownsRow.alloc h _) ⟨W.heap.size, 0, none⟩ 1 1 [.int .i64 n] hx rfl ?_ ?_ (by unfold maxLen; omega) (by omega) (by rw [World.size_alloc]; have := hk.size; omega) ?_
  · intro j u hj
    have h2 := heap_last W (.cells #[.int .i64 n] 31)
    rw [addr_add]
    simp only [World.cell?, h2, Nat.zero_add, List.getElem?_toArray]
    exact hj
  · intro u hu
    rw [List.mem_singleton.1 hu]; rfl
  · intro v' W' hown hgr _ _
    have k1 : Keeps (fun k => v.ownBlock = some k) (W.alloc (.cells #[.int .i64 n] 31)) W' := Keeps.of hgr (fun k hk => Or.inl hk)
    have k0 := (Keeps.refl (fun _ => False) W).alloc (.cells #[.int .i64 n] 31)
    have other : ∀ {e : TypeId} {s : Nat} {z : Value} {m : Nat} {ys : List Value}, 31 ≠ e → W.ownsRow w.heap.size e s z m ys → W'.ownsRow w.heap.size e s z m ys := by
      intro e s z m ys hne ho2
      exact own_keep (own_grow ho2 k0) k1 (fun g hg hv => own_types h ho2 hne g hv hg)
    refine K v' W' ?_ ⟨other (by decide) hp.row, fun p hp2 => other (by decide) (hp.ins p hp2), hp.shp, hp.apart⟩ ?_
    · show World.ownsRow _ _ _ _ _ _ _
      rw [List.length_append, show ints (l ++ [n]) = ints l ++ [.int .i64 n] by simp [ints]]; exact hown
    · refine (hk.alloc _).step hgr (fun k hk => Or.inr ?_)
      exact ((World.ownsRow.lt h k hk).1)
end Go.Proofs.YtngoifbflpeapacGreatDoor

namespace Go.Proofs.YtngoifbflpeapacGreatDoor
open Go.RowKit Go.Maps
set_option maxRecDepth 100000

/-! script.Parse. -/
theorem fillst (t : St) (v : Value) : Instr.fill (fun i => some (i * 7, 7)) ((Array.range (1 * 7)).map (szero[· % 7]!)) [(0, .agg (scell t v))] = some (scell t v) := by kernel_rfl
theorem wpList_step1 {ops : Array Oper} {rest : List Oper} {o : Oper} {a : Act} {W : World} {Q : Exit → Act → World → Prop} (hgd : o.guard = none) (x : Operand) (ho : o.op = .buildSlice 22 1 #[(0, x)])
    (t : St) (v : Value) (hx : a.eval x = .agg (scell t v)) (h : wpList Tryz.prog ops Q rest (a.put o.dst (.slice (some ⟨W.heap.size, 0, none⟩) 1 1)) (W.alloc (.cells (scell t v) 25))) : wpList Tryz.prog ops Q (o :: rest) a W := by
  obtain ⟨i0, hi, hz0, hz1, hz2⟩ := info_parts infoStep
  refine wpList_buildSlice hgd 22 25 1 _ ho (scell t v) i0 (.agg szero) Tryz.underlying22 hi hz0 (by rw [hz1]; decide) (by rw [hz1]; decide) ?_ h
  rw [hz1, show ((#[(0, x)] : Array (Nat × Operand)).map fun (i, x) => (i, a.eval x)).toList = [(0, a.eval x)] by simp, hx]
  exact fillst t v
theorem filt_yes {ls : List Bs} {k : Nat} {l : Bs} (h : ls[k]? = some l) (hp : psd l = true) : ((ls.take (k + 1)).filter fun l => !psd l) = (ls.take k).filter fun l => !psd l := by
  rw [List.take_add_one, h, Option.toList_some, List.filter_append]
  simp [hp]
theorem filt_no {ls : List Bs} {k : Nat} {l : Bs} (h : ls[k]? = some l) (hp : psd l = false) : ((ls.take (k + 1)).filter fun l => !psd l) = ((ls.take k).filter fun l => !psd l) ++ [l] := by
  rw [List.take_add_one, h, Option.toList_some, List.filter_append]
  simp [hp]
/-- What Parse holds amid its loop. -/
structure PP (w W : World) (vs ve : Value) (ps : List (St × Value)) (ls : List Bs) : Prop where
  s : PR w W vs ps
  e : ER w W ve (ls.map lnE)
  t : ps.map (·.1) = ls.map lnS
  k : Keeps (fun _ => False) w W
theorem PP.len {w W : World} {vs ve : Value} {ps : List (St × Value)} {ls : List Bs} (h : PP w W vs ve ps ls) : ps.length = ls.length := by
  have := congrArg List.length h.t
  simpa using this
theorem PR.base {w w1 W : World} {v : Value} {l : List (St × Value)} (h : PR w1 W v l) (k : Keeps (fun _ => False) w w1) : PR w W v l := ⟨own_base h.row k.size, fun p hp => own_base (h.ins p hp) k.size, h.shp, h.apart⟩
theorem PP.base {w w1 W : World} {vs ve : Value} {ps : List (St × Value)} {ls : List Bs} (h : PP w1 W vs ve ps ls) (k : Keeps (fun _ => False) w w1) : PP w W vs ve ps ls := ⟨h.s.base k, own_base h.e k.size, h.t, k.trans h.k⟩
theorem PP.shape {w W : World} {vs ve : Value} {ps : List (St × Value)} {ls : List Bs} (h : PP w W vs ve ps ls) : (∃ a n c, vs = .slice a n c) ∧ ∃ a n c, ve = .slice a n c := by
  obtain ⟨a, c, e, _⟩ := Row.of_own h.s.row
  obtain ⟨a2, c2, e2, _⟩ := Row.of_own h.e
  exact ⟨⟨a, _, c, e⟩, ⟨a2, _, c2, e2⟩⟩

set_option maxHeartbeats 8000000 in
theorem parse_any (w : World) (hv : Vars w) (m : Int) (hm : w.cell? ⟨1, 0, none⟩ = some (.int .i64 m)) (s : ByteArray) (hs : s.size ≤ 1000000) :
    Calls Tryz.prog 8 #[.string s] w fun e w' => ∃ vs ve ps, e = .returned (.tuple #[vs, ve]) ∧ Hid (PP w w' vs ve ps (prs s.data.toList)) := by
  have hsp := Tryz.strings_Split s ⟨#[10]⟩ m w (by omega) hm (by decide)
  rw [split_spl, split_len] at hsp
  have HP : Hid (prs s.data.toList = (spl s.data.toList).filter fun l => !psd l) := rfl
  have HLE := Hid.mk' (spl_le s.data.toList)
  have HCN := Hid.mk' (spl_count s.data.toList)
  rw [← size_len] at HLE HCN
  generalize prs s.data.toList = PL at *
  generalize spl s.data.toList = LS at *
  have HN : Hid (LS.length ≤ 1000001) := by have h : LS.length ≤ s.size + 1 := HCN.out; show _ ≤ _; omega
  have HV := Hid.mk' hv
  have HCS : Hid (∀ (k : Nat) l, LS[k]? = some l → (((LS.map mkB).map Value.string).toArray)[k]? = some (.string (mkB l))) := by
    intro k l h; simp [h]
  generalize ((LS.map mkB).map Value.string).toArray = CS at *
  have HW0 := Hid.mk' ((Keeps.refl (fun _ => False) w).alloc (.cells CS 9))
  have HB0 := Hid.mk' (heap_last w (.cells CS 9))
  have HPP : Hid (PP (w.alloc (.cells CS 9)) (w.alloc (.cells CS 9)) (.slice none 0 0) (.slice none 0 0) [] ((LS.take 0).filter fun l => !psd l)) := ⟨PR.nil _ _, World.ownsRow_nil _ _ _ _, rfl, Keeps.refl _ _⟩
  clear hv hm
  go_enter Tryz.func8, Tryz.ntmps8
  go_wp2_with (first | (go_at_call 18; refine hsp.mono ?_; clear hsp; rintro e w1 ⟨rfl, rfl⟩))
  go_loopw [4, 5, 13] (fun vs ve i wr => ∃ k : Nat, k ≤ LS.length ∧ i = .int .i64 k ∧ ∃ ps, Hid (PP (w.alloc (.cells CS 9)) wr vs ve ps ((LS.take k).filter fun l => !psd l))) (fun _ _ i _ => LS.length - (intOf i).toNat)
  case atStart => exact ⟨0, Nat.zero_le _, rfl, [], HPP.out⟩
  case round =>
    obtain ⟨k, hk, rfl, ps, HI⟩ := hrel
    have hn1 : LS.length ≤ 1000001 := HN.out
    clear HPP
    by_cases h1 : k < LS.length
    · have h1' : (k : Int) < (LS.length : Int) := by omega
      obtain ⟨l, hl⟩ : ∃ l, LS[k]? = some l := ⟨LS[k], by simp [h1]⟩
      have hblk := HI.out.k.at HB0.out id
      have hld : wr.cell? ⟨w.heap.size, k, none⟩ = some (.string (mkB l)) := by
        simp only [World.cell?, hblk]
        exact HCS.out k l hl
      have HLL : Hid (l.length ≤ s.size) := HLE.out l (List.mem_of_getElem? hl)
      have hpo := passedOver_any wr (mkB l)
      rw [data_mkB] at hpo
      have HNN : Hid (ps.length ≤ 1000001) := by
        have e := HI.out.len
        have h2 : ((LS.take k).filter fun l => !psd l).length ≤ LS.length := Nat.le_trans (List.length_filter_le _ _) (by rw [List.length_take]; omega)
        have h3 : LS.length ≤ 1000001 := HN.out
        show _ ≤ _
        omega
      cases hp : psd l with
      | true =>
        have HF := Hid.mk' (filt_yes hl hp)
        rw [hp] at hpo
        clear hl
        go_wp2_with (first | (go_at_call 19; refine hpo.mono ?_; clear hpo; rintro e w2 ⟨rfl, rfl⟩))
        go_roundw
        case rel => exact ⟨k + 1, by omega, by go_num, ps, by rw [HF.out]; exact HI.out⟩
        case measure => simp [intOf]; omega
      | false =>
        have HF := Hid.mk' (filt_no hl hp)
        rw [hp] at hpo
        have hln := line_any wr (HV.out.keep (HW0.out.trans HI.out.k)) (mkB l)
        rw [data_mkB] at hln
        obtain ⟨⟨sa, sn, sc, hvs⟩, ea, en, ec, hve⟩ := HI.out.shape
        subst hvs
        subst hve
        clear hl
        have HIK := Hid.mk' HI.out.k
        have S0 := Hid.mk' True.intro
        go_wp2_with (first
          | (clear S0; go_at_call 19; refine hpo.mono ?_; clear hpo; rintro e w2 ⟨rfl, rfl⟩; have S1 := Hid.mk' True.intro)
          | (clear S1; go_at_call 12; refine hln.mono ?_; clear hln; rintro e w3 ⟨v3, rfl, h3⟩; obtain ⟨p3, c3, hv3, _, _⟩ := id (Row.of_own h3.out.1); subst hv3; have H3 := Hid.mk' h3.out; clear h3; have HK3 := Hid.mk' (H3.out.2.trans ((Keeps.refl (fun _ => False) w3).alloc (.cells (scell (lnS l) (.slice p3 (lnS l).l.length c3)) 25))); have HB3 := Hid.mk' (heap_last w3 (.cells (scell (lnS l) (.slice p3 (lnS l).l.length c3)) 25)); have S2 := Hid.mk' True.intro)
          | (clear S2; refine wpList_alloc_st rfl rfl ?_; have S3 := Hid.mk' True.intro)
          | (clear S3; refine wpList_store_st rfl _ _ rfl (lnS l) p3 (lnS l).l.length c3 (by rfl) (by rfl) ?_; have S4 := Hid.mk' True.intro)
          | (clear S4; refine wpList_load_row rfl 25 (.tmp 8) rfl w3.heap.size (by rfl) 25 (scell (lnS l) (.slice p3 (lnS l).l.length c3)) (0, 0) _ HB3.out Tryz.underlying25 rfl size25 ?_; have S5 := Hid.mk' True.intro)
          | (clear S5; refine wpList_step1 rfl _ rfl (lnS l) (.slice p3 (lnS l).l.length c3) (by rfl) ?_; have S6 := Hid.mk' True.intro)
          | (clear S6; at_builtin; go_must (refine wpList_appS rfl _ _ rfl (w.alloc (.cells CS 9)) _ _ ps (by rfl) (HI.out.s.keep HK3.out) (HIK.out.trans HK3.out) (lnS l) p3 (lnS l).l.length c3 (own_base (own_grow H3.out.1 ((Keeps.refl _ _).alloc _)) HIK.out.size) (fun p hp g hg hg2 => by have a := ((HI.out.s.ins p hp).lt g hg).2; have b := (H3.out.1.lt g hg2).1; omega) (by rfl) (by have h : ps.length ≤ 1000001 := HNN.out; omega) ?_)
             intro v4 W4 hP hE hK hS
             obtain ⟨ra, rc, hv4, _⟩ := Row.of_own hP.row
             subst hv4
             have HP4 := Hid.mk' hP
             have HE4 := Hid.mk' (hE _ _ _ (own_grow HI.out.e HK3.out))
             have HK4 := Hid.mk' hK
             have HS4 := Hid.mk' hS
             clear hP hE hK hS
             have S7 := Hid.mk' True.intro)
          | (clear S7; at_builtin; go_must (refine wpList_appE rfl _ _ rfl (w.alloc (.cells CS 9)) W4 _ _ (by rfl) HE4.out HK4.out (lnE l) (by rfl) (by have h : ps.length ≤ 1000001 := HNN.out; have e := HI.out.len; rw [List.length_map]; omega) _ _ HP4.out ?_)
             intro v5 W5 hE hP hK
             obtain ⟨rb, rd, hv5, _⟩ := Row.of_own hE
             subst hv5
             have H5 := Hid.mk' (And.intro hE (And.intro hP hK))
             clear hE hP hK
             have S8 := Hid.mk' True.intro))
        go_roundw
        case rel =>
          refine ⟨k + 1, by omega, by go_num, ps ++ [(lnS l, .slice p3 (lnS l).l.length c3)], ?_⟩
          rw [HF.out]
          have h5 := H5.out
          rw [← List.map_singleton (f := lnE), ← List.map_append] at h5
          refine ⟨?_, ?_, ?_, h5.2.2⟩
          · have := h5.2.1; rw [List.length_append, List.length_singleton] at this; exact this
          · have := h5.1; rw [List.length_map, List.length_append, List.length_singleton] at this; exact this
          · rw [List.map_append, List.map_append, HI.out.t]; rfl
        case measure => simp [intOf]; omega
    · have h1' : ¬ (k : Int) < (LS.length : Int) := by omega
      have HE : Hid ((LS.take k).filter (fun l => !psd l) = PL) := by show _ = _; rw [HP.out, List.take_of_length_le (by omega)]
      go_wp2
      try rw [Exit.noGoto_ret]
      refine bodyPost_ret (v := .tuple #[u4, u5]) (by simp [results, Tryz.results8, go_sem]) rfl ?_
      have hfin := HI.out
      rw [HE.out] at hfin
      exact ⟨_, _, rfl, ps, hfin.base HW0.out⟩
end Go.Proofs.YtngoifbflpeapacGreatDoor

namespace Go.Proofs.YtngoifbflpeapacGreatDoor
open Go.RowKit Go.Maps
set_option maxRecDepth 100000

/-! The document's Parse. -/
theorem filt_a1 (ds : List Bs) {l : Bs} (h : psd l = true) : ((ds ++ [l]).filter fun l => !psd l) = ds.filter fun l => !psd l := by
  rw [List.filter_append]
  simp [h]
theorem filt_a2 (ds : List Bs) {l : Bs} (h : psd l = false) : ((ds ++ [l]).filter fun l => !psd l) = (ds.filter fun l => !psd l) ++ [l] := by
  rw [List.filter_append]
  simp [h]
set_option maxHeartbeats 8000000 in
theorem rparse_any (w : World) (hv : KV w) (s : ByteArray) (hs : s.size ≤ 1000000) :
    Calls Tryz.prog 14 #[.string s] w fun e w' => ∃ vs ve ps, e = .returned (.tuple #[vs, ve]) ∧ Hid (PP w w' vs ve ps (prs s.data.toList)) := by
  have HV := Hid.mk' hv
  have HS := Hid.mk' (size_len s)
  have HCN := Hid.mk' (spl_count s.data.toList)
  have HP : Hid (prs s.data.toList = (spl s.data.toList).filter fun l => !psd l) := rfl
  clear hv
  go_enter Tryz.func14, Tryz.ntmps14
  go_wp2
  go_loopw [4, 5, 6, 7] (fun vs ve fv iv wr => ∃ (i f : Nat) (ds : List Bs) (ps : List (St × Value)), i ≤ s.size + 1 ∧ iv = .int .i64 i ∧ fv = .int .i64 f ∧ Hid (PP w wr vs ve ps (ds.filter fun l => !psd l)) ∧ Hid ((i ≤ s.size → Scan s.data.toList i f ds) ∧ (i = s.size + 1 → spl s.data.toList = ds))) (fun _ _ _ iv _ => s.size + 1 - (intOf iv).toNat)
  case atStart => exact ⟨0, 0, [], [], Nat.zero_le _, rfl, rfl, ⟨PR.nil _ _, World.ownsRow_nil _ _ _ _, rfl, Keeps.refl _ _⟩, fun _ => scan0 _, fun h => by omega⟩
  case round =>
    obtain ⟨i, f, ds, ps, hi, rfl, rfl, HI, HSC⟩ := hrel
    by_cases h1 : i ≤ s.size
    · have h1' : (i : Int) ≤ (s.size : Int) := by omega
      have HN := Hid.mk' (HSC.out.1 h1)
      have hfi : (f : Int) ≤ (i : Int) := by have := HN.out.fi; omega
      have hfi2 : f ≤ i := HN.out.fi
      have hsl := mkB_extr s f i
      have HLL : Hid ((((s.data.toList.drop f).take (i - f)).length) ≤ s.size) := by show _ ≤ _; rw [List.length_take, List.length_drop, ← HS.out]; omega
      have HNN : Hid (ps.length ≤ 1000001) := by
        have e := HI.out.len
        have h2 : (ds.filter fun l => !psd l).length ≤ ds.length := List.length_filter_le _ _
        have h3 := congrArg List.length HN.out.eq
        have h4 : (spl s.data.toList).length ≤ s.data.toList.length + 1 := HCN.out
        rw [List.length_append] at h3
        have h5 := HS.out
        show _ ≤ _
        omega
      by_cases h2 : i < s.size
      · have h2' : (i : Int) < (s.size : Int) := by omega
        have hb := byte_at s i h2
        by_cases h10 : (s[i]'h2) = 10
        · rw [h10] at hb
          have HNX : Hid ((i + 1 ≤ s.size → Scan s.data.toList (i + 1) (i + 1) (ds ++ [(s.data.toList.drop f).take (i - f)])) ∧ (i + 1 = s.size + 1 → spl s.data.toList = ds ++ [(s.data.toList.drop f).take (i - f)])) := ⟨fun _ => HN.out.hit hb, fun h => by omega⟩
          have q1 := by_yes (k := 10) 10 rfl h10
          have q2 : (((s[i]'h2).toNat : Int) != 10) = false := by rw [bne, q1]; rfl
          clear hb HSC
          generalize hbb : (s[i]'h2) = bb at *
          generalize (s.data.toList.drop f).take (i - f) = l at *
          have hpo := rpassed_any wr (mkB l) (by rw [mkB_size]; exact Nat.le_trans HLL.out hs)
          rw [data_mkB] at hpo
          cases hp : psd l with
          | true =>
            rw [hp] at hpo
            have HF := Hid.mk' (filt_a1 ds hp)
            go_wp2_with (first | (go_at_call 26; refine hpo.mono ?_; clear hpo; rintro e w2 ⟨rfl, rfl⟩))
            go_roundw
            case rel => exact ⟨i + 1, i + 1, ds ++ [l], ps, by omega, by go_num, by go_num, by rw [HF.out]; exact HI.out, HNX.out⟩
            case measure => simp [intOf]; omega
          | false =>
            rw [hp] at hpo
            have HF := Hid.mk' (filt_a2 ds hp)
            have hln := rline_any wr (HV.out.keep HI.out.k) (mkB l)
            rw [data_mkB] at hln
            obtain ⟨⟨sa, sn, sc, hvs⟩, ea, en, ec, hve⟩ := HI.out.shape
            subst hvs
            subst hve
            have HIK := Hid.mk' HI.out.k
            have S0 := Hid.mk' True.intro
            go_wp2_with (first
              | (clear S0; go_at_call 26; refine hpo.mono ?_; clear hpo; rintro e w2 ⟨rfl, rfl⟩; have S1 := Hid.mk' True.intro)
              | (clear S1; go_at_call 27; refine hln.mono ?_; clear hln; rintro e w3 ⟨v3, rfl, h3⟩; obtain ⟨p3, c3, hv3, _, _⟩ := id (Row.of_own h3.out.1); subst hv3; have H3 := Hid.mk' h3.out; clear h3; have HK3 := Hid.mk' (H3.out.2.trans ((Keeps.refl (fun _ => False) w3).alloc (.cells (scell (lnS l) (.slice p3 (lnS l).l.length c3)) 25))); have HB3 := Hid.mk' (heap_last w3 (.cells (scell (lnS l) (.slice p3 (lnS l).l.length c3)) 25)); have S2 := Hid.mk' True.intro)
              | (clear S2; refine wpList_alloc_st rfl rfl ?_; have S3 := Hid.mk' True.intro)
              | (clear S3; refine wpList_store_st rfl _ _ rfl (lnS l) p3 (lnS l).l.length c3 (by rfl) (by rfl) ?_; have S4 := Hid.mk' True.intro)
              | (clear S4; refine wpList_load_row rfl 25 (.tmp 9) rfl w3.heap.size (by rfl) 25 (scell (lnS l) (.slice p3 (lnS l).l.length c3)) (0, 0) _ HB3.out Tryz.underlying25 rfl size25 ?_; have S5 := Hid.mk' True.intro)
              | (clear S5; refine wpList_step1 rfl _ rfl (lnS l) (.slice p3 (lnS l).l.length c3) (by rfl) ?_; have S6 := Hid.mk' True.intro)
              | (clear S6; at_builtin; go_must (refine wpList_appS rfl _ _ rfl w _ _ ps (by rfl) (HI.out.s.keep HK3.out) (HIK.out.trans HK3.out) (lnS l) p3 (lnS l).l.length c3 (own_base (own_grow H3.out.1 ((Keeps.refl _ _).alloc _)) HIK.out.size) (fun p hp g hg hg2 => by have a := ((HI.out.s.ins p hp).lt g hg).2; have b := (H3.out.1.lt g hg2).1; omega) (by rfl) (by have h : ps.length ≤ 1000001 := HNN.out; omega) ?_)
                 intro v4 W4 hP hE hK hS
                 obtain ⟨ra, rc, hv4, _⟩ := Row.of_own hP.row
                 subst hv4
                 have HP4 := Hid.mk' hP
                 have HE4 := Hid.mk' (hE _ _ _ (own_grow HI.out.e HK3.out))
                 have HK4 := Hid.mk' hK
                 have HS4 := Hid.mk' hS
                 clear hP hE hK hS
                 have S7 := Hid.mk' True.intro)
              | (clear S7; at_builtin; go_must (refine wpList_appE rfl _ _ rfl w W4 _ _ (by rfl) HE4.out HK4.out (lnE l) (by rfl) (by have h : ps.length ≤ 1000001 := HNN.out; have e := HI.out.len; rw [List.length_map]; omega) _ _ HP4.out ?_)
                 intro v5 W5 hE hP hK
                 obtain ⟨rb, rd, hv5, _⟩ := Row.of_own hE
                 subst hv5
                 have H5 := Hid.mk' (And.intro hE (And.intro hP hK))
                 clear hE hP hK
                 have S8 := Hid.mk' True.intro))
            go_roundw
            case rel =>
              refine ⟨i + 1, i + 1, ds ++ [l], ps ++ [(lnS l, .slice p3 (lnS l).l.length c3)], by omega, by go_num, by go_num, ?_, HNX.out⟩
              rw [HF.out]
              have h5 := H5.out
              rw [← List.map_singleton (f := lnE), ← List.map_append] at h5
              refine ⟨?_, ?_, ?_, h5.2.2⟩
              · have := h5.2.1; rw [List.length_append, List.length_singleton] at this; exact this
              · have := h5.1; rw [List.length_map, List.length_append, List.length_singleton] at this; exact this
              · rw [List.map_append, List.map_append, HI.out.t]; rfl
            case measure => simp [intOf]; omega
        · have HNX : Hid ((i + 1 ≤ s.size → Scan s.data.toList (i + 1) f ds) ∧ (i + 1 = s.size + 1 → spl s.data.toList = ds)) := ⟨fun _ => HN.out.go hb h10, fun h => by omega⟩
          have q1 := by_no (k := 10) 10 rfl h10
          have q2 : (((s[i]'h2).toNat : Int) != 10) = true := by rw [bne, q1]; rfl
          clear hb HSC
          generalize hbb : (s[i]'h2) = bb at *
          go_wp2
          go_roundw
          case rel => exact ⟨i + 1, f, ds, ps, by omega, by go_num, rfl, HI.out, HNX.out⟩
          case measure => simp [intOf]; omega
      · have h2' : ¬ (i : Int) < (s.size : Int) := by omega
        obtain rfl : i = s.size := by omega
        have HNX : Hid ((s.size + 1 ≤ s.size → Scan s.data.toList (s.size + 1) (s.size + 1) (ds ++ [(s.data.toList.drop f).take (s.size - f)])) ∧ (s.size + 1 = s.size + 1 → spl s.data.toList = ds ++ [(s.data.toList.drop f).take (s.size - f)])) := ⟨fun h => by omega, fun _ => by have h := HN.out; rw [HS.out] at h ⊢; exact h.last⟩
        clear HSC
        generalize (s.data.toList.drop f).take (s.size - f) = l at *
        have hpo := rpassed_any wr (mkB l) (by rw [mkB_size]; exact Nat.le_trans HLL.out hs)
        rw [data_mkB] at hpo
        cases hp : psd l with
        | true =>
          rw [hp] at hpo
          have HF := Hid.mk' (filt_a1 ds hp)
          go_wp2_with (first | (go_at_call 26; refine hpo.mono ?_; clear hpo; rintro e w2 ⟨rfl, rfl⟩))
          go_roundw
          case rel => exact ⟨s.size + 1, s.size + 1, ds ++ [l], ps, by omega, by go_num, by go_num, by rw [HF.out]; exact HI.out, by first | exact HNX.out | exact ⟨HNX.out.1, fun _ => HNX.out.2 True.intro⟩⟩
          case measure => simp [intOf]
        | false =>
          rw [hp] at hpo
          have HF := Hid.mk' (filt_a2 ds hp)
          have hln := rline_any wr (HV.out.keep HI.out.k) (mkB l)
          rw [data_mkB] at hln
          obtain ⟨⟨sa, sn, sc, hvs⟩, ea, en, ec, hve⟩ := HI.out.shape
          subst hvs
          subst hve
          have HIK := Hid.mk' HI.out.k
          have S0 := Hid.mk' True.intro
          go_wp2_with (first
            | (clear S0; go_at_call 26; refine hpo.mono ?_; clear hpo; rintro e w2 ⟨rfl, rfl⟩; have S1 := Hid.mk' True.intro)
            | (clear S1; go_at_call 27; refine hln.mono ?_; clear hln; rintro e w3 ⟨v3, rfl, h3⟩; obtain ⟨p3, c3, hv3, _, _⟩ := id (Row.of_own h3.out.1); subst hv3; have H3 := Hid.mk' h3.out; clear h3; have HK3 := Hid.mk' (H3.out.2.trans ((Keeps.refl (fun _ => False) w3).alloc (.cells (scell (lnS l) (.slice p3 (lnS l).l.length c3)) 25))); have HB3 := Hid.mk' (heap_last w3 (.cells (scell (lnS l) (.slice p3 (lnS l).l.length c3)) 25)); have S2 := Hid.mk' True.intro)
            | (clear S2; refine wpList_alloc_st rfl rfl ?_; have S3 := Hid.mk' True.intro)
            | (clear S3; refine wpList_store_st rfl _ _ rfl (lnS l) p3 (lnS l).l.length c3 (by rfl) (by rfl) ?_; have S4 := Hid.mk' True.intro)
            | (clear S4; refine wpList_load_row rfl 25 (.tmp 9) rfl w3.heap.size (by rfl) 25 (scell (lnS l) (.slice p3 (lnS l).l.length c3)) (0, 0) _ HB3.out Tryz.underlying25 rfl size25 ?_; have S5 := Hid.mk' True.intro)
            | (clear S5; refine wpList_step1 rfl _ rfl (lnS l) (.slice p3 (lnS l).l.length c3) (by rfl) ?_; have S6 := Hid.mk' True.intro)
            | (clear S6; at_builtin; go_must (refine wpList_appS rfl _ _ rfl w _ _ ps (by rfl) (HI.out.s.keep HK3.out) (HIK.out.trans HK3.out) (lnS l) p3 (lnS l).l.length c3 (own_base (own_grow H3.out.1 ((Keeps.refl _ _).alloc _)) HIK.out.size) (fun p hp g hg hg2 => by have a := ((HI.out.s.ins p hp).lt g hg).2; have b := (H3.out.1.lt g hg2).1; omega) (by rfl) (by have h : ps.length ≤ 1000001 := HNN.out; omega) ?_)
               intro v4 W4 hP hE hK hS
               obtain ⟨ra, rc, hv4, _⟩ := Row.of_own hP.row
               subst hv4
               have HP4 := Hid.mk' hP
               have HE4 := Hid.mk' (hE _ _ _ (own_grow HI.out.e HK3.out))
               have HK4 := Hid.mk' hK
               have HS4 := Hid.mk' hS
               clear hP hE hK hS
               have S7 := Hid.mk' True.intro)
            | (clear S7; at_builtin; go_must (refine wpList_appE rfl _ _ rfl w W4 _ _ (by rfl) HE4.out HK4.out (lnE l) (by rfl) (by have h : ps.length ≤ 1000001 := HNN.out; have e := HI.out.len; rw [List.length_map]; omega) _ _ HP4.out ?_)
               intro v5 W5 hE hP hK
               obtain ⟨rb, rd, hv5, _⟩ := Row.of_own hE
               subst hv5
               have H5 := Hid.mk' (And.intro hE (And.intro hP hK))
               clear hE hP hK
               have S8 := Hid.mk' True.intro))
          go_roundw
          case rel =>
            refine ⟨s.size + 1, s.size + 1, ds ++ [l], ps ++ [(lnS l, .slice p3 (lnS l).l.length c3)], by omega, by go_num, by go_num, ?_, by first | exact HNX.out | exact ⟨HNX.out.1, fun _ => HNX.out.2 True.intro⟩⟩
            rw [HF.out]
            have h5 := H5.out
            rw [← List.map_singleton (f := lnE), ← List.map_append] at h5
            refine ⟨?_, ?_, ?_, h5.2.2⟩
            · have := h5.2.1; rw [List.length_append, List.length_singleton] at this; exact this
            · have := h5.1; rw [List.length_map, List.length_append, List.length_singleton] at this; exact this
            · rw [List.map_append, List.map_append, HI.out.t]; rfl
          case measure => simp [intOf]
    · have h1' : ¬ (i : Int) ≤ (s.size : Int) := by omega
      have HE : Hid (prs s.data.toList = ds.filter fun l => !psd l) := by show _ = _; rw [HP.out, HSC.out.2 (by omega)]
      go_wp2
      try rw [Exit.noGoto_ret]
      refine bodyPost_ret (v := .tuple #[u4, u5]) (by simp [results, Tryz.results14, go_sem]) rfl ?_
      have hfin := HI.out
      rw [← HE.out] at hfin
      exact ⟨_, _, rfl, ps, hfin⟩
end Go.Proofs.YtngoifbflpeapacGreatDoor
