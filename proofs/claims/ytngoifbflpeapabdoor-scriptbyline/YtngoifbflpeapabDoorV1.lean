import Derived.Test.YtngoifbflpeapabDoorQ1
import Derived.Lib.SplitLaws
import Derived.Test.YtngoifbflpeapabDoorB9
import Derived.Test.YtngoifbflpeapabDoorH4
import Derived.Deep.QuietTactic
import Derived.Test.YtngoifbflpeapabDoorQ3
namespace Go.Proofs.YtngoifbflpeapabDoor
open Go.RowKit Go.Maps
set_option maxRecDepth 100000

/-! A text's lines, by themselves. -/
def spl : Bs → List Bs
  | [] => [[]]
  | b :: r => if b = 10 then [] :: spl r else match spl r with
    | [] => [[b]]
    | l :: ls => (b :: l) :: ls
theorem spl_ne (s : Bs) : spl s ≠ [] := by
  cases s with
  | nil => simp [spl]
  | cons b r =>
    unfold spl
    split
    · simp
    · split <;> simp
theorem spl_none : ∀ s : Bs, (10 : UInt8) ∉ s → spl s = [s]
  | [], _ => rfl
  | b :: r, h => by
    have hb : ¬ b = 10 := fun e => h (by simp [e])
    rw [spl, if_neg hb, spl_none r (fun e => h (List.mem_cons_of_mem _ e))]
theorem spl_hit (r : Bs) : ∀ p : Bs, (10 : UInt8) ∉ p → spl (p ++ 10 :: r) = p :: spl r
  | [], _ => by show spl (10 :: r) = _; rw [spl, if_pos rfl]
  | b :: p, h => by
    have hb : ¬ b = 10 := fun e => h (by simp [e])
    show spl (b :: (p ++ 10 :: r)) = _
    rw [spl, if_neg hb, spl_hit r p (fun e => h (List.mem_cons_of_mem _ e))]
theorem ix_none : ∀ s : Bs, (10 : UInt8) ∉ s → Lib.index s [10] = -1
  | [], _ => rfl
  | b :: r, h => by
    have hb : ¬ b = 10 := fun e => h (by simp [e])
    have ih := ix_none r (fun e => h (List.mem_cons_of_mem _ e))
    have hp : ([10] : Bs).isPrefixOf (b :: r) = false := by
      have : ((10 : UInt8) == b) = false := beq_eq_false_iff_ne.2 (fun e => hb e.symm)
      show ((10 : UInt8) == b && _) = false
      rw [this]; rfl
    rw [Lib.index, hp, ih]
    rfl
theorem ix_hit (r : Bs) : ∀ p : Bs, (10 : UInt8) ∉ p → Lib.index (p ++ 10 :: r) [10] = (p.length : Int)
  | [], _ => by
    show Lib.index (10 :: r) [10] = 0
    rw [Lib.index, if_pos (by simp)]
  | b :: p, h => by
    have hb : ¬ b = 10 := fun e => h (by simp [e])
    have ih := ix_hit r p (fun e => h (List.mem_cons_of_mem _ e))
    have hp : ([10] : Bs).isPrefixOf (b :: (p ++ 10 :: r)) = false := by
      have : ((10 : UInt8) == b) = false := beq_eq_false_iff_ne.2 (fun e => hb e.symm)
      show ((10 : UInt8) == b && _) = false
      rw [this]; rfl
    show Lib.index (b :: (p ++ 10 :: r)) [10] = _
    rw [Lib.index, hp, ih, if_neg (by decide), if_neg (by simp)]
    simp
theorem splitK_spl : ∀ (k : Nat) (s : Bs), s.count 10 ≤ k → Lib.splitK [10] 0 k s = spl s
  | 0, s, h => by
    rw [spl_none s (fun hm => by have := List.count_pos_iff.2 hm; omega)]
    rfl
  | k + 1, s, h => by
    by_cases hm : (10 : UInt8) ∈ s
    · obtain ⟨p, r, rfl, hp⟩ := List.eq_append_cons_of_mem hm
      have hc : r.count 10 ≤ k := by
        rw [List.count_append, List.count_cons_self] at h
        omega
      rw [spl_hit r p hp, Lib.splitK, ix_hit r p hp, if_neg (by simp)]
      have e1 : ((p.length : Int)).toNat = p.length := by omega
      rw [e1, Nat.add_zero, List.take_left, show p.length + ([10] : Bs).length = p.length + 1 from rfl, ← List.drop_drop, List.drop_left]
      show p :: Lib.splitK [10] 0 k r = _
      rw [splitK_spl k r hc]
    · rw [spl_none s hm, Lib.splitK, ix_none s hm]
      rfl
/-- strings.Split at line feeds. -/
theorem split_spl (s : ByteArray) : Lib.splitB ⟨#[10]⟩ 0 (Lib.countB s ⟨#[10]⟩) s = (spl s.data.toList).map mkB := by
  have h := Lib.splitB_data ⟨#[10]⟩ 0 (Lib.countB s ⟨#[10]⟩) s
  have hc : s.data.toList.count 10 ≤ Lib.countB s ⟨#[10]⟩ := by
    have : Lib.countB s ⟨#[10]⟩ = s.data.toList.count 10 := Lib.count_one 10 s.data.toList
    omega
  rw [show (⟨#[10]⟩ : ByteArray).data.toList = [10] from rfl, splitK_spl _ _ hc] at h
  rw [← h, List.map_map]
  have : (mkB ∘ fun x : ByteArray => x.data.toList) = id := by funext x; exact mkB_data x
  rw [this, List.map_id]
theorem split_len (s : ByteArray) : Lib.countB s ⟨#[10]⟩ + 1 = (spl s.data.toList).length := by
  have hc : Lib.countB s ⟨#[10]⟩ = s.data.toList.count 10 := Lib.count_one 10 s.data.toList
  rw [hc]
  generalize s.data.toList = x
  induction x with
  | nil => rfl
  | cons b r ih =>
    rw [spl]
    by_cases hb : b = 10
    · subst hb
      rw [if_pos rfl, List.count_cons_self, List.length_cons, ← ih]
    · rw [if_neg hb, List.count_cons_of_ne (fun e => hb e), ih]
      cases hs : spl r with
      | nil => exact absurd hs (spl_ne r)
      | cons l ls => rfl
/-- Whether a line is passed over. -/
def psd (l : Bs) : Bool := match l.dropWhile (· == 32) with
  | [] => true
  | b :: _ => b == 35
/-- The lines that are steps. -/
def prs (x : Bs) : List Bs := (spl x).filter fun l => !psd l
theorem spl_le : ∀ x : Bs, ∀ l ∈ spl x, l.length ≤ x.length
  | [], l, h => by
    rw [show l = [] by simpa [spl] using h]
    exact Nat.le_refl _
  | b :: r, l, h => by
    rw [spl] at h
    by_cases hb : b = 10
    · rw [if_pos hb] at h
      rcases List.mem_cons.1 h with rfl | h
      · exact Nat.zero_le _
      · have := spl_le r l h; rw [List.length_cons]; omega
    · rw [if_neg hb] at h
      cases hs : spl r with
      | nil => exact absurd hs (spl_ne r)
      | cons a ls =>
        rw [hs] at h
        simp only at h
        rcases List.mem_cons.1 h with rfl | h
        · have := spl_le r a (by rw [hs]; simp)
          rw [List.length_cons, List.length_cons]; omega
        · have := spl_le r l (by rw [hs]; exact List.mem_cons_of_mem _ h)
          rw [List.length_cons]; omega
theorem spl_count (x : Bs) : (spl x).length ≤ x.length + 1 := by
  induction x with
  | nil => exact Nat.le_refl _
  | cons b r ih =>
    rw [spl]
    by_cases hb : b = 10
    · rw [if_pos hb, List.length_cons, List.length_cons]; omega
    · rw [if_neg hb]
      cases hs : spl r with
      | nil => exact absurd hs (spl_ne r)
      | cons a ls =>
        rw [hs] at ih
        simp only [List.length_cons] at ih ⊢
        omega
end Go.Proofs.YtngoifbflpeapabDoor

namespace Go.Proofs.YtngoifbflpeapabDoor
open Go.RowKit Go.Maps
set_option maxRecDepth 100000

set_option maxHeartbeats 2000000 in
theorem passedOver_any (w : World) (s : ByteArray) : Calls Tryd.prog 30 #[.string s] w fun e w' => e = .returned (.bool (psd s.data.toList)) ∧ w' = w := by
  have ht := Tryd.strings_TrimLeft_one s 32 (by decide) w
  unfold Lib.trimLeftB at ht
  have HP : Hid (psd s.data.toList = match s.data.toList.dropWhile (· == 32) with | [] => true | b :: _ => b == 35) := rfl
  generalize s.data.toList.dropWhile (· == 32) = d at *
  cases d with
  | nil =>
    go_enter Tryd.func30, Tryd.ntmps30
    go_wp2_with (first | (go_at_call 40; refine ht.mono ?_; clear ht; rintro e w1 ⟨rfl, rfl⟩))
    go_ret
    exact ⟨by rw [HP.out]; rfl, rfl⟩
  | cons b r =>
    have hz : (⟨(b :: r).toArray⟩ : ByteArray).toList.isEmpty = false := by rw [ByteArray.toList_eq]; rfl
    have h0 : (⟨(b :: r).toArray⟩ : ByteArray)[0]? = some b := rfl
    have hsz : (⟨(b :: r).toArray⟩ : ByteArray).size = r.length + 1 := by simp [ByteArray.size]
    go_enter Tryd.func30, Tryd.ntmps30
    go_wp2_with (first | (go_at_call 40; refine ht.mono ?_; clear ht; rintro e w1 ⟨rfl, rfl⟩))
    go_ret
    refine ⟨?_, rfl⟩
    show Ending.returned (.bool ((b.toNat : Int) == 35)) = _
    rw [HP.out]
    refine ret_bool ?_
    show ((b.toNat : Int) == 35) = (b == 35)
    by_cases hb : b = 35
    · subst hb; rfl
    · rw [beq_eq_false_iff_ne.2 hb]
      refine beq_eq_false_iff_ne.2 (fun e => hb ?_)
      have : b.toNat = 35 := by omega
      exact UInt8.toNat_inj.1 (by rw [this]; rfl)
end Go.Proofs.YtngoifbflpeapabDoor

namespace Go.Proofs.YtngoifbflpeapabDoor
open Go.RowKit Go.Maps
set_option maxRecDepth 100000

/-! Steps and errors, line by line. -/
def pcells (l : List (St × Value)) : List Value := l.flatMap fun p => (scell p.1 p.2).toList
theorem pcells_len (l : List (St × Value)) : (pcells l).length = l.length * 7 := by
  induction l with
  | nil => rfl
  | cons a l ih => simp [pcells, scell] at ih ⊢; omega
theorem pcells_app (a b : List (St × Value)) : pcells (a ++ b) = pcells a ++ pcells b := by simp [pcells]
theorem infoStep : (Tryd.prog.info? 24).map (fun i => (i.zero, i.size, i.bytes)) = some (some (.agg szero), 7, 88) := by kernel_rfl
theorem infoErr : (Tryd.prog.info? 25).map (fun i => (i.zero, i.size, i.bytes)) = some (some (.int .i64 0), 1, 8) := by kernel_rfl
/-- A list of steps of one's own, new since w, each with a list of its own. -/
structure PR (w W : World) (v : Value) (l : List (St × Value)) : Prop where
  row : W.ownsRow w.heap.size 24 7 v l.length (pcells l)
  ins : ∀ p ∈ l, W.ownsRow w.heap.size 3 1 p.2 p.1.l.length (ints p.1.l)
  shp : ∀ p ∈ l, ∃ r n c, p.2 = .slice r n c
  apart : l.Pairwise fun p q => ∀ g, p.2.ownBlock = some g → q.2.ownBlock ≠ some g
def ER (w W : World) (v : Value) (l : List Int) : Prop := W.ownsRow w.heap.size 25 1 v l.length (ints l)
theorem PR.nil (w W : World) : PR w W (.slice none 0 0) [] := ⟨World.ownsRow_nil _ _ _ _, (fun _ h => absurd h (by simp)), (fun _ h => absurd h (by simp)), List.Pairwise.nil⟩
theorem PR.keep {w A B : World} {v : Value} {l : List (St × Value)} (h : PR w A v l) (k : Keeps (fun _ => False) A B) : PR w B v l := ⟨own_grow h.row k, fun p hp => own_grow (h.ins p hp) k, h.shp, h.apart⟩
theorem ER.keep {w A B : World} {v : Value} {l : List Int} (h : ER w A v l) (k : Keeps (fun _ => False) A B) : ER w B v l := own_grow h k
/-- A row of another type is no row of steps. -/
theorem own_types {W : World} {base base2 : Nat} {e f : TypeId} {s t : Nat} {v z : Value} {n m : Nat} {xs ys : List Value} (h : W.ownsRow base e s v n xs) (k : W.ownsRow base2 f t z m ys) (hne : e ≠ f) : ∀ g, v.ownBlock = some g → ¬ z.ownBlock = some g := by
  intro g hg hz
  rcases h.2 with ⟨rfl, _⟩ | ⟨a, cap, cur, rfl, _, hb, _⟩
  · cases hg
  · rcases k.2 with ⟨rfl, _⟩ | ⟨b, cap2, cur2, rfl, _, hb2, _⟩
    · cases hz
    · cases hg
      cases hz
      rw [hb] at hb2
      injection hb2 with hb2
      injection hb2 with _ ht _
      exact hne ht
/-- append of a step to steps of one's own. -/
theorem wpList_appS {ops : Array Oper} {rest : List Oper} {o : Oper} {a : Act} {Q : Exit → Act → World → Prop} (hgd : o.guard = none) (s x : Operand)
    (ho : o.op = .call { callee := .builtin .append, args := #[s, x], argTypes := #[35, 35] }) (w W : World) (v : Value) (l : List (St × Value)) (hs : a.eval s = v) (h : PR w W v l) (hk : Keeps (fun _ => False) w W) (t : St) (r : Option Addr) (n c : Nat)
    (ht : W.ownsRow w.heap.size 3 1 (.slice r n c) t.l.length (ints t.l)) (hd : ∀ p ∈ l, ∀ g, p.2.ownBlock = some g → (Value.slice r n c).ownBlock ≠ some g)
    (hx : a.eval x = .slice (some ⟨W.heap.size, 0, none⟩) 1 1) (hl : l.length ≤ 1000000000)
    (K : ∀ v' W', PR w W' v' (l ++ [(t, .slice r n c)]) → (∀ (z : Value) (m : Nat) (ys : List Value), W.ownsRow w.heap.size 25 1 z m ys → W'.ownsRow w.heap.size 25 1 z m ys) → Keeps (fun _ => False) w W' → W.heap.size ≤ W'.heap.size → wpList Tryd.prog ops Q rest (a.put o.dst v') W') : wpList Tryd.prog ops Q (o :: rest) a (W.alloc (.cells (scell t (.slice r n c)) 24)) := by
  obtain ⟨i0, hi, hz0, hz1, hz2⟩ := info_parts infoStep
  refine wpList_append_own_at _ hgd s x 35 ho w.heap.size 24 i0 (.agg szero) 7 88 Tryd.underlying35 hi hz0 hz1 hz2 rfl (by decide) v l.length (pcells l) hs (h.row.alloc _) ⟨W.heap.size, 0, none⟩ 1 1 (scell t (.slice r n c)).toList hx rfl ?_ ?_ (by unfold maxLen; omega) (by omega) (by rw [World.size_alloc]; have := hk.size; omega) ?_
  · intro j u hj
    have h2 := heap_last W (.cells (scell t (.slice r n c)) 24)
    rw [addr_add]
    simp only [World.cell?, h2, Nat.zero_add]
    rw [Array.getElem?_toList] at hj
    exact hj
  · intro u hu
    simp only [scell, List.mem_cons, List.not_mem_nil, or_false] at hu
    rcases hu with rfl | rfl | rfl | rfl | rfl | rfl | rfl <;> rfl
  · intro v' W' hown hgr _ _
    have k1 : Keeps (fun k => v.ownBlock = some k) (W.alloc (.cells (scell t (.slice r n c)) 24)) W' := Keeps.of hgr (fun k hk => Or.inl hk)
    have k0 := (Keeps.refl (fun _ => False) W).alloc (.cells (scell t (.slice r n c)) 24)
    have other : ∀ {e : TypeId} {s : Nat} {z : Value} {m : Nat} {ys : List Value}, 24 ≠ e → W.ownsRow w.heap.size e s z m ys → W'.ownsRow w.heap.size e s z m ys := by
      intro e s z m ys hne ho2
      exact own_keep (own_grow ho2 k0) k1 (fun g hg hv => own_types h.row ho2 hne g hv hg)
    refine K v' W' ⟨?_, ?_, ?_, ?_⟩ (fun z m ys ho2 => other (by decide) ho2) ?_ ?_
    · rw [pcells_app, List.length_append]
      have e : pcells [(t, .slice r n c)] = (scell t (.slice r n c)).toList := by simp [pcells]
      rw [e]; exact hown
    · intro p hp
      rcases List.mem_append.1 hp with hp | hp
      · exact other (by decide) (h.ins p hp)
      · rw [List.mem_singleton.1 hp]; exact other (by decide) ht
    · intro p hp
      rcases List.mem_append.1 hp with hp | hp
      · exact h.shp p hp
      · rw [List.mem_singleton.1 hp]; exact ⟨r, n, c, rfl⟩
    · rw [List.pairwise_append]
      refine ⟨h.apart, List.pairwise_singleton _ _, fun p hp q hq => ?_⟩
      rw [List.mem_singleton.1 hq]
      exact hd p hp
    · refine (hk.alloc _).step hgr (fun k hk => Or.inr ?_)
      exact ((h.row.lt k hk).1)
    · have := k1.size; rw [World.size_alloc] at this; omega
/-- append of an error to errors of one's own. -/
theorem wpList_appE {ops : Array Oper} {rest : List Oper} {o : Oper} {a : Act} {Q : Exit → Act → World → Prop} (hgd : o.guard = none) (s x : Operand)
    (ho : o.op = .call { callee := .builtin .append, args := #[s, x], argTypes := #[36, 36] }) (w W : World) (v : Value) (l : List Int) (hs : a.eval s = v) (h : ER w W v l) (hk : Keeps (fun _ => False) w W) (n : Int)
    (hx : a.eval x = .slice (some ⟨W.heap.size, 0, none⟩) 1 1) (hl : l.length ≤ 1000000000) (z : Value) (ps : List (St × Value)) (hp : PR w W z ps)
    (K : ∀ v' W', ER w W' v' (l ++ [n]) → PR w W' z ps → Keeps (fun _ => False) w W' → wpList Tryd.prog ops Q rest (a.put o.dst v') W') : wpList Tryd.prog ops Q (o :: rest) a (W.alloc (.cells #[.int .i64 n] 25)) := by
  obtain ⟨i0, hi, hz0, hz1, hz2⟩ := info_parts infoErr
  refine wpList_append_own_at _ hgd s x 36 ho w.heap.size 25 i0 (.int .i64 0) 1 8 Tryd.underlying36 hi hz0 hz1 hz2 rfl (by decide) v l.length (ints l) hs (World.ownsRow.alloc h _) ⟨W.heap.size, 0, none⟩ 1 1 [.int .i64 n] hx rfl ?_ ?_ (by unfold maxLen; omega) (by omega) (by rw [World.size_alloc]; have := hk.size; omega) ?_
  · intro j u hj
    have h2 := heap_last W (.cells #[.int .i64 n] 25)
    rw [addr_add]
    simp only [World.cell?, h2, Nat.zero_add, List.getElem?_toArray]
    exact hj
  · intro u hu
    rw [List.mem_singleton.1 hu]; rfl
  · intro v' W' hown hgr _ _
    have k1 : Keeps (fun k => v.ownBlock = some k) (W.alloc (.cells #[.int .i64 n] 25)) W' := Keeps.of hgr (fun k hk => Or.inl hk)
    have k0 := (Keeps.refl (fun _ => False) W).alloc (.cells #[.int .i64 n] 25)
    have other : ∀ {e : TypeId} {s : Nat} {z : Value} {m : Nat} {ys : List Value}, 25 ≠ e → W.ownsRow w.heap.size e s z m ys → W'.ownsRow w.heap.size e s z m ys := by
      intro e s z m ys hne ho2
      exact own_keep (own_grow ho2 k0) k1 (fun g hg hv => own_types h ho2 hne g hv hg)
    refine K v' W' ?_ ⟨other (by decide) hp.row, fun p hp2 => other (by decide) (hp.ins p hp2), hp.shp, hp.apart⟩ ?_
    · show World.ownsRow _ _ _ _ _ _ _
      rw [List.length_append, show ints (l ++ [n]) = ints l ++ [.int .i64 n] by simp [ints]]; exact hown
    · refine (hk.alloc _).step hgr (fun k hk => Or.inr ?_)
      exact ((World.ownsRow.lt h k hk).1)
end Go.Proofs.YtngoifbflpeapabDoor
