import Derived.Shelf.Strings.OnBuilder
import Derived.Shelf.Strings.Trim
import Derived.Shelf.Strconv.Itoa3
import Derived.Shelf.Strconv.Itoa4
import Derived.Shelf.Strconv.ParseIntPublic10
import Derived.Shelf.Strings.SplitShaped
import Derived.Shelf.Slices.Equal
import Derived.Shelf.Slices.Empties2
import Derived.Test.YtdlhdompemkjfaaGreatDoorProg
import Derived.Test.YtdlhdompemkjfaaGreatDoorK34
import Derived.Test.YtdlhdompemkjfaaGreatDoorK14
import Derived.Deep.QuietTactic
import Derived.Test.YtdlhdompemkjfaaGreatDoorK26
namespace Go.Proofs
open Go.Shelf
def Tryz.lays146_ren : Go.Shelf.Ren := ⟨fun | 146 => 28 | 221 => 44 | 268 => 59 | 138 => 60 | 143 => 61 | 195 => 87 | 197 => 88 | 218 => 89 | 219 => 90 | 260 => 101 | 217 => 102 | 225 => 103 | 224 => 104 | 267 => 105 | 266 => 112 | 314 => 113 | n => n, fun | 9 => 9 | 31 => 55 | 3 => 3 | 4 => 4 | 0 => 0 | 105 => 120 | 21 => 21 | 5 => 5 | 46 => 125 | 119 => 134 | 139 => 137 | 138 => 136 | 146 => 139 | 51 => 138 | n => n, fun | 1 => 1 | 3 => 2 | 4 => 3 | n => n⟩
theorem Tryz.lays146 : Go.Proofs.Lays.n146 Tryz.prog Tryz.lays146_ren := {
  mixed := by kernel_rfl
  f138 := Tryz.func60.trans (congrArg some (by kernel_rfl))
  f143 := Tryz.func61.trans (congrArg some (by kernel_rfl))
  f146 := Tryz.func28.trans (congrArg some (by kernel_rfl))
  f195 := Tryz.func87.trans (congrArg some (by kernel_rfl))
  f197 := Tryz.func88.trans (congrArg some (by kernel_rfl))
  f217 := Tryz.func102.trans (congrArg some (by kernel_rfl))
  f218 := Tryz.func89.trans (congrArg some (by kernel_rfl))
  f219 := Tryz.func90.trans (congrArg some (by kernel_rfl))
  f221 := Tryz.func44.trans (congrArg some (by kernel_rfl))
  f224 := Tryz.func104.trans (congrArg some (by kernel_rfl))
  f225 := Tryz.func103.trans (congrArg some (by kernel_rfl))
  f260 := Tryz.func101.trans (congrArg some (by kernel_rfl))
  f266 := Tryz.func112.trans (congrArg some (by kernel_rfl))
  f267 := Tryz.func105.trans (congrArg some (by kernel_rfl))
  f268 := Tryz.func59.trans (congrArg some (by kernel_rfl))
  f314 := Tryz.func113.trans (congrArg some (by kernel_rfl))
  t0 := Tryz.underlying0
  a0 := Tryz.isAgg0
  z0 := Tryz.sizeOf0
  v0 := Tryz.zeroValue0
  t3 := Tryz.underlying3
  a3 := Tryz.isAgg3
  z3 := Tryz.sizeOf3
  v3 := Tryz.zeroValue3
  t4 := Tryz.underlying4
  a4 := Tryz.isAgg4
  z4 := Tryz.sizeOf4
  v4 := Tryz.zeroValue4
  t5 := Tryz.underlying5
  a5 := Tryz.isAgg5
  z5 := Tryz.sizeOf5
  v5 := Tryz.zeroValue5
  t9 := Tryz.underlying9
  a9 := Tryz.isAgg9
  z9 := Tryz.sizeOf9
  v9 := Tryz.zeroValue9
  t21 := Tryz.underlying21
  a21 := Tryz.isAgg21
  z21 := Tryz.sizeOf21
  v21 := Tryz.zeroValue21
  t31 := Tryz.underlying55
  a31 := Tryz.isAgg55
  z31 := Tryz.sizeOf55
  v31 := Tryz.zeroValue55
  t46 := Tryz.underlying125
  a46 := Tryz.isAgg125
  z46 := Tryz.sizeOf125
  v46 := Tryz.zeroValue125
  t51 := Tryz.underlying138
  a51 := Tryz.isAgg138
  z51 := Tryz.sizeOf138
  v51 := Tryz.zeroValue138
  t105 := Tryz.underlying120
  a105 := Tryz.isAgg120
  z105 := Tryz.sizeOf120
  v105 := Tryz.zeroValue120
  t119 := Tryz.underlying134
  a119 := Tryz.isAgg134
  z119 := Tryz.sizeOf134
  t138 := Tryz.underlying136
  a138 := Tryz.isAgg136
  z138 := Tryz.sizeOf136
  v138 := Tryz.zeroValue136
  t139 := Tryz.underlying137
  a139 := Tryz.isAgg137
  z139 := Tryz.sizeOf137
  v139 := Tryz.zeroValue137
  t146 := Tryz.underlying139
  a146 := Tryz.isAgg139
  z146 := Tryz.sizeOf139
  v146 := Tryz.zeroValue139
  g1 := by kernel_rfl
  g3 := by kernel_rfl
  g4 := by kernel_rfl }
open Go.RowKit Go.Lib in
/-- strings.Split. (LAID: no walk: one application.) -/
theorem Tryz.strings_Split (s sep : ByteArray) (m : Int) (w : World) (hs : s.size < 4294967281) (hm : w.cell? ⟨1, 0, none⟩ = some (.int .i64 m)) (h1 : 1 ≤ sep.size) :
    Calls Tryz.prog 28 #[.string s, .string sep] w fun e w' =>
      e = .returned (.slice (some ⟨w.heap.size, 0, none⟩) (Lib.countB s sep + 1) (Lib.countB s sep + 1)) ∧ w' = w.alloc (.cells ((Lib.splitB sep 0 (Lib.countB s sep) s).map Value.string).toArray 9) := Any.strings_Split Tryz.lays146 (by kernel_rfl) s sep m w hs hm h1
end Go.Proofs

namespace Go.Proofs.YtdlhdompemkjfaaGreatDoor
open Go.RowKit Go.Maps
set_option maxRecDepth 100000

set_option maxHeartbeats 2000000 in
theorem passedOver_any (w : World) (s : ByteArray) : Calls Tryz.prog 29 #[.string s] w fun e w' => e = .returned (.bool (psd s.data.toList)) ∧ w' = w := by
  have ht := Tryz.strings_TrimLeft_one s 32 (by decide) w
  unfold Lib.trimLeftB at ht
  have HP : Hid (psd s.data.toList = match s.data.toList.dropWhile (· == 32) with | [] => true | b :: _ => b == 35) := rfl
  generalize s.data.toList.dropWhile (· == 32) = d at *
  cases d with
  | nil =>
    go_enter Tryz.func29, Tryz.ntmps29
    go_wp2_with (first | (go_at_call 45; refine ht.mono ?_; clear ht; rintro e w1 ⟨rfl, rfl⟩))
    go_ret
    exact ⟨by rw [HP.out]; rfl, rfl⟩
  | cons b r =>
    have hz : (⟨(b :: r).toArray⟩ : ByteArray).toList.isEmpty = false := by rw [ByteArray.toList_eq]; rfl
    have h0 : (⟨(b :: r).toArray⟩ : ByteArray)[0]? = some b := rfl
    have hsz : (⟨(b :: r).toArray⟩ : ByteArray).size = r.length + 1 := by simp [ByteArray.size]
    go_enter Tryz.func29, Tryz.ntmps29
    go_wp2_with (first | (go_at_call 45; refine ht.mono ?_; clear ht; rintro e w1 ⟨rfl, rfl⟩))
    go_ret
    refine ⟨?_, rfl⟩
    show Ending.returned (.bool ((b.toNat : Int) == 35)) = _
    rw [HP.out]
    refine ret_bool ?_
    show ((b.toNat : Int) == 35) = (b == 35)
    by_cases hb : b = 35
    · subst hb; rfl
    · rw [beq_eq_false_iff_ne.2 hb]
      refine beq_eq_false_iff_ne.2 (fun e => hb ?_)
      have : b.toNat = 35 := by omega
      exact UInt8.toNat_inj.1 (by rw [this]; rfl)
end Go.Proofs.YtdlhdompemkjfaaGreatDoor

namespace Go.Proofs.YtdlhdompemkjfaaGreatDoor
open Go.RowKit Go.Maps
set_option maxRecDepth 100000

/-! Steps and errors, line by line. -/
def pcells (l : List (St × Value)) : List Value := l.flatMap fun p => (scell p.1 p.2).toList
theorem pcells_len (l : List (St × Value)) : (pcells l).length = l.length * 7 := by
  induction l with
  | nil => rfl
  | cons a l ih => simp [pcells, scell] at ih ⊢; omega
theorem pcells_app (a b : List (St × Value)) : pcells (a ++ b) = pcells a ++ pcells b := by simp [pcells]
theorem infoStep : (Tryz.prog.info? 24).map (fun i => (i.zero, i.size, i.bytes)) = some (some (.agg szero), 7, 88) := by kernel_rfl
theorem infoErr : (Tryz.prog.info? 35).map (fun i => (i.zero, i.size, i.bytes)) = some (some (.int .i64 0), 1, 8) := by kernel_rfl
/-- A list of steps of one's own, new since w, each with a list of its own. -/
structure PR (w W : World) (v : Value) (l : List (St × Value)) : Prop where
  row : W.ownsRow w.heap.size 24 7 v l.length (pcells l)
  ins : ∀ p ∈ l, W.ownsRow w.heap.size 3 1 p.2 p.1.l.length (ints p.1.l)
  shp : ∀ p ∈ l, ∃ r n c, p.2 = .slice r n c
  apart : l.Pairwise fun p q => ∀ g, p.2.ownBlock = some g → q.2.ownBlock ≠ some g
def ER (w W : World) (v : Value) (l : List Int) : Prop := W.ownsRow w.heap.size 35 1 v l.length (ints l)
theorem PR.nil (w W : World) : PR w W (.slice none 0 0) [] := ⟨World.ownsRow_nil _ _ _ _, (fun _ h => absurd h (by simp)), (fun _ h => absurd h (by simp)), List.Pairwise.nil⟩
theorem PR.keep {w A B : World} {v : Value} {l : List (St × Value)} (h : PR w A v l) (k : Keeps (fun _ => False) A B) : PR w B v l := ⟨own_grow h.row k, fun p hp => own_grow (h.ins p hp) k, h.shp, h.apart⟩
theorem ER.keep {w A B : World} {v : Value} {l : List Int} (h : ER w A v l) (k : Keeps (fun _ => False) A B) : ER w B v l := own_grow h k
/-- A row of another type is no row of steps. -/
theorem own_types {W : World} {base base2 : Nat} {e f : TypeId} {s t : Nat} {v z : Value} {n m : Nat} {xs ys : List Value} (h : W.ownsRow base e s v n xs) (k : W.ownsRow base2 f t z m ys) (hne : e ≠ f) : ∀ g, v.ownBlock = some g → ¬ z.ownBlock = some g := by
  intro g hg hz
  rcases h.2 with ⟨rfl, _⟩ | ⟨a, cap, cur, rfl, _, hb, _⟩
  · cases hg
  · rcases k.2 with ⟨rfl, _⟩ | ⟨b, cap2, cur2, rfl, _, hb2, _⟩
    · cases hz
    · cases hg
      cases hz
      rw [hb] at hb2
      injection hb2 with hb2
      injection hb2 with _ ht _
      exact hne ht
/-- append of a step to steps of one's own. -/
theorem wpList_appS {ops : Array Oper} {rest : List Oper} {o : Oper} {a : Act} {Q : Exit → Act → World → Prop} (hgd : o.guard = none) (s x : Operand)
    (ho : o.op = .call { callee := .builtin .append, args := #[s, x], argTypes := #[29, 29] }) (w W : World) (v : Value) (l : List (St × Value)) (hs : a.eval s = v) (h : PR w W v l) (hk : Keeps (fun _ => False) w W) (t : St) (r : Option Addr) (n c : Nat)
    (ht : W.ownsRow w.heap.size 3 1 (.slice r n c) t.l.length (ints t.l)) (hd : ∀ p ∈ l, ∀ g, p.2.ownBlock = some g → (Value.slice r n c).ownBlock ≠ some g)
    (hx : a.eval x = .slice (some ⟨W.heap.size, 0, none⟩) 1 1) (hl : l.length ≤ 1000000000)
    (K : ∀ v' W', PR w W' v' (l ++ [(t, .slice r n c)]) → (∀ (z : Value) (m : Nat) (ys : List Value), W.ownsRow w.heap.size 35 1 z m ys → W'.ownsRow w.heap.size 35 1 z m ys) → Keeps (fun _ => False) w W' → W.heap.size ≤ W'.heap.size → wpList Tryz.prog ops Q rest (a.put o.dst v') W') : wpList Tryz.prog ops Q (o :: rest) a (W.alloc (.cells (scell t (.slice r n c)) 24)) := by
  obtain ⟨i0, hi, hz0, hz1, hz2⟩ := info_parts infoStep
  refine wpList_append_own_at _ hgd s x 29 ho w.heap.size 24 i0 (.agg szero) 7 88 Tryz.underlying29 hi hz0 hz1 hz2 rfl (by decide) v l.length (pcells l) hs (h.row.alloc _) ⟨W.heap.size, 0, none⟩ 1 1 (scell t (.slice r n c)).toList hx rfl ?_ ?_ (by unfold maxLen; omega) (by omega) (by rw [World.size_alloc]; have := hk.size; omega) ?_
  · intro j u hj
    have h2 := heap_last W (.cells (scell t (.slice r n c)) 24)
    rw [addr_add]
    simp only [World.cell?, h2, Nat.zero_add]
    rw [Array.getElem?_toList] at hj
    exact hj
  · intro u hu
    simp only [scell, List.mem_cons, List.not_mem_nil, or_false] at hu
    rcases hu with rfl | rfl | rfl | rfl | rfl | rfl | rfl <;> rfl
  · intro v' W' hown hgr _ _
    have k1 : Keeps (fun k => v.ownBlock = some k) (W.alloc (.cells (scell t (.slice r n c)) 24)) W' := Keeps.of hgr (fun k hk => Or.inl hk)
    have k0 := (Keeps.refl (fun _ => False) W).alloc (.cells (scell t (.slice r n c)) 24)
    have other : ∀ {e : TypeId} {s : Nat} {z : Value} {m : Nat} {ys : List Value}, 24 ≠ e → W.ownsRow w.heap.size e s z m ys → W'.ownsRow w.heap.size e s z m ys := by
      intro e s z m ys hne ho2
      exact own_keep (own_grow ho2 k0) k1 (fun g hg hv => own_types h.row ho2 hne g hv hg)
    refine K v' W' ⟨?_, ?_, ?_, ?_⟩ (fun z m ys ho2 => other (by decide) ho2) ?_ ?_
    · rw [pcells_app, List.length_append]
      have e : pcells [(t, .slice r n c)] = (scell t (.slice r n c)).toList := by simp [pcells]
      rw [e]; exact hown
    · intro p hp
      rcases List.mem_append.1 hp with hp | hp
      · exact other (by decide) (h.ins p hp)
      · rw [List.mem_singleton.1 hp]; exact other (by decide) ht
    · intro p hp
      rcases List.mem_append.1 hp with hp | hp
      · exact h.shp p hp
      · rw [List.mem_singleton.1 hp]; exact ⟨r, n, c, rfl⟩
    · rw [List.pairwise_append]
      refine ⟨h.apart, List.pairwise_singleton _ _, fun p hp q hq => ?_⟩
      rw [List.mem_singleton.1 hq]
      exact hd p hp
    · refine (hk.alloc _).step hgr (fun k hk => Or.inr ?_)
      exact ((h.row.lt k hk).1)
    · have := k1.size; rw [World.size_alloc] at this; omega
/-- append of an error to errors of one's own. -/
theorem wpList_appE {ops : Array Oper} {rest : List Oper} {o : Oper} {a : Act} {Q : Exit → Act → World → Prop} (hgd : o.guard = none) (s x : Operand)
    (ho : o.op = .call { callee := .builtin .append, args := #[s, x], argTypes := #[32, 32] }) (w W : World) (v : Value) (l : List Int) (hs : a.eval s = v) (h : ER w W v l) (hk : Keeps (fun _ => False) w W) (n : Int)
    (hx : a.eval x = .slice (some ⟨W.heap.size, 0, none⟩) 1 1) (hl : l.length ≤ 1000000000) (z : Value) (ps : List (St × Value)) (hp : PR w W z ps)
    (K : ∀ v' W', ER w W' v' (l ++ [n]) → PR w W' z ps → Keeps (fun _ => False) w W' → wpList Tryz.prog ops Q rest (a.put o.dst v') W') : wpList Tryz.prog ops Q (o :: rest) a (W.alloc (.cells #[.int .i64 n] 35)) := by
  obtain ⟨i0, hi, hz0, hz1, hz2⟩ := info_parts infoErr
  refine wpList_append_own_at _ hgd s x 32 ho w.heap.size 35 i0 (.int .i64 0) 1 8 Tryz.underlying32 hi hz0 hz1 hz2 rfl (by decide) v l.length (ints l) hs (World.ownsRow.alloc h _) ⟨W.heap.size, 0, none⟩ 1 1 [.int .i64 n] hx rfl ?_ ?_ (by unfold maxLen; omega) (by omega) (by rw [World.size_alloc]; have := hk.size; omega) ?_
  · intro j u hj
    have h2 := heap_last W (.cells #[.int .i64 n] 35)
    rw [addr_add]
    simp only [World.cell?, h2, Nat.zero_add, List.getElem?_toArray]
    exact hj
  · intro u hu
    rw [List.mem_singleton.1 hu]; rfl
  · intro v' W' hown hgr _ _
    have k1 : Keeps (fun k => v.ownBlock = some k) (W.alloc (.cells #[.int .i64 n] 35)) W' := Keeps.of hgr (fun k hk => Or.inl hk)
    have k0 := (Keeps.refl (fun _ => False) W).alloc (.cells #[.int .i64 n] 35)
    have other : ∀ {e : TypeId} {s : Nat} {z : Value} {m : Nat} {ys : List Value}, 35 ≠ e → W.ownsRow w.heap.size e s z m ys → W'.ownsRow w.heap.size e s z m ys := by
      intro e s z m ys hne ho2
      exact own_keep (own_grow ho2 k0) k1 (fun g hg hv => own_types h ho2 hne g hv hg)
    refine K v' W' ?_ ⟨other (by decide) hp.row, fun p hp2 => other (by decide) (hp.ins p hp2), hp.shp, hp.apart⟩ ?_
    · show World.ownsRow _ _ _ _ _ _ _
      rw [List.length_append, show ints (l ++ [n]) = ints l ++ [.int .i64 n] by simp [ints]]; exact hown
    · refine (hk.alloc _).step hgr (fun k hk => Or.inr ?_)
      exact ((World.ownsRow.lt h k hk).1)
end Go.Proofs.YtdlhdompemkjfaaGreatDoor
