import Derived.Test.YtdlhdompemkjfaaGreatDoorK07
import Derived.Test.YtdlhdompemkjfaaGreatDoorK08
import Derived.Lib.SmallJoins
import Derived.Deep.MidRow
namespace Go.Proofs.YtdlhdompemkjfaaGreatDoor
open Go.RowKit Go.Maps
set_option maxRecDepth 100000

/-- The library's tables and errors, as start-up lays them. -/
structure Vars (w : World) : Prop where
  tab : Lib.TabIs Tryz.prog w "internal/strconv.uint64pow10" .u64 Lib.pow10Tab
  syn : ∃ te pe, w.cell? ⟨4, 0, none⟩ = some (.iface te pe)
  rng : ∃ te pe, w.cell? ⟨5, 0, none⟩ = some (.iface te pe)
theorem var_keep {a b : World} (k : Keeps (fun _ => False) a b) {n : String} {x : Array Value} (h : a.var? Tryz.prog n = some x) : b.var? Tryz.prog n = some x := by
  unfold World.var? at h ⊢
  cases hg : Tryz.prog.globalNamed n with
  | none => rw [hg] at h; cases h
  | some g =>
    rw [hg] at h
    simp only [Option.bind_some] at h ⊢
    cases hb : a.heap[g]? with
    | none => rw [hb] at h; cases h
    | some o => rw [k.at hb id]; rw [hb] at h; exact h
theorem Vars.keep {a b : World} (h : Vars a) (k : Keeps (fun _ => False) a b) : Vars b := by
  obtain ⟨t, ⟨te, pe, hs⟩, ⟨te', pe', hr⟩⟩ := h
  exact ⟨var_keep k t, ⟨te, pe, k.cell hs id⟩, ⟨te', pe', k.cell hr id⟩⟩
theorem Keeps.grow (w : World) (k : Nat) (os : Array Obj) : Keeps (fun _ => False) w (Go.Sort.grow (w.drewN k) os) := by
  refine ⟨rfl, rfl, rfl, by simp [Go.Sort.grow, World.drewN], fun i hi _ => ?_⟩
  show (w.heap ++ os)[i]? = w.heap[i]?
  rw [Array.getElem?_append_left hi]
theorem Keeps.bytes (w : World) (t : ByteArray) : Keeps (fun _ => False) w (Lib.bytesWorld w 5 t) := Keeps.ofBelow (Joins.below_bytesWorld _ w 5 t (Nat.le_refl _))

/-- A word's number. -/
def num (t : Bs) : Option Int := match Lib.parseIntB 64 t with
  | .ok v => if Lib.itoa v = t then some v else none
  | _ => none
theorem parse_bounds {t : Bs} {v : Int} (h : Lib.parseIntB 64 t = .ok v) : -9223372036854775808 ≤ v ∧ v ≤ 9223372036854775807 := by
  unfold Lib.parseIntB at h
  split at h
  · cases h
  · simp only at h
    split at h
    · cases h
    · cases h
    · rename_i u _
      split at h
      · cases h
      · split at h
        · cases h
        · rename_i c1 c2
          injection h with h
          subst h
          split
          · rename_i hn
            have : ¬ 2 ^ (64 - 1) < u := fun hh => c2 ⟨hn, hh⟩
            omega
          · rename_i hn
            have : ¬ 2 ^ (64 - 1) ≤ u := fun hh => c1 ⟨hn, hh⟩
            omega
theorem itoa_str (v : Int) : (⟨(Lib.itoa v).toArray⟩ : ByteArray) = mkB (Lib.itoa v) := rfl

set_option maxHeartbeats 2000000 in
theorem number_any (w : World) (hv : Vars w) (s : ByteArray) (hs : s.size ≤ 1000000) :
    Calls Tryz.prog 74 #[.string s] w fun e w' => e = .returned (.tuple #[.int .i64 ((num s.data.toList).getD 0), .bool (num s.data.toList).isSome]) ∧ Keeps (fun _ => False) w w' := by
  cases hp : Lib.parseIntB 64 s.data.toList with
  | ok v =>
    have hb : -9223372036854775808 ≤ v ∧ v ≤ 9223372036854775807 := parse_bounds hp
    have h90 := Tryz.strconv_ParseInt_10_at64_ok s (by omega) v hp w
    have HV := Hid.mk' hv
    by_cases he : Lib.itoa v = s.data.toList
    · have hn : num s.data.toList = some v := by unfold num; rw [hp]; exact if_pos he
      have heq : (⟨(Lib.itoa v).toArray⟩ : ByteArray) = s := by rw [itoa_str, he, mkB_data]
      rw [hn]
      clear hp hn
      go_enter Tryz.func74, Tryz.ntmps74
      go_wp2_with (first
        | (go_at_call 96; refine h90.mono ?_; clear h90; rintro e w1 ⟨rfl, hw1⟩; have HK1 : Hid (Keeps (fun _ => False) w w1) := by (rcases hw1 with rfl | ⟨t, rfl⟩; exact Keeps.refl _ _; exact Keeps.bytes _ _)
           clear hw1)
        | (go_at_call 97; refine (Tryz.strconv_FormatInt_10 v hb.1 hb.2 w1 (HV.out.keep HK1.out).tab).mono ?_; rintro e w2 ⟨rfl, hw2⟩; have HK2 : Hid (Keeps (fun _ => False) w1 w2) := by (obtain ⟨k, os, rfl⟩ := hw2; exact Keeps.grow _ _ _)
           clear hw2; rw [heq]))
      refine bodyPost_ret (v := .tuple #[.int .i64 v, .bool true]) (by simp [results, Tryz.results74, go_sem]) rfl ⟨rfl, HK1.out.trans HK2.out⟩
    · have hn : num s.data.toList = none := by unfold num; rw [hp]; exact if_neg he
      have heq : (Lib.itoa v == s.toList) = false := by
        rw [ByteArray.toList_eq]
        exact beq_eq_false_iff_ne.2 he
      rw [hn]
      clear hp hn he
      go_enter Tryz.func74, Tryz.ntmps74
      go_wp2_with (first
        | (go_at_call 96; refine h90.mono ?_; clear h90; rintro e w1 ⟨rfl, hw1⟩; have HK1 : Hid (Keeps (fun _ => False) w w1) := by (rcases hw1 with rfl | ⟨t, rfl⟩; exact Keeps.refl _ _; exact Keeps.bytes _ _)
           clear hw1)
        | (go_at_call 97; refine (Tryz.strconv_FormatInt_10 v hb.1 hb.2 w1 (HV.out.keep HK1.out).tab).mono ?_; rintro e w2 ⟨rfl, hw2⟩; have HK2 : Hid (Keeps (fun _ => False) w1 w2) := by (obtain ⟨k, os, rfl⟩ := hw2; exact Keeps.grow _ _ _)
           clear hw2))
      refine bodyPost_ret (v := .tuple #[.int .i64 0, .bool false]) (by simp [results, Tryz.results74, go_sem]) rfl ⟨rfl, HK1.out.trans HK2.out⟩
  | «syntax» =>
    obtain ⟨te, pe, hcell⟩ := hv.syn
    have h90 := Tryz.strconv_ParseInt_10_at64_syntax s (by omega) hp _ w hcell (Or.inr ⟨te, pe, rfl⟩)
    have hn : num s.data.toList = none := by unfold num; rw [hp]
    rw [hn]
    clear hp hn hcell
    go_enter Tryz.func74, Tryz.ntmps74
    go_wp2_with (first
      | (go_at_call 96; refine h90.mono ?_; clear h90; rintro e w1 ⟨N, rfl, _, _, hw1⟩; have HK1 := Hid.mk' (Keeps.ofBelow hw1); clear hw1))
    refine bodyPost_ret (v := .tuple #[.int .i64 0, .bool false]) (by simp [results, Tryz.results74, go_sem]) rfl ⟨rfl, HK1.out⟩
  | range =>
    obtain ⟨te, pe, hcell⟩ := hv.rng
    have h90 := Tryz.strconv_ParseInt_10_at64_range s (by omega) hp _ w hcell (Or.inr ⟨te, pe, rfl⟩)
    have hn : num s.data.toList = none := by unfold num; rw [hp]
    rw [hn]
    clear hp hn hcell
    generalize Lib.intSat 64 s.data.toList = Z at *
    go_enter Tryz.func74, Tryz.ntmps74
    go_wp2_with (first
      | (go_at_call 96; refine h90.mono ?_; clear h90; rintro e w1 ⟨N, rfl, _, _, hw1⟩; have HK1 := Hid.mk' (Keeps.ofBelow hw1); clear hw1))
    refine bodyPost_ret (v := .tuple #[.int .i64 0, .bool false]) (by simp [results, Tryz.results74, go_sem]) rfl ⟨rfl, HK1.out⟩
end Go.Proofs.YtdlhdompemkjfaaGreatDoor

namespace Go.Proofs.YtdlhdompemkjfaaGreatDoor
open Go.RowKit Go.Maps
set_option maxRecDepth 100000

def kcell (n : Int) (s : ByteArray) (v : Value) : Array Value := #[.int .i64 n, .string s, v]
theorem acells_len (l : List Ar) : (acells l).length = 4 * l.length := by
  induction l with
  | nil => rfl
  | cons a l ih => simp [acells, acell] at ih ⊢; omega
theorem acells_get : ∀ (l : List Ar) (i : Nat) (a : Ar), l[i]? = some a → (acells l)[4 * i]? = some (.bool a.quo) ∧ (acells l)[4 * i + 1]? = some (.bool a.lst) ∧ (acells l)[4 * i + 2]? = some (.func (.func a.rd) #[] #[]) ∧ (acells l)[4 * i + 3]? = some (.func (.func a.tl) #[] #[])
  | [], i, a, h => by simp at h
  | b :: l, 0, a, h => by
    have : b = a := by simpa using h
    subst this
    exact ⟨rfl, rfl, rfl, rfl⟩
  | b :: l, i + 1, a, h => by
    have h' : l[i]? = some a := by simpa using h
    have := acells_get l i a h'
    have e : ∀ k, (acells (b :: l))[4 + k]? = (acells l)[k]? := fun k => by
      show ((acell b).toList ++ acells l)[4 + k]? = _
      rw [List.getElem?_append_right (by simp [acell])]
      simp [acell]
    have e0 := e (4 * i)
    have e1 := e (4 * i + 1)
    have e2 := e (4 * i + 2)
    have e3 := e (4 * i + 3)
    rw [show 4 * (i + 1) = 4 + 4 * i by omega, show 4 + 4 * i + 1 = 4 + (4 * i + 1) by omega, show 4 + 4 * i + 2 = 4 + (4 * i + 2) by omega, show 4 + 4 * i + 3 = 4 + (4 * i + 3) by omega, e0, e1, e2, e3]
    exact this
/-- The cells of the argument at a place. -/
theorem ArgsAt.cells {W : World} {p : Option Addr} {n c : Nat} {l : List Ar} (h : ArgsAt W (.slice p n c) l) {i : Nat} {a : Ar} (hi : l[i]? = some a) : ∃ b o, p = some ⟨b, o, none⟩ ∧ b < W.heap.size ∧ W.cell? ⟨b, o + 4 * i, none⟩ = some (.bool a.quo) ∧ W.cell? ⟨b, o + (4 * i + 1), none⟩ = some (.bool a.lst) ∧ W.cell? ⟨b, o + (4 * i + 2), none⟩ = some (.func (.func a.rd) #[] #[]) ∧ W.cell? ⟨b, o + (4 * i + 3), none⟩ = some (.func (.func a.tl) #[] #[]) := by
  obtain ⟨p', c', e, hc, hr⟩ := h
  cases e
  have hl : i < l.length := (List.getElem?_eq_some_iff.1 hi).1
  obtain ⟨b, o, rfl, hb, hcell⟩ := hr (by omega)
  obtain ⟨g0, g1, g2, g3⟩ := acells_get l i a hi
  exact ⟨b, o, rfl, hb, hcell _ _ g0, hcell _ _ g1, hcell _ _ g2, hcell _ _ g3⟩
theorem ArgsAt.shape {W : World} {v : Value} {l : List Ar} (h : ArgsAt W v l) : ∃ p c, v = .slice p l.length c ∧ l.length ≤ c := by
  obtain ⟨p, c, e, hc, _⟩ := h
  exact ⟨p, c, e, hc⟩
theorem ArgsAt.range {W : World} {p : Option Addr} {n c : Nat} {l : List Ar} (h : ArgsAt W (.slice p n c) l) {i : Nat} {a : Ar} (hi : l[i]? = some a) : ∃ b o, p = some ⟨b, o, none⟩ ∧ b < W.heap.size ∧ W.rangeAt b (o + i * 4) (acell a).toList := by
  obtain ⟨b, o, rfl, hb, c0, c1, c2, c3⟩ := h.cells hi
  refine ⟨b, o, rfl, hb, ?_⟩
  rw [Nat.mul_comm]
  intro j u hj
  match j, hj with
  | 0, hj => cases Option.some.inj hj; exact c0
  | 1, hj => cases Option.some.inj hj; rw [show o + 4 * i + 1 = o + (4 * i + 1) by omega]; exact c1
  | 2, hj => cases Option.some.inj hj; rw [show o + 4 * i + 2 = o + (4 * i + 2) by omega]; exact c2
  | 3, hj => cases Option.some.inj hj; rw [show o + 4 * i + 3 = o + (4 * i + 3) by omega]; exact c3
  | j + 4, hj => simp [acell] at hj
def nds (l : List Ar) : Nat := (l.filter fun a => !a.lst).length
theorem wpList_load_arg {ops : Array Oper} {rest : List Oper} {o : Oper} {a : Act} {W : World} {Q : Exit → Act → World → Prop} (hgd : o.guard = none) (x : Operand) (ho : o.op = .load 74 x) (b off : Nat) (c : Ar) (hx : a.eval x = .pointer (some ⟨b, off, none⟩)) (hc : W.rangeAt b off (acell c).toList)
    (h : wpList Tryz.prog ops Q rest (a.put o.dst (.agg (acell c))) W) : wpList Tryz.prog ops Q (o :: rest) a W :=
  wpList_load_mid hgd 74 x ho b off hx (acell c).toList _ hc Tryz.underlying74 rfl size74 h
/-- A variable of one's own for an argument: laid and written. -/
theorem wpList_store_new {ops : Array Oper} {rest : List Oper} {o : Oper} {a : Act} {W : World} {Q : Exit → Act → World → Prop} (hgd : o.guard = none) (x y : Operand) (ho : o.op = .store 74 x y) (c : Ar) (hx : a.eval x = .pointer (some ⟨W.heap.size, 0, none⟩)) (hy : a.eval y = .agg (acell c))
    (h : wpList Tryz.prog ops Q rest (a.put o.dst undef) (W.alloc (.cells (acell c) 74))) : wpList Tryz.prog ops Q (o :: rest) a (W.alloc (.cells azero 74)) := by
  refine wpList_store_row hgd 74 x y ho W.heap.size (acell c) hx hy 74 azero (heap_last W _) size74 rfl (acell_one c) ?_
  rw [World.setRow_alloc_new]; exact h
theorem new_cell (W : World) (cs : Array Value) (t : TypeId) (j : Nat) (v : Value) (h : cs[j]? = some v) : (W.alloc (.cells cs t)).cell? ⟨W.heap.size, j, none⟩ = some v := by
  have h2 := heap_last W (.cells cs t)
  simp only [World.cell?, h2]; exact h
theorem nds_take {l : List Ar} {k : Nat} {a : Ar} (h : l[k]? = some a) : nds (l.take (k + 1)) = nds (l.take k) + (if a.lst = true then 0 else 1) := by
  have e : l.take (k + 1) = l.take k ++ [a] := by
    rw [List.take_add_one, h]; rfl
  unfold nds
  rw [e, List.filter_append, List.length_append]
  cases hl : a.lst <;> simp [hl]
theorem nds_le (l : List Ar) : nds l ≤ l.length := List.length_filter_le _ _

set_option maxHeartbeats 2000000 in
theorem needs_any (w : World) (n : Int) (s : ByteArray) (v : Value) (l : List Ar) (h : ArgsAt w v l) (hl : l.length ≤ 100) :
    Calls Tryz.prog 47 #[.agg (kcell n s v)] w fun e w' => e = .returned (.int .i64 (nds l)) ∧ Keeps (fun _ => False) w w' := by
  obtain ⟨p, c, rfl, hc⟩ := h.shape
  have HA := Hid.mk' h
  clear h
  unfold kcell
  go_enter Tryz.func47, Tryz.ntmps47
  have HK0 := Hid.mk' ((Keeps.refl (fun _ => False) w).alloc (.cells #[.int .i64 n, .string s, .slice p l.length c] 63))
  go_wp2
  go_loopw [3, 9] (fun z i wr => ∃ k : Nat, k ≤ l.length ∧ i = .int .i64 k ∧ z = .int .i64 (nds (l.take k)) ∧ Hid (Keeps (fun _ => False) w wr)) (fun _ i _ => l.length - (intOf i).toNat)
  case atStart => exact ⟨0, Nat.zero_le _, rfl, rfl, HK0.out⟩
  case round =>
    obtain ⟨k, hk, rfl, rfl, HK⟩ := hrel
    clear HK0
    by_cases h1 : k < l.length
    · have h1' : (k : Int) < (l.length : Int) := by omega
      obtain ⟨a, ha⟩ : ∃ a, l[k]? = some a := ⟨l[k], by simp [h1]⟩
      obtain ⟨b, o, rfl, hb, hr⟩ := (HA.out.keep HK.out).range ha
      have HR := Hid.mk' hr
      clear hr
      have HL : Hid (nds (l.take k) ≤ 100) := by
        have := nds_le (l.take k)
        rw [List.length_take] at this
        show _ ≤ _
        omega
      have HN := Hid.mk' (nds_take ha)
      have n1 := new_cell wr (acell a) 74 1 (.bool a.lst) rfl
      have HK2 := Hid.mk' (HK.out.alloc (.cells (acell a) 74))
      generalize nds (l.take k) = N at *
      have hN := HL.out
      have hN' : N ≤ 100 := hN
      clear hN
      rcases Bool.eq_false_or_eq_true a.lst with hl2 | hl2
      all_goals
        rw [hl2] at n1
        go_wp2_with (first
          | (refine wpList_load_arg rfl _ rfl b (o + k * 4) a (by rfl) HR.out ?_)
          | (refine wpList_alloc_a rfl rfl ?_)
          | (refine wpList_store_new rfl _ _ rfl a (by rfl) (by rfl) ?_))
        go_roundw
      case rel => exact ⟨k + 1, by omega, by go_num, by rw [HN.out, hl2]; rfl, HK2.out⟩
      case measure => simp [intOf]; omega
      case rel => exact ⟨k + 1, by omega, by go_num, by rw [HN.out, hl2]; go_num, HK2.out⟩
      case measure => simp [intOf]; omega
    · have h1' : ¬ (k : Int) < (l.length : Int) := by omega
      have e : l.take k = l := List.take_of_length_le (by omega)
      rw [e]
      go_wp2
      go_ret
      exact ⟨rfl, HK.out⟩
end Go.Proofs.YtdlhdompemkjfaaGreatDoor
