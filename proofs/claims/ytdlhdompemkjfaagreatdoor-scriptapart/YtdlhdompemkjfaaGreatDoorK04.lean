import Derived.Test.YtdlhdompemkjfaaGreatDoorK03
import Derived.Great.BuildSlice
import Derived.Great.Walk
import Derived.Deep.WholeRow
import Derived.Laws.Rows
import Derived.Laws.Tables
namespace Go.Proofs.YtdlhdompemkjfaaGreatDoor
open Go.RowKit Go.Maps
set_option maxRecDepth 100000

set_option maxHeartbeats 4000000 in
set_option maxRecDepth 100000 in
theorem runquote_any (w : World) (s : ByteArray) (hs : s.size ≤ 1000000) :
    Calls Tryz.prog 57 #[.string s] w fun e w' => e = .returned (.tuple #[.string (uqT s.data.toList), .int .i64 (uqN s.data.toList), .int .i64 (uqE s.data.toList)]) ∧ Keeps (fun _ => False) w w' := by
  by_cases h0 : s.size = 0
  · have e0 := size0 h0
    subst e0
    go_enter Tryz.func57, Tryz.ntmps57
    go_wp2
    refine bodyPost_ret (v := .tuple #[.string ⟨#[]⟩, .int .i64 0, .int .i64 194]) (by simp [results, Tryz.results57, go_sem]) rfl ?_
    exact ⟨rfl, Keeps.refl _ _⟩
  · have hp0 : 0 < s.size := by omega
    have j0 : (0 : Int) < (s.size : Int) := by omega
    have hne := ne_isEmpty h0
    have HS := Hid.mk' (size_len s)
    have hb0 := byte_getD s 0 hp0
    by_cases c0 : s[0] = 34
    · have HU := Hid.mk' (uq_start (by rw [← HS.out]; exact hp0) (by rw [← hb0]; exact c0))
      have k0 := by_nn (k := 34) 34 rfl c0
      have k0' := by_yes (k := 34) 34 rfl c0
      have HO := Hid.mk' (OB.nil w)
      clear c0 hb0
      go_enter Tryz.func57, Tryz.ntmps57
      go_wp2
      go_loopw [5, 6] (fun v i wr => ∃ (k : Nat) (acc : Bs), k ≤ s.size ∧ 1 ≤ k ∧ i = .int .i64 k ∧ Hid (UI s.data.toList k acc ∧ OB w wr v acc)) (fun _ i _ => s.size - (intOf i).toNat)
      case atStart => exact ⟨1, [], hp0, Nat.le_refl _, rfl, HU.out, HO.out⟩
      case round =>
        obtain ⟨k, acc, hk, hk1, rfl, HR⟩ := hrel
        clear HU HO k0 k0'
        by_cases h1 : k < s.size
        · have h1' : (k : Int) < (s.size : Int) := by omega
          have hg := byte_getD s k h1
          have HK : Hid (k < s.data.toList.length) := by show _ < _; rw [← HS.out]; exact h1
          have HA : Hid (acc.length ≤ 1000000) := by have := HR.out.1.2.2.1; show _ ≤ _; omega
          by_cases c34 : s[k] = 34
          · have HE := Hid.mk' (uqT_some (HR.out.1.fin HK.out (by rw [← hg]; exact c34)))
            have k34 := by_yes (k := 34) 34 rfl c34
            have hcv := conv_row wr u5 acc HR.out.2.row
            clear c34 hg
            go_wp2
            refine bodyPost_ret (v := .tuple #[.string (mkB acc), .int .i64 ((k : Int) + 1), .int .i64 0]) (by simp [results, Tryz.results57, go_sem]) rfl ?_
            obtain ⟨e1, e2, e3⟩ := HE.out
            rw [e1, e2, e3]
            exact ⟨rfl, HR.out.2.2⟩
          · have k34 := by_no (k := 34) 34 rfl c34
            have h13 := unit_any wr s k h1 (by omega)
            have hb34 : ¬ s.data.toList.getD k 0 = 34 := by rw [← hg]; exact c34
            by_cases hm : (unt (s[k]'h1) (s.data.toList.drop (k + 1))).2 = 0
            · have HE := Hid.mk' (uqT_none (HR.out.1.unt_bad HK.out hb34 (by rw [← hg]; exact hm)))
              rw [hm] at h13
              clear c34 hg hb34 hm
              go_wp2_with (first | (go_at_call 86; refine h13.mono ?_; clear h13; rintro e w1 ⟨rfl, hk1⟩))
              refine bodyPost_ret (v := .tuple #[.string ⟨#[]⟩, .int .i64 0, .int .i64 194]) (by simp [results, Tryz.results57, go_sem]) rfl ?_
              obtain ⟨e1, e2, e3⟩ := HE.out
              rw [e1, e2, e3]
              exact ⟨rfl, HR.out.2.2.trans hk1⟩
            · have HN := Hid.mk' (HR.out.1.unt HK.out hb34 (by rw [← hg]; exact hm))
              rw [← hg] at HN
              have HL := Hid.mk' HN.out.2.1
              generalize hmm : unt (s[k]'h1) (s.data.toList.drop (k + 1)) = mm at *
              obtain ⟨mb, mn⟩ := mm
              have hm' : ¬ mn = 0 := hm
              have hm1 : ((mn : Int) == 0) = false := beq_eq_false_iff_ne.2 (by omega)
              have hle' : k + mn ≤ s.size := by rw [HS.out]; exact HL.out
              have HN' : Hid (UI s.data.toList (k + mn) (acc ++ [mb])) := HN.out
              clear c34 hg hmm HN HL hm hb34
              go_wp2_with (first
                | (go_at_call 86; refine h13.mono ?_; clear h13; rintro e w1 ⟨rfl, hk1⟩; have HW := Hid.mk' (HR.out.2.keep hk1); clear hk1)
                | (at_builtin; go_must (refine wpList_app rfl _ _ rfl w w1 u5 _ (by rfl) HW.out [mb] 1 rfl _ (by rfl) (by rfl) (by have := HA.out; simp only [List.length_cons, List.length_nil] at *; omega) ?_); intro v' W' hO; have HO := Hid.mk' hO; clear hO))
              go_roundw
              case rel => exact ⟨k + mn, acc ++ [mb], by omega, by omega, by go_num, HN'.out, HO.out⟩
              case measure => simp [intOf]; omega
        · have HE := Hid.mk' (uqT_none (HR.out.1.out (by rw [← HS.out]; exact h1)))
          have h1' : ¬ (k : Int) < (s.size : Int) := by omega
          go_wp2
          refine bodyPost_ret (v := .tuple #[.string ⟨#[]⟩, .int .i64 0, .int .i64 194]) (by simp [results, Tryz.results57, go_sem]) rfl ?_
          obtain ⟨e1, e2, e3⟩ := HE.out
          rw [e1, e2, e3]
          exact ⟨rfl, HR.out.2.2⟩
    · obtain ⟨e1, e2, e3⟩ := uqT_none (uq_bad (by rw [← HS.out]; exact hp0) (by rw [← hb0]; exact c0))
      rw [e1, e2, e3]
      have k0 := by_ne (k := 34) 34 rfl c0
      clear c0 hb0 e1 e2 e3
      go_enter Tryz.func57, Tryz.ntmps57
      go_wp2
      refine bodyPost_ret (v := .tuple #[.string ⟨#[]⟩, .int .i64 0, .int .i64 194]) (by simp [results, Tryz.results57, go_sem]) rfl ?_
      exact ⟨rfl, Keeps.refl _ _⟩
end Go.Proofs.YtdlhdompemkjfaaGreatDoor

namespace Go.Proofs.YtdlhdompemkjfaaGreatDoor
open Go.RowKit Go.Maps
set_option maxRecDepth 100000

/-- What stands behind a kind's word: the two texts, the three numbers, the list. -/
inductive Ar where
  | A
  | B
  | N
  | M
  | K
  | L
def Ar.quo : Ar → Bool
  | .A => true
  | .B => true
  | _ => false
def Ar.lst : Ar → Bool
  | .L => true
  | _ => false
def Ar.rd : Ar → FuncId
  | .A => 68
  | .B => 71
  | .N => 73
  | .M => 77
  | .K => 79
  | .L => 81
def Ar.tl : Ar → FuncId
  | .A => 69
  | .B => 72
  | .N => 75
  | .M => 78
  | .K => 80
  | .L => 82
def acell (a : Ar) : Array Value := #[.bool a.quo, .bool a.lst, .func (.func a.rd) #[] #[], .func (.func a.tl) #[] #[]]
def azero : Array Value := #[.bool false, .bool false, .nilFunc, .nilFunc]
theorem info74 : (Tryz.prog.info? 74).map (fun i => (i.zero, i.size, i.bytes)) = some (some (.agg azero), 4, 24) := by kernel_rfl
theorem size74 : (Tryz.prog.info? 74).map (·.size) = some 4 := by kernel_rfl
theorem wpList_alloc_a {ops : Array Oper} {rest : List Oper} {o : Oper} {a : Act} {w : World} {Q : Exit → Act → World → Prop} (hg : o.guard = none) (ho : o.op = .alloc 74)
    (h : wpList Tryz.prog ops Q rest (a.put o.dst (.pointer (some ⟨w.heap.size, 0, none⟩))) (w.alloc (.cells azero 74))) : wpList Tryz.prog ops Q (o :: rest) a w := by
  refine wpList_plain hg fun K hK => ?_
  have hz := (zero_of_info (P := Tryz.prog) (t := 74) (v := .agg azero) (n := 4) (by kernel_rfl)).1
  unfold Oper.wp execOp
  simp [ho, Instr.alloc, hz, newVar, newRow, Value.cells, Result.andThen]
  exact hK _ _ h
theorem acell_one (a : Ar) : (acell a).all (·.oneCell') = true := by simp [acell, Value.oneCell']
set_option maxHeartbeats 1000000 in
theorem argA_any (w : World) : Calls Tryz.prog 49 #[] w fun e w' => e = .returned (.agg (acell .A)) ∧ Keeps (fun _ => False) w w' := by
  go_enter Tryz.func49, Tryz.ntmps49
  go_wp2_with (first
    | (refine wpList_alloc_a rfl rfl ?_)
    | (refine wpList_buildTo rfl 74 _ rfl _ rfl (acell .A) (by kernel_rfl) ?_)
    | (refine wpList_store_row rfl 74 _ _ rfl _ (acell .A) rfl rfl 74 azero (heap_last w _) size74 rfl (acell_one _) ?_; rw [World.setRow_alloc_new]))
  exact bodyPost_ret (results_cell_row rfl _ _ w.heap.size 74 (acell .A) (0, 0) _ rfl (heap_last w _) Tryz.underlying74 rfl size74) rfl ⟨rfl, (Keeps.refl _ w).alloc _⟩
set_option maxHeartbeats 1000000 in
theorem argB_any (w : World) : Calls Tryz.prog 50 #[] w fun e w' => e = .returned (.agg (acell .B)) ∧ Keeps (fun _ => False) w w' := by
  go_enter Tryz.func50, Tryz.ntmps50
  go_wp2_with (first
    | (refine wpList_alloc_a rfl rfl ?_)
    | (refine wpList_buildTo rfl 74 _ rfl _ rfl (acell .B) (by kernel_rfl) ?_)
    | (refine wpList_store_row rfl 74 _ _ rfl _ (acell .B) rfl rfl 74 azero (heap_last w _) size74 rfl (acell_one _) ?_; rw [World.setRow_alloc_new]))
  exact bodyPost_ret (results_cell_row rfl _ _ w.heap.size 74 (acell .B) (0, 0) _ rfl (heap_last w _) Tryz.underlying74 rfl size74) rfl ⟨rfl, (Keeps.refl _ w).alloc _⟩
set_option maxHeartbeats 1000000 in
theorem argN_any (w : World) : Calls Tryz.prog 51 #[] w fun e w' => e = .returned (.agg (acell .N)) ∧ Keeps (fun _ => False) w w' := by
  go_enter Tryz.func51, Tryz.ntmps51
  go_wp2_with (first
    | (refine wpList_alloc_a rfl rfl ?_)
    | (refine wpList_buildTo rfl 74 _ rfl _ rfl (acell .N) (by kernel_rfl) ?_)
    | (refine wpList_store_row rfl 74 _ _ rfl _ (acell .N) rfl rfl 74 azero (heap_last w _) size74 rfl (acell_one _) ?_; rw [World.setRow_alloc_new]))
  exact bodyPost_ret (results_cell_row rfl _ _ w.heap.size 74 (acell .N) (0, 0) _ rfl (heap_last w _) Tryz.underlying74 rfl size74) rfl ⟨rfl, (Keeps.refl _ w).alloc _⟩
set_option maxHeartbeats 1000000 in
theorem argM_any (w : World) : Calls Tryz.prog 52 #[] w fun e w' => e = .returned (.agg (acell .M)) ∧ Keeps (fun _ => False) w w' := by
  go_enter Tryz.func52, Tryz.ntmps52
  go_wp2_with (first
    | (refine wpList_alloc_a rfl rfl ?_)
    | (refine wpList_buildTo rfl 74 _ rfl _ rfl (acell .M) (by kernel_rfl) ?_)
    | (refine wpList_store_row rfl 74 _ _ rfl _ (acell .M) rfl rfl 74 azero (heap_last w _) size74 rfl (acell_one _) ?_; rw [World.setRow_alloc_new]))
  exact bodyPost_ret (results_cell_row rfl _ _ w.heap.size 74 (acell .M) (0, 0) _ rfl (heap_last w _) Tryz.underlying74 rfl size74) rfl ⟨rfl, (Keeps.refl _ w).alloc _⟩
set_option maxHeartbeats 1000000 in
theorem argK_any (w : World) : Calls Tryz.prog 53 #[] w fun e w' => e = .returned (.agg (acell .K)) ∧ Keeps (fun _ => False) w w' := by
  go_enter Tryz.func53, Tryz.ntmps53
  go_wp2_with (first
    | (refine wpList_alloc_a rfl rfl ?_)
    | (refine wpList_buildTo rfl 74 _ rfl _ rfl (acell .K) (by kernel_rfl) ?_)
    | (refine wpList_store_row rfl 74 _ _ rfl _ (acell .K) rfl rfl 74 azero (heap_last w _) size74 rfl (acell_one _) ?_; rw [World.setRow_alloc_new]))
  exact bodyPost_ret (results_cell_row rfl _ _ w.heap.size 74 (acell .K) (0, 0) _ rfl (heap_last w _) Tryz.underlying74 rfl size74) rfl ⟨rfl, (Keeps.refl _ w).alloc _⟩
set_option maxHeartbeats 1000000 in
theorem argL_any (w : World) : Calls Tryz.prog 54 #[] w fun e w' => e = .returned (.agg (acell .L)) ∧ Keeps (fun _ => False) w w' := by
  go_enter Tryz.func54, Tryz.ntmps54
  go_wp2_with (first
    | (refine wpList_alloc_a rfl rfl ?_)
    | (refine wpList_buildTo rfl 74 _ rfl _ rfl (acell .L) (by kernel_rfl) ?_)
    | (refine wpList_store_row rfl 74 _ _ rfl _ (acell .L) rfl rfl 74 azero (heap_last w _) size74 rfl (acell_one _) ?_; rw [World.setRow_alloc_new]))
  exact bodyPost_ret (results_cell_row rfl _ _ w.heap.size 74 (acell .L) (0, 0) _ rfl (heap_last w _) Tryz.underlying74 rfl size74) rfl ⟨rfl, (Keeps.refl _ w).alloc _⟩
end Go.Proofs.YtdlhdompemkjfaaGreatDoor

namespace Go.Proofs.YtdlhdompemkjfaaGreatDoor
open Go.RowKit Go.Maps
set_option maxRecDepth 100000

/-- A kind: its number, its word, what stands behind it. -/
structure Kd where
  num : Int
  word : ByteArray
  args : List Ar
def kds : List Kd := [
  ⟨1, ⟨#[109, 107, 102, 115]⟩, [.N, .M, .K]⟩,
  ⟨2, ⟨#[109, 111, 117, 110, 116]⟩, [.N, .L]⟩,
  ⟨3, ⟨#[117, 110, 109, 111, 117, 110, 116]⟩, []⟩,
  ⟨4, ⟨#[99, 114, 101, 97, 116, 101]⟩, [.A]⟩,
  ⟨5, ⟨#[109, 107, 100, 105, 114]⟩, [.A]⟩,
  ⟨6, ⟨#[117, 110, 108, 105, 110, 107]⟩, [.A]⟩,
  ⟨7, ⟨#[114, 109, 100, 105, 114]⟩, [.A]⟩,
  ⟨8, ⟨#[114, 101, 110, 97, 109, 101]⟩, [.A, .B]⟩,
  ⟨9, ⟨#[108, 105, 110, 107]⟩, [.A, .B]⟩,
  ⟨10, ⟨#[114, 101, 97, 100]⟩, [.A, .N, .M]⟩,
  ⟨11, ⟨#[119, 114, 105, 116, 101]⟩, [.A, .N, .B]⟩,
  ⟨12, ⟨#[116, 114, 117, 110, 99, 97, 116, 101]⟩, [.A, .N]⟩,
  ⟨13, ⟨#[115, 116, 97, 116]⟩, [.A]⟩,
  ⟨14, ⟨#[108, 105, 115, 116]⟩, [.A]⟩,
  ⟨15, ⟨#[119, 97, 108, 107]⟩, []⟩,
  ⟨16, ⟨#[105, 110, 102, 111]⟩, []⟩,
  ⟨17, ⟨#[97, 114, 109]⟩, [.N]⟩,
  ⟨18, ⟨#[99, 114, 97, 115, 104]⟩, [.L]⟩,
  ⟨19, ⟨#[112, 111, 107, 101]⟩, [.N, .M]⟩,
  ⟨20, ⟨#[115, 116, 97, 116, 101]⟩, []⟩,
  ⟨21, ⟨#[115, 99, 97, 110]⟩, [.N, .L]⟩]
def acells (l : List Ar) : List Value := l.flatMap fun a => (acell a).toList
/-- A list of arguments in memory. -/
def ArgsAt (W : World) (v : Value) (l : List Ar) : Prop := Row W v l.length (acells l)
theorem ArgsAt.keep {A B : World} {v : Value} {l : List Ar} (h : ArgsAt A v l) (k : Keeps (fun _ => False) A B) : ArgsAt B v l := Row.keep h k
theorem ArgsAt.nil (W : World) : ArgsAt W (.slice none 0 0) [] := ⟨none, 0, rfl, Nat.le_refl _, fun h => absurd h (by decide)⟩

theorem Keeps.setRow {X : Nat → Prop} {a b : World} (h : Keeps X a b) (g : Nat) (cs : Array Value) (hg : a.heap.size ≤ g ∨ X g) : Keeps X a (b.setRow g cs) :=
  ⟨h.os, h.tape, h.output, by simp [h.size], fun k hk hx => by
    rw [setRow_other _ _ _ _ (by rintro rfl; rcases hg with hg | hg; omega; exact hx hg)]; exact h.block k hk hx⟩
theorem wpList_store_a {ops : Array Oper} {rest : List Oper} {o : Oper} {a : Act} {W : World} {Q : Exit → Act → World → Prop} (hgd : o.guard = none) (x y : Operand) (ho : o.op = .store 74 x y)
    (g : Nat) (b : Ar) (hx : a.eval x = .pointer (some ⟨g, 0, none⟩)) (hy : a.eval y = .agg (acell b)) (hg : W.heap[g]? = some (.cells azero 74 (0, 0)))
    (h : ∀ W' : World, W'.heap[g]? = some (.cells (acell b) 74 (0, 0)) → Keeps (fun k => k = g) W W' → wpList Tryz.prog ops Q rest (a.put o.dst undef) W') : wpList Tryz.prog ops Q (o :: rest) a W := by
  refine wpList_store_row hgd 74 x y ho g (acell b) hx hy 74 azero hg size74 rfl (acell_one b) ?_
  refine h _ ?_ ?_
  · exact setRow_heap _ _ _ _ _ _ hg
  · exact Keeps.setRow (Keeps.refl _ W) g _ (Or.inr rfl)
theorem wpList_args {ops : Array Oper} {rest : List Oper} {o : Oper} {a : Act} {W : World} {Q : Exit → Act → World → Prop} (hgd : o.guard = none) (n : Nat) (parts : Array (Nat × Operand)) (ho : o.op = .buildSlice 61 n parts)
    (l : List Ar) (hn : n = l.length) (hp : 0 < l.length) (hl : l.length ≤ 3) (hf : ∀ ie z, Tryz.prog.info? 74 = some ie → ie.zero = some z → Instr.fill (fun i => some (i * ie.size, ie.size)) ((Array.range (n * ie.size)).map (z.cells[· % z.cells.size]!)) (parts.map fun (i, x) => (i, a.eval x)).toList = some (acells l).toArray)
    (h : ∀ (g : Nat) (W' : World), ArgsAt W' (.slice (some ⟨g, 0, none⟩) n n) l → Keeps (fun _ => False) W W' → wpList Tryz.prog ops Q rest (a.put o.dst (.slice (some ⟨g, 0, none⟩) n n)) W') : wpList Tryz.prog ops Q (o :: rest) a W := by
  obtain ⟨i0, hi, hz0, hz1, hz2⟩ := info_parts info74
  refine wpList_buildSlice hgd 61 74 n parts ho (acells l).toArray i0 (.agg azero) Tryz.underlying61 hi hz0 (by rw [hz1]; omega) (by rw [hz1]; omega) (hf i0 _ hi hz0) ?_
  refine h _ _ ?_ ((Keeps.refl _ W).alloc _)
  refine ⟨_, _, by rw [hn], by omega, fun _ => ⟨_, _, rfl, by rw [World.size_alloc]; omega, fun j u hj => ?_⟩⟩
  have h2 := heap_last W (.cells (acells l).toArray 74)
  simp only [World.cell?, h2, Nat.zero_add, List.getElem?_toArray]
  exact hj
end Go.Proofs.YtdlhdompemkjfaaGreatDoor
