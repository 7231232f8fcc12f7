import Derived.Test.YtdlhdompemkjfaaGreatDoorK26
import Derived.Shelf.Strings.OnBuilder
import Derived.Shelf.Strings.Trim
import Derived.Shelf.Strconv.Itoa3
import Derived.Shelf.Strconv.Itoa4
import Derived.Shelf.Strconv.ParseIntPublic10
import Derived.Shelf.Strings.SplitShaped
import Derived.Shelf.Slices.Equal
import Derived.Shelf.Slices.Empties2
import Derived.Test.YtdlhdompemkjfaaGreatDoorProg
import Derived.Test.YtdlhdompemkjfaaGreatDoorK21
import Derived.Lib.SplitLaws
namespace Go.Proofs.YtdlhdompemkjfaaGreatDoor
open Go.RowKit Go.Maps
set_option maxRecDepth 100000

/-! A step whose line isn't too long, as the statements cut it. -/
theorem Row.take {W : World} {p : Option Addr} {n c : Nat} {l : List Int} (h : Row W (.slice p n c) l.length (ints l)) (m : Nat) (hm : m ≤ l.length) : Row W (.slice p m c) (l.take m).length (ints (l.take m)) := by
  obtain ⟨p', c', e, hc, hcell⟩ := h
  injection e with e1 e2 e3
  subst e1
  subst e3
  have hlen : (l.take m).length = m := by rw [List.length_take]; omega
  refine ⟨p, c, by rw [hlen], by omega, fun h0 => ?_⟩
  obtain ⟨b, o, rfl, hb, hq⟩ := hcell (by omega)
  refine ⟨b, o, rfl, hb, fun j u hj => hq j u ?_⟩
  rw [ints, List.map_take] at hj
  rw [List.getElem?_take] at hj
  split at hj
  · exact hj
  · cases hj
theorem cut_end {w w0 w1 : World} {cs ds : Array Value} {v v1 : Value} {l : List Int} {n : Nat} {xs : List Value} (hk : Keeps (fun _ => False) w w1) (hz : w1.heap[w.heap.size + 1]? = some (.cells szero 24 (0, 0))) (hr : Row w1 v l.length (ints l)) (ho : w1.ownsRow w0.heap.size 3 1 v1 n xs) (hv : v.ownBlock = v1.ownBlock) :
    Row ((w1.alloc (.cells cs 24)).setRow (w.heap.size + 1) ds) v l.length (ints l) ∧ Keeps (fun _ => False) w ((w1.alloc (.cells cs 24)).setRow (w.heap.size + 1) ds) := by
  have k1 := (Keeps.refl (fun _ => False) w1).alloc (.cells cs 24)
  have k2 : Keeps (fun k => k = w.heap.size + 1) (w1.alloc (.cells cs 24)) ((w1.alloc (.cells cs 24)).setRow (w.heap.size + 1) ds) := (Keeps.refl _ _).setRow _ _ (Or.inr rfl)
  refine ⟨(hr.keep k1).keepX k2 (fun g hg => ?_), (hk.trans k1).setRow _ _ (Or.inl (by omega))⟩
  rw [hv] at hg
  exact row_ne hz ho g hg
theorem ctB_yes {x : ByteArray} (h : 2000 < x.size) : ctB x = x.extract 0 2000 := if_pos h
theorem ctB_no {x : ByteArray} (h : ¬ 2000 < x.size) : ctB x = x := if_neg h

set_option maxHeartbeats 8000000 in
theorem cut_any (w : World) (t : St) (v : Value) (hr : Row w v t.l.length (ints t.l)) (hk0 : -9223372036854775808 ≤ t.kind ∧ t.kind ≤ 9223372036854775807) (hl : t.l.length ≤ 17592186044416) :
    Calls Tryz.prog 14 #[.agg (scell t v)] w fun e w' => ∃ v', e = .returned (.agg (scell (cutF t) v')) ∧ Hid (Row w' v' (cutF t).l.length (ints (cutF t).l) ∧ Keeps (fun _ => False) w w') := by
  obtain ⟨p, c, rfl, _, _⟩ := id hr
  have HK0 := Hid.mk' (((Keeps.refl (fun _ => False) w).alloc (.cells (scell t (.slice p t.l.length c)) 24)).alloc (.cells szero 24))
  have HZ0 : Hid (((w.alloc (.cells (scell t (.slice p t.l.length c)) 24)).alloc (.cells szero 24)).heap[w.heap.size + 1]? = some (.cells szero 24 (0, 0))) := by
    have := heap_last (w.alloc (.cells (scell t (.slice p t.l.length c)) 24)) (.cells szero 24)
    rw [World.size_alloc] at this
    exact this
  have hsh := shaped_any _ t _ (hr.keep HK0.out) hk0 hl
  have HC : Hid (cutF t = ctS (shF t)) := rfl
  generalize cutF t = ct at *
  generalize shF t = sh at *
  clear hr hl hk0
  unfold scell at HK0 HZ0 hsh
  unfold szero at HK0 HZ0 hsh
  unfold scell
  obtain ⟨L, hL⟩ : ∃ L, (sh.l.take 500).length = L := ⟨_, rfl⟩
  have HL := Hid.mk' hL
  clear hL
  go_enter Tryz.func14, Tryz.ntmps14
  have S0 := Hid.mk' True.intro
  go_upto_if 9 with (first
    | (clear S0; go_at_call 27; refine hsh.mono ?_; clear hsh; rintro e w1 ⟨v1, rfl, h1⟩; obtain ⟨ra, rc, hv1, hcap, _⟩ := id (Row.of_own h1.out.1); subst hv1; have HW1 := Hid.mk' h1.out; clear h1; have hcap2 : (sh.l.length : Int) ≤ (rc : Int) := by omega
       have HZ1 := Hid.mk' (HW1.out.2.at HZ0.out id); have S1 := Hid.mk' True.intro)
    | (clear S1; refine wpList_alloc_st rfl rfl ?_; have S2 := Hid.mk' True.intro)
    | (clear S2; refine wpList_store_st rfl _ _ rfl sh ra sh.l.length rc (by rfl) (by rfl) ?_; unfold scell; have S3 := Hid.mk' True.intro))
  go_cut [9] from 9 to 13 (fun _ wx => wx = w1.alloc (.cells #[.int .i64 sh.kind, .string (ctB sh.a), .string sh.b, .int .i64 sh.n, .int .i64 sh.m, .int .i64 sh.k, .slice ra sh.l.length rc] 24))
  case first =>
    by_cases hA : 2000 < sh.a.size
    · have iA : (2000 : Int) < (sh.a.size : Int) := by omega
      go_wp2
      go_meet
      case rel => rw [ctB_yes hA]
    · have iA : ¬ (2000 : Int) < (sh.a.size : Int) := by omega
      go_wp2
      go_meet
      case rel => rw [ctB_no hA]
  case rest =>
    subst hcut
    go_upto_if 17 with (fail)
    go_cut [17] from 17 to 21 (fun _ wx => wx = w1.alloc (.cells #[.int .i64 sh.kind, .string (ctB sh.a), .string (ctB sh.b), .int .i64 sh.n, .int .i64 sh.m, .int .i64 sh.k, .slice ra sh.l.length rc] 24))
    case first =>
      by_cases hB : 2000 < sh.b.size
      · have iB : (2000 : Int) < (sh.b.size : Int) := by omega
        go_wp2
        go_meet
        case rel => rw [ctB_yes hB]
      · have iB : ¬ (2000 : Int) < (sh.b.size : Int) := by omega
        go_wp2
        go_meet
        case rel => rw [ctB_no hB]
    case rest =>
      subst hcut
      go_upto_if 25 with (fail)
      go_cut [25] from 25 to 29 (fun _ wx => wx = w1.alloc (.cells #[.int .i64 sh.kind, .string (ctB sh.a), .string (ctB sh.b), .int .i64 sh.n, .int .i64 sh.m, .int .i64 sh.k, .slice ra L rc] 24))
      case first =>
        by_cases hL : 500 < sh.l.length
        · have iL : (500 : Int) < (sh.l.length : Int) := by omega
          go_wp2
          go_meet
          case rel => rw [show L = 500 by rw [← HL.out, List.length_take]; omega]
        · have iL : ¬ (500 : Int) < (sh.l.length : Int) := by omega
          go_wp2
          go_meet
          case rel => rw [show L = sh.l.length by rw [← HL.out, List.length_take]; omega]
      case rest =>
        subst hcut
        go_wp2_with (first
          | (clear S3; refine wpList_store_row rfl 24 (.tmp 2) _ rfl (w.heap.size + 1) #[.int .i64 sh.kind, .string (ctB sh.a), .string (ctB sh.b), .int .i64 sh.n, .int .i64 sh.m, .int .i64 sh.k, .slice ra L rc] (by rfl) (by rfl) 24 szero (((Keeps.refl (fun _ => False) w1).alloc (.cells #[.int .i64 sh.kind, .string (ctB sh.a), .string (ctB sh.b), .int .i64 sh.n, .int .i64 sh.m, .int .i64 sh.k, .slice ra L rc] 24)).at HZ1.out id) size24 rfl (by simp [Value.oneCell']) ?_; have S4 := Hid.mk' True.intro))
        have HRW : Hid (Row w1 (.slice ra L rc) (sh.l.take 500).length (ints (sh.l.take 500))) := by
          show Row _ _ _ _
          have hlen : (sh.l.take 500).length ≤ sh.l.length := by rw [List.length_take]; omega
          have h := (Row.of_own HW1.out.1).take (sh.l.take 500).length hlen
          have e : sh.l.take (sh.l.take 500).length = sh.l.take 500 := by rw [List.length_take, List.take_eq_take_iff]; omega
          rw [e, HL.out] at h
          rw [HL.out]
          exact h
        have HCT : Hid (ct = ⟨sh.kind, ctB sh.a, ctB sh.b, sh.n, sh.m, sh.k, sh.l.take 500⟩) := HC.out
        exact bodyPost_ret (results_cell_row rfl _ _ (w.heap.size + 1) 24 #[.int .i64 sh.kind, .string (ctB sh.a), .string (ctB sh.b), .int .i64 sh.n, .int .i64 sh.m, .int .i64 sh.k, .slice ra L rc] (0, 0) _ rfl (setRow_heap _ _ _ _ _ _ (((Keeps.refl (fun _ => False) w1).alloc (.cells #[.int .i64 sh.kind, .string (ctB sh.a), .string (ctB sh.b), .int .i64 sh.n, .int .i64 sh.m, .int .i64 sh.k, .slice ra L rc] 24)).at HZ1.out id)) Tryz.underlying24 rfl size24) rfl ⟨.slice ra L rc, by rw [HCT.out], cut_end (HK0.out.trans HW1.out.2) HZ1.out (by rw [HCT.out]; exact HRW.out) HW1.out.1 (by cases ra <;> rfl)⟩
end Go.Proofs.YtdlhdompemkjfaaGreatDoor

namespace Go.Proofs
open Go.Shelf
def Tryz.lays169_ren : Go.Shelf.Ren := ⟨fun | 169 => 26 | n => n, fun | 70 => 47 | 9 => 9 | 0 => 0 | 72 => 49 | 37 => 40 | 127 => 88 | 3 => 3 | 5 => 5 | n => n, fun | n => n⟩
theorem Tryz.lays169 : Go.Proofs.Lays.n169 Tryz.prog Tryz.lays169_ren := {
  mixed := by kernel_rfl
  f169 := Tryz.func26.trans (congrArg some (by kernel_rfl))
  t0 := Tryz.underlying0
  a0 := Tryz.isAgg0
  z0 := Tryz.sizeOf0
  v0 := Tryz.zeroValue0
  t3 := Tryz.underlying3
  a3 := Tryz.isAgg3
  z3 := Tryz.sizeOf3
  v3 := Tryz.zeroValue3
  t9 := Tryz.underlying9
  a9 := Tryz.isAgg9
  z9 := Tryz.sizeOf9
  v9 := Tryz.zeroValue9
  t37 := Tryz.underlying40
  a37 := Tryz.isAgg40
  z37 := Tryz.sizeOf40
  v37 := Tryz.zeroValue40
  t70 := Tryz.underlying47
  a70 := Tryz.isAgg47
  z70 := Tryz.sizeOf47
  v70 := Tryz.zeroValue47
  t72 := Tryz.underlying49
  a72 := Tryz.isAgg49
  z72 := Tryz.sizeOf49
  v72 := Tryz.zeroValue49
  t127 := Tryz.underlying88
  a127 := Tryz.isAgg88
  z127 := Tryz.sizeOf88
  v127 := Tryz.zeroValue88 }
theorem Tryz.Builder_Extra_169 : Builder.Extra Tryz.prog Tryz.lays169_ren := {
  sizeBuilder := by kernel_rfl
  liesBuilder := by kernel_rfl
  t5 := Tryz.underlying5
  a5 := Tryz.isAgg5
  z5 := Tryz.sizeOf5
  v5 := Tryz.zeroValue5
  infoByte := by kernel_rfl
  cellsByte := by kernel_rfl
  sizeByte := by kernel_rfl
  neB5 := by decide }
open Go.RowKit in
/-- (*strings.Builder).String: "String returns the accumulated string.": WHATEVER THE BUILDER HOLDS. (LAID: no walk: one application.) -/
theorem Tryz.Builder_String_any (B b : Nat) (l : List UInt8) (w : World) (h : Lib.IsBuilder 49 5 B b (Lib.byteCells l) w) (hBw : B ≤ w.heap.size) :
    Calls Tryz.prog 26 #[.pointer (some ⟨b, 0, none⟩)] w fun e w' => e = .returned (.string ⟨l.toArray⟩) ∧ Below B w w' := Any.Builder_String_any Tryz.lays169 Tryz.Builder_Extra_169 B b l w h hBw
end Go.Proofs

namespace Go.Proofs.YtdlhdompemkjfaaGreatDoor
open Go.RowKit Go.Maps
set_option maxRecDepth 100000

/-! A text's lines, by themselves. -/
def spl : Bs → List Bs
  | [] => [[]]
  | b :: r => if b = 10 then [] :: spl r else match spl r with
    | [] => [[b]]
    | l :: ls => (b :: l) :: ls
theorem spl_ne (s : Bs) : spl s ≠ [] := by
  cases s with
  | nil => simp [spl]
  | cons b r =>
    unfold spl
    split
    · simp
    · split <;> simp
theorem spl_none : ∀ s : Bs, (10 : UInt8) ∉ s → spl s = [s]
  | [], _ => rfl
  | b :: r, h => by
    have hb : ¬ b = 10 := fun e => h (by simp [e])
    rw [spl, if_neg hb, spl_none r (fun e => h (List.mem_cons_of_mem _ e))]
theorem spl_hit (r : Bs) : ∀ p : Bs, (10 : UInt8) ∉ p → spl (p ++ 10 :: r) = p :: spl r
  | [], _ => by show spl (10 :: r) = _; rw [spl, if_pos rfl]
  | b :: p, h => by
    have hb : ¬ b = 10 := fun e => h (by simp [e])
    show spl (b :: (p ++ 10 :: r)) = _
    rw [spl, if_neg hb, spl_hit r p (fun e => h (List.mem_cons_of_mem _ e))]
theorem ix_none : ∀ s : Bs, (10 : UInt8) ∉ s → Lib.index s [10] = -1
  | [], _ => rfl
  | b :: r, h => by
    have hb : ¬ b = 10 := fun e => h (by simp [e])
    have ih := ix_none r (fun e => h (List.mem_cons_of_mem _ e))
    have hp : ([10] : Bs).isPrefixOf (b :: r) = false := by
      have : ((10 : UInt8) == b) = false := beq_eq_false_iff_ne.2 (fun e => hb e.symm)
      show ((10 : UInt8) == b && _) = false
      rw [this]; rfl
    rw [Lib.index, hp, ih]
    rfl
theorem ix_hit (r : Bs) : ∀ p : Bs, (10 : UInt8) ∉ p → Lib.index (p ++ 10 :: r) [10] = (p.length : Int)
  | [], _ => by
    show Lib.index (10 :: r) [10] = 0
    rw [Lib.index, if_pos (by simp)]
  | b :: p, h => by
    have hb : ¬ b = 10 := fun e => h (by simp [e])
    have ih := ix_hit r p (fun e => h (List.mem_cons_of_mem _ e))
    have hp : ([10] : Bs).isPrefixOf (b :: (p ++ 10 :: r)) = false := by
      have : ((10 : UInt8) == b) = false := beq_eq_false_iff_ne.2 (fun e => hb e.symm)
      show ((10 : UInt8) == b && _) = false
      rw [this]; rfl
    show Lib.index (b :: (p ++ 10 :: r)) [10] = _
    rw [Lib.index, hp, ih, if_neg (by decide), if_neg (by simp)]
    simp
theorem splitK_spl : ∀ (k : Nat) (s : Bs), s.count 10 ≤ k → Lib.splitK [10] 0 k s = spl s
  | 0, s, h => by
    rw [spl_none s (fun hm => by have := List.count_pos_iff.2 hm; omega)]
    rfl
  | k + 1, s, h => by
    by_cases hm : (10 : UInt8) ∈ s
    · obtain ⟨p, r, rfl, hp⟩ := List.eq_append_cons_of_mem hm
      have hc : r.count 10 ≤ k := by
        rw [List.count_append, List.count_cons_self] at h
        omega
      rw [spl_hit r p hp, Lib.splitK, ix_hit r p hp, if_neg (by simp)]
      have e1 : ((p.length : Int)).toNat = p.length := by omega
      rw [e1, Nat.add_zero, List.take_left, show p.length + ([10] : Bs).length = p.length + 1 from rfl, ← List.drop_drop, List.drop_left]
      show p :: Lib.splitK [10] 0 k r = _
      rw [splitK_spl k r hc]
    · rw [spl_none s hm, Lib.splitK, ix_none s hm]
      rfl
/-- strings.Split at line feeds. -/
theorem split_spl (s : ByteArray) : Lib.splitB ⟨#[10]⟩ 0 (Lib.countB s ⟨#[10]⟩) s = (spl s.data.toList).map mkB := by
  have h := Lib.splitB_data ⟨#[10]⟩ 0 (Lib.countB s ⟨#[10]⟩) s
  have hc : s.data.toList.count 10 ≤ Lib.countB s ⟨#[10]⟩ := by
    have : Lib.countB s ⟨#[10]⟩ = s.data.toList.count 10 := Lib.count_one 10 s.data.toList
    omega
  rw [show (⟨#[10]⟩ : ByteArray).data.toList = [10] from rfl, splitK_spl _ _ hc] at h
  rw [← h, List.map_map]
  have : (mkB ∘ fun x : ByteArray => x.data.toList) = id := by funext x; exact mkB_data x
  rw [this, List.map_id]
theorem split_len (s : ByteArray) : Lib.countB s ⟨#[10]⟩ + 1 = (spl s.data.toList).length := by
  have hc : Lib.countB s ⟨#[10]⟩ = s.data.toList.count 10 := Lib.count_one 10 s.data.toList
  rw [hc]
  generalize s.data.toList = x
  induction x with
  | nil => rfl
  | cons b r ih =>
    rw [spl]
    by_cases hb : b = 10
    · subst hb
      rw [if_pos rfl, List.count_cons_self, List.length_cons, ← ih]
    · rw [if_neg hb, List.count_cons_of_ne (fun e => hb e), ih]
      cases hs : spl r with
      | nil => exact absurd hs (spl_ne r)
      | cons l ls => rfl
/-- Whether a line is passed over. -/
def psd (l : Bs) : Bool := match l.dropWhile (· == 32) with
  | [] => true
  | b :: _ => b == 35
/-- The lines that are steps. -/
def prs (x : Bs) : List Bs := (spl x).filter fun l => !psd l
theorem spl_le : ∀ x : Bs, ∀ l ∈ spl x, l.length ≤ x.length
  | [], l, h => by
    rw [show l = [] by simpa [spl] using h]
    exact Nat.le_refl _
  | b :: r, l, h => by
    rw [spl] at h
    by_cases hb : b = 10
    · rw [if_pos hb] at h
      rcases List.mem_cons.1 h with rfl | h
      · exact Nat.zero_le _
      · have := spl_le r l h; rw [List.length_cons]; omega
    · rw [if_neg hb] at h
      cases hs : spl r with
      | nil => exact absurd hs (spl_ne r)
      | cons a ls =>
        rw [hs] at h
        simp only at h
        rcases List.mem_cons.1 h with rfl | h
        · have := spl_le r a (by rw [hs]; simp)
          rw [List.length_cons, List.length_cons]; omega
        · have := spl_le r l (by rw [hs]; exact List.mem_cons_of_mem _ h)
          rw [List.length_cons]; omega
theorem spl_count (x : Bs) : (spl x).length ≤ x.length + 1 := by
  induction x with
  | nil => exact Nat.le_refl _
  | cons b r ih =>
    rw [spl]
    by_cases hb : b = 10
    · rw [if_pos hb, List.length_cons, List.length_cons]; omega
    · rw [if_neg hb]
      cases hs : spl r with
      | nil => exact absurd hs (spl_ne r)
      | cons a ls =>
        rw [hs] at ih
        simp only [List.length_cons] at ih ⊢
        omega
end Go.Proofs.YtdlhdompemkjfaaGreatDoor
