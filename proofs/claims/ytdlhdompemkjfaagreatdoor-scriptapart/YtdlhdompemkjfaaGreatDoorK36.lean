import Derived.Test.YtdlhdompemkjfaaGreatDoorK35
import Derived.Test.YtdlhdompemkjfaaGreatDoorK34
namespace Go.Proofs.YtdlhdompemkjfaaGreatDoor
open Go.RowKit Go.Maps
set_option maxRecDepth 100000

/-! script.Parse. -/
theorem fillst (t : St) (v : Value) : Instr.fill (fun i => some (i * 7, 7)) ((Array.range (1 * 7)).map (szero[· % 7]!)) [(0, .agg (scell t v))] = some (scell t v) := by kernel_rfl
theorem wpList_step1 {ops : Array Oper} {rest : List Oper} {o : Oper} {a : Act} {W : World} {Q : Exit → Act → World → Prop} (hgd : o.guard = none) (x : Operand) (ho : o.op = .buildSlice 29 1 #[(0, x)])
    (t : St) (v : Value) (hx : a.eval x = .agg (scell t v)) (h : wpList Tryz.prog ops Q rest (a.put o.dst (.slice (some ⟨W.heap.size, 0, none⟩) 1 1)) (W.alloc (.cells (scell t v) 24))) : wpList Tryz.prog ops Q (o :: rest) a W := by
  obtain ⟨i0, hi, hz0, hz1, hz2⟩ := info_parts infoStep
  refine wpList_buildSlice hgd 29 24 1 _ ho (scell t v) i0 (.agg szero) Tryz.underlying29 hi hz0 (by rw [hz1]; decide) (by rw [hz1]; decide) ?_ h
  rw [hz1, show ((#[(0, x)] : Array (Nat × Operand)).map fun (i, x) => (i, a.eval x)).toList = [(0, a.eval x)] by simp, hx]
  exact fillst t v
theorem filt_yes {ls : List Bs} {k : Nat} {l : Bs} (h : ls[k]? = some l) (hp : psd l = true) : ((ls.take (k + 1)).filter fun l => !psd l) = (ls.take k).filter fun l => !psd l := by
  rw [List.take_add_one, h, Option.toList_some, List.filter_append]
  simp [hp]
theorem filt_no {ls : List Bs} {k : Nat} {l : Bs} (h : ls[k]? = some l) (hp : psd l = false) : ((ls.take (k + 1)).filter fun l => !psd l) = ((ls.take k).filter fun l => !psd l) ++ [l] := by
  rw [List.take_add_one, h, Option.toList_some, List.filter_append]
  simp [hp]
/-- What Parse holds amid its loop. -/
structure PP (w W : World) (vs ve : Value) (ps : List (St × Value)) (ls : List Bs) : Prop where
  s : PR w W vs ps
  e : ER w W ve (ls.map lnE)
  t : ps.map (·.1) = ls.map lnS
  k : Keeps (fun _ => False) w W
theorem PP.len {w W : World} {vs ve : Value} {ps : List (St × Value)} {ls : List Bs} (h : PP w W vs ve ps ls) : ps.length = ls.length := by
  have := congrArg List.length h.t
  simpa using this
theorem PR.base {w w1 W : World} {v : Value} {l : List (St × Value)} (h : PR w1 W v l) (k : Keeps (fun _ => False) w w1) : PR w W v l := ⟨own_base h.row k.size, fun p hp => own_base (h.ins p hp) k.size, h.shp, h.apart⟩
theorem PP.base {w w1 W : World} {vs ve : Value} {ps : List (St × Value)} {ls : List Bs} (h : PP w1 W vs ve ps ls) (k : Keeps (fun _ => False) w w1) : PP w W vs ve ps ls := ⟨h.s.base k, own_base h.e k.size, h.t, k.trans h.k⟩
theorem PP.shape {w W : World} {vs ve : Value} {ps : List (St × Value)} {ls : List Bs} (h : PP w W vs ve ps ls) : (∃ a n c, vs = .slice a n c) ∧ ∃ a n c, ve = .slice a n c := by
  obtain ⟨a, c, e, _⟩ := Row.of_own h.s.row
  obtain ⟨a2, c2, e2, _⟩ := Row.of_own h.e
  exact ⟨⟨a, _, c, e⟩, ⟨a2, _, c2, e2⟩⟩

set_option maxHeartbeats 8000000 in
theorem parse_any (w : World) (hv : Vars w) (m : Int) (hm : w.cell? ⟨1, 0, none⟩ = some (.int .i64 m)) (s : ByteArray) (hs : s.size ≤ 1000000) :
    Calls Tryz.prog 15 #[.string s] w fun e w' => ∃ vs ve ps, e = .returned (.tuple #[vs, ve]) ∧ Hid (PP w w' vs ve ps (prs s.data.toList)) := by
  have hsp := Tryz.strings_Split s ⟨#[10]⟩ m w (by omega) hm (by decide)
  rw [split_spl, split_len] at hsp
  have HP : Hid (prs s.data.toList = (spl s.data.toList).filter fun l => !psd l) := rfl
  have HLE := Hid.mk' (spl_le s.data.toList)
  have HCN := Hid.mk' (spl_count s.data.toList)
  rw [← size_len] at HLE HCN
  generalize prs s.data.toList = PL at *
  generalize spl s.data.toList = LS at *
  have HN : Hid (LS.length ≤ 1000001) := by have h : LS.length ≤ s.size + 1 := HCN.out; show _ ≤ _; omega
  have HV := Hid.mk' hv
  have HCS : Hid (∀ (k : Nat) l, LS[k]? = some l → (((LS.map mkB).map Value.string).toArray)[k]? = some (.string (mkB l))) := by
    intro k l h; simp [h]
  generalize ((LS.map mkB).map Value.string).toArray = CS at *
  have HW0 := Hid.mk' ((Keeps.refl (fun _ => False) w).alloc (.cells CS 9))
  have HB0 := Hid.mk' (heap_last w (.cells CS 9))
  have HPP : Hid (PP (w.alloc (.cells CS 9)) (w.alloc (.cells CS 9)) (.slice none 0 0) (.slice none 0 0) [] ((LS.take 0).filter fun l => !psd l)) := ⟨PR.nil _ _, World.ownsRow_nil _ _ _ _, rfl, Keeps.refl _ _⟩
  clear hv hm
  go_enter Tryz.func15, Tryz.ntmps15
  go_wp2_with (first | (go_at_call 28; refine hsp.mono ?_; clear hsp; rintro e w1 ⟨rfl, rfl⟩))
  go_loopw [4, 5, 13] (fun vs ve i wr => ∃ k : Nat, k ≤ LS.length ∧ i = .int .i64 k ∧ ∃ ps, Hid (PP (w.alloc (.cells CS 9)) wr vs ve ps ((LS.take k).filter fun l => !psd l))) (fun _ _ i _ => LS.length - (intOf i).toNat)
  case atStart => exact ⟨0, Nat.zero_le _, rfl, [], HPP.out⟩
  case round =>
    obtain ⟨k, hk, rfl, ps, HI⟩ := hrel
    have hn1 : LS.length ≤ 1000001 := HN.out
    clear HPP
    by_cases h1 : k < LS.length
    · have h1' : (k : Int) < (LS.length : Int) := by omega
      obtain ⟨l, hl⟩ : ∃ l, LS[k]? = some l := ⟨LS[k], by simp [h1]⟩
      have hblk := HI.out.k.at HB0.out id
      have hld : wr.cell? ⟨w.heap.size, k, none⟩ = some (.string (mkB l)) := by
        simp only [World.cell?, hblk]
        exact HCS.out k l hl
      have HLL : Hid (l.length ≤ s.size) := HLE.out l (List.mem_of_getElem? hl)
      have hpo := passedOver_any wr (mkB l)
      rw [data_mkB] at hpo
      have HNN : Hid (ps.length ≤ 1000001) := by
        have e := HI.out.len
        have h2 : ((LS.take k).filter fun l => !psd l).length ≤ LS.length := Nat.le_trans (List.length_filter_le _ _) (by rw [List.length_take]; omega)
        have h3 : LS.length ≤ 1000001 := HN.out
        show _ ≤ _
        omega
      cases hp : psd l with
      | true =>
        have HF := Hid.mk' (filt_yes hl hp)
        rw [hp] at hpo
        clear hl
        go_wp2_with (first | (go_at_call 29; refine hpo.mono ?_; clear hpo; rintro e w2 ⟨rfl, rfl⟩))
        go_roundw
        case rel => exact ⟨k + 1, by omega, by go_num, ps, by rw [HF.out]; exact HI.out⟩
        case measure => simp [intOf]; omega
      | false =>
        have HF := Hid.mk' (filt_no hl hp)
        rw [hp] at hpo
        have hln := line_any wr (HV.out.keep (HW0.out.trans HI.out.k)) (mkB l)
        rw [data_mkB] at hln
        obtain ⟨⟨sa, sn, sc, hvs⟩, ea, en, ec, hve⟩ := HI.out.shape
        subst hvs
        subst hve
        clear hl
        have HIK := Hid.mk' HI.out.k
        have S0 := Hid.mk' True.intro
        go_wp2_with (first
          | (clear S0; go_at_call 29; refine hpo.mono ?_; clear hpo; rintro e w2 ⟨rfl, rfl⟩; have S1 := Hid.mk' True.intro)
          | (clear S1; go_at_call 16; refine hln.mono ?_; clear hln; rintro e w3 ⟨v3, rfl, h3⟩; obtain ⟨p3, c3, hv3, _, _⟩ := id (Row.of_own h3.out.1); subst hv3; have H3 := Hid.mk' h3.out; clear h3; have HK3 := Hid.mk' (H3.out.2.trans ((Keeps.refl (fun _ => False) w3).alloc (.cells (scell (lnS l) (.slice p3 (lnS l).l.length c3)) 24))); have HB3 := Hid.mk' (heap_last w3 (.cells (scell (lnS l) (.slice p3 (lnS l).l.length c3)) 24)); have S2 := Hid.mk' True.intro)
          | (clear S2; refine wpList_alloc_st rfl rfl ?_; have S3 := Hid.mk' True.intro)
          | (clear S3; refine wpList_store_st rfl _ _ rfl (lnS l) p3 (lnS l).l.length c3 (by rfl) (by rfl) ?_; have S4 := Hid.mk' True.intro)
          | (clear S4; refine wpList_load_row rfl 24 (.tmp 8) rfl w3.heap.size (by rfl) 24 (scell (lnS l) (.slice p3 (lnS l).l.length c3)) (0, 0) _ HB3.out Tryz.underlying24 rfl size24 ?_; have S5 := Hid.mk' True.intro)
          | (clear S5; refine wpList_step1 rfl _ rfl (lnS l) (.slice p3 (lnS l).l.length c3) (by rfl) ?_; have S6 := Hid.mk' True.intro)
          | (clear S6; at_builtin; go_must (refine wpList_appS rfl _ _ rfl (w.alloc (.cells CS 9)) _ _ ps (by rfl) (HI.out.s.keep HK3.out) (HIK.out.trans HK3.out) (lnS l) p3 (lnS l).l.length c3 (own_base (own_grow H3.out.1 ((Keeps.refl _ _).alloc _)) HIK.out.size) (fun p hp g hg hg2 => by have a := ((HI.out.s.ins p hp).lt g hg).2; have b := (H3.out.1.lt g hg2).1; omega) (by rfl) (by have h : ps.length ≤ 1000001 := HNN.out; omega) ?_)
             intro v4 W4 hP hE hK hS
             obtain ⟨ra, rc, hv4, _⟩ := Row.of_own hP.row
             subst hv4
             have HP4 := Hid.mk' hP
             have HE4 := Hid.mk' (hE _ _ _ (own_grow HI.out.e HK3.out))
             have HK4 := Hid.mk' hK
             have HS4 := Hid.mk' hS
             clear hP hE hK hS
             have S7 := Hid.mk' True.intro)
          | (clear S7; at_builtin; go_must (refine wpList_appE rfl _ _ rfl (w.alloc (.cells CS 9)) W4 _ _ (by rfl) HE4.out HK4.out (lnE l) (by rfl) (by have h : ps.length ≤ 1000001 := HNN.out; have e := HI.out.len; rw [List.length_map]; omega) _ _ HP4.out ?_)
             intro v5 W5 hE hP hK
             obtain ⟨rb, rd, hv5, _⟩ := Row.of_own hE
             subst hv5
             have H5 := Hid.mk' (And.intro hE (And.intro hP hK))
             clear hE hP hK
             have S8 := Hid.mk' True.intro))
        go_roundw
        case rel =>
          refine ⟨k + 1, by omega, by go_num, ps ++ [(lnS l, .slice p3 (lnS l).l.length c3)], ?_⟩
          rw [HF.out]
          have h5 := H5.out
          rw [← List.map_singleton (f := lnE), ← List.map_append] at h5
          refine ⟨?_, ?_, ?_, h5.2.2⟩
          · have := h5.2.1; rw [List.length_append, List.length_singleton] at this; exact this
          · have := h5.1; rw [List.length_map, List.length_append, List.length_singleton] at this; exact this
          · rw [List.map_append, List.map_append, HI.out.t]; rfl
        case measure => simp [intOf]; omega
    · have h1' : ¬ (k : Int) < (LS.length : Int) := by omega
      have HE : Hid ((LS.take k).filter (fun l => !psd l) = PL) := by show _ = _; rw [HP.out, List.take_of_length_le (by omega)]
      go_wp2
      try rw [Exit.noGoto_ret]
      refine bodyPost_ret (v := .tuple #[u4, u5]) (by simp [results, Tryz.results15, go_sem]) rfl ?_
      have hfin := HI.out
      rw [HE.out] at hfin
      exact ⟨_, _, rfl, ps, hfin.base HW0.out⟩
end Go.Proofs.YtdlhdompemkjfaaGreatDoor

namespace Go.Proofs.YtdlhdompemkjfaaGreatDoor
open Go.RowKit Go.Maps
set_option maxRecDepth 100000

/-! strings.Builder. -/
theorem sizeBuilder : (Tryz.prog.info? 49).map (·.size) = some 2 := by kernel_rfl
theorem liesBuilder : liesAt Tryz.prog Tryz.prog.depth 49 (2 / Tryz.prog.cellsOf 49) 0 49 1 = true := by kernel_rfl

/-- A builder in block b, its bytes l; the blocks from B on are its own. -/
def BuAt (B b : Nat) (l : Bs) (w : World) : Prop := Lib.IsBuilder 49 5 B b (Lib.byteCells l) w

set_option maxHeartbeats 1000000 in
set_option maxRecDepth 100000 in
theorem check_any (B b : Nat) (bs : List Value) (w : World) (h : Lib.IsBuilder 49 5 B b bs w) :
    Calls Tryz.prog 43 #[.pointer (some ⟨b, 0, none⟩)] w fun e w' => e = .returned (.tuple #[]) ∧ Lib.BuilderAt 49 5 B b (.pointer (some ⟨b, 0, none⟩)) bs w' ∧ Below B w w' := by
  obtain ⟨j, hj, hjs⟩ := Option.map_eq_some_iff.1 sizeBuilder
  rcases h with h | h
  · have c0 := h.cell0
    have hsh := h.shape
    have hfz := h.frozen0
    have HB := Hid.mk' h
    clear h
    go_enter Tryz.func43, Tryz.ntmps43
    go_wp2
    rw [Lib.run_to_unsafe w ⟨b, 0, none⟩ Tryz.underlying47 Tryz.underlying104 hj (by rw [hjs]; decide) hsh (Nat.zero_lt_succ 1)]
    simp only [Result.andThen]
    rw [Oper.upon_value]
    go_wp2
    rw [run_callFunc_extern Tryz.func58 (by kernel_rfl) (by kernel_rfl) (by kernel_rfl) (e := Extern.AbiNoEscape.same) (by kernel_rfl), Lib.run_noEscape]
    simp only [Result.andThen]
    rw [Oper.upon_value]
    go_wp2
    rw [Lib.run_from_unsafe w ⟨b, 0, none⟩ Tryz.underlying104 Tryz.underlying47 hj hsh liesBuilder]
    simp only [Result.andThen]
    rw [Oper.upon_value]
    go_wp2
    go_end0
    exact ⟨rfl, HB.out.used _, (Below.refl B w).setCell (p := ⟨b, 0, none⟩) HB.out.1 _⟩
  · have c0 := h.cell0
    have HB := Hid.mk' h
    clear h
    go_enter Tryz.func43, Tryz.ntmps43
    go_wp2
    rw [Lib.run_neq_ptr_same w _ Tryz.underlying47 hj]
    go_wp2
    go_end0
    exact ⟨rfl, HB.out, Below.refl B _⟩

set_option maxHeartbeats 2000000 in
set_option maxRecDepth 100000 in
theorem writeString (B b : Nat) (l : Bs) (s : ByteArray) (w : World) (h : BuAt B b l w) (hlen : l.length ≤ 1000000000000) (hs : s.size ≤ 1000000000000) (hBw : B ≤ w.heap.size) :
    Calls Tryz.prog 25 #[.pointer (some ⟨b, 0, none⟩), .string s] w fun e w' => e = .returned (.tuple #[.int .i64 s.size, .nilIface]) ∧ Hid (BuAt B b (l ++ s.data.toList) w' ∧ Below B w w') := by
  obtain ⟨i0, hi, hz0, hz1, hz2⟩ := info_parts info5
  have hch := check_any B b _ w h
  have hcl : (Lib.byteCells l).length = l.length := Lib.byteCells_length l
  go_enter Tryz.func25, Tryz.ntmps25
  go_wp2_with (first | (go_at_call 43; refine hch.mono ?_))
  rintro e w1 ⟨rfl, ⟨hB, v, hbk, hown, hne⟩, hb1⟩
  have c0 : w1.cell? ⟨b, 0, none⟩ = some (.pointer (some ⟨b, 0, none⟩)) := by rw [Lib.cell_of_heap hbk]; rfl
  have c1 : w1.cell? ⟨b, 1, none⟩ = some v := by rw [Lib.cell_of_heap hbk]; rfl
  have hs1 := hb1.size
  go_wp2_with (first | (at_builtin; go_must (refine Lib.wpList_append_own_string _ rfl _ _ 40 9 rfl B 5 i0 Tryz.underlying40 Tryz.underlying9 hi hz0 hz1 hz2 _ _ _ rfl hown s rfl (by unfold maxLen; omega) (by omega) (by omega) ?_)))
  intro v' w2 hown' hgrow _
  have hlt : b < w1.heap.size := heap_lt hbk
  have hb2 : w2.heap[b]? = some (.cells #[.pointer (some ⟨b, 0, none⟩), v] 49 (0, 0)) := by
    rw [hgrow.block b hlt (fun e => hne e.symm)]
    exact hbk
  have d0 : w2.cell? ⟨b, 0, none⟩ = some (.pointer (some ⟨b, 0, none⟩)) := by rw [Lib.cell_of_heap hb2]; rfl
  have d1 : w2.cell? ⟨b, 1, none⟩ = some v := by rw [Lib.cell_of_heap hb2]; rfl
  have f1 : w2.frozen? ⟨b, 1, none⟩ = false := Lib.frozen_of_heap hb2 1
  obtain ⟨ao, n', cap, rfl⟩ : ∃ ao n' cap, v' = .slice ao n' cap := by
    rcases hown'.2 with ⟨hv, _⟩ | ⟨g, cap, cur, hv, _⟩
    · exact ⟨_, _, _, hv⟩
    · exact ⟨_, _, _, hv⟩
  go_wp2
  go_ret2
  refine ⟨rfl, Or.inr ?_, ?_⟩
  · have e : Lib.byteCells (l ++ s.data.toList) = Lib.byteCells l ++ Lib.strCells s := by simp [Lib.byteCells, Lib.strCells]
    rw [e]
    exact Lib.BuilderAt.put (T := 49) (e := 5) hB hb2 (bs' := Lib.byteCells l ++ Lib.strCells s) (by rw [List.length_append, Lib.strCells_length]; first | exact hown' | (rw [hcl]; exact hown')) (by decide)
  · exact (hb1.grown hgrow (by omega) (fun k hk => (hown.lt k hk).1)).setCell (p := ⟨b, 1, none⟩) hB _


theorem BuAt.keep {B b : Nat} {l : Bs} {V W : World} (h : BuAt B b l V) (k : Keeps (fun _ => False) V W) : BuAt B b l W := by
  rcases h with ⟨h1, v, h2, h3, h4⟩ | ⟨h1, v, h2, h3, h4⟩
  · exact Or.inl ⟨h1, v, k.at h2 id, own_grow h3 k, h4⟩
  · exact Or.inr ⟨h1, v, k.at h2 id, own_grow h3 k, h4⟩
theorem Keeps.below_step {w A B : World} (hk : Keeps (fun _ => False) w A) (hb : Below w.heap.size A B) : Keeps (fun _ => False) w B :=
  let ⟨a, b, c, d, e⟩ := hb
  ⟨a.trans hk.os, b.trans hk.tape, c.trans hk.output, Nat.le_trans hk.size d, fun k hk' _ => (e k hk').trans (hk.block k hk' id)⟩
theorem BuAt.new (w : World) : BuAt w.heap.size w.heap.size [] (w.alloc (.cells #[.pointer none, .slice none 0 0] 49)) := by
  refine Or.inl ⟨Nat.le_refl _, .slice none 0 0, heap_last w _, World.ownsRow_nil _ _ _ _, by simp [Value.ownBlock]⟩
theorem buString (B b : Nat) (l : Bs) (w : World) (h : BuAt B b l w) (hBw : B ≤ w.heap.size) :
    Calls Tryz.prog 26 #[.pointer (some ⟨b, 0, none⟩)] w fun e w' => e = .returned (.string (mkB l)) ∧ Hid (Below B w w') := Tryz.Builder_String_any B b l w h hBw
end Go.Proofs.YtdlhdompemkjfaaGreatDoor
