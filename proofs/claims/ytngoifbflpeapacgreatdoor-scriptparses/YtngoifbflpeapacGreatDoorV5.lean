import Derived.Test.YtngoifbflpeapacGreatDoorV4
import Derived.Test.YtngoifbflpeapacGreatDoorQ2
import Derived.Test.YtngoifbflpeapacGreatDoorR1
import Derived.Test.YtngoifbflpeapacGreatDoorV3
import Derived.Shelf.Vars
namespace Go.Proofs.YtngoifbflpeapacGreatDoor
open Go.RowKit Go.Maps
set_option maxRecDepth 100000

/-- The cells of a step of a list. -/
theorem PR.cells {w W : World} {v : Value} {l : List (St × Value)} (h : PR w W v l) {i : Nat} {p : St × Value} (hi : l[i]? = some p) : ∃ b o c, v = .slice (some ⟨b, o, none⟩) l.length c ∧ b < W.heap.size ∧ ∀ j u, (scell p.1 p.2)[j]? = some u → W.cell? ⟨b, o + (i * 7 + j), none⟩ = some u := by
  obtain ⟨a, c, rfl, _, hc⟩ := Row.of_own h.row
  obtain ⟨hi2, e⟩ := List.getElem?_eq_some_iff.1 hi
  obtain ⟨b, o, rfl, hb, hcell⟩ := hc (by omega)
  refine ⟨b, o, c, rfl, hb, fun j u hj => hcell (i * 7 + j) u ?_⟩
  have hj7 : j < 7 := by
    have := (Array.getElem?_eq_some_iff.1 hj).1
    simpa [scell] using this
  have es : l = l.take i ++ p :: l.drop (i + 1) := by
    conv => lhs; rw [← List.take_append_drop i l, List.drop_eq_getElem_cons hi2, e]
  rw [es, pcells_app, List.getElem?_append_right (by rw [pcells_len, List.length_take]; omega), pcells_len, List.length_take, show i * 7 + j - min i l.length * 7 = j by rw [Nat.min_eq_left (by omega)]; omega]
  have e2 : pcells (p :: l.drop (i + 1)) = (scell p.1 p.2).toList ++ pcells (l.drop (i + 1)) := by simp [pcells]
  rw [e2, List.getElem?_append_left (by simpa [scell] using hj7), Array.getElem?_toList]
  exact hj
theorem PP.at {w W : World} {a x : Option Addr} {n c m y : Nat} {ps : List (St × Value)} {ls : List Bs} {i : Nat} {l : Bs} (h : PP w W (.slice a n c) (.slice x m y) ps ls) (hl : ls[i]? = some l) :
    ∃ b o r k d b2 o2, a = some ⟨b, o, none⟩ ∧ x = some ⟨b2, o2, none⟩ ∧ (W.rangeAt b (o + i * 7) (scell (lnS l) (.slice r k d)).toList ∧ W.cell? ⟨b2, o2 + i, none⟩ = some (.int .i64 (lnE l))) ∧ Row W (.slice r k d) (lnS l).l.length (ints (lnS l).l) := by
  have hi := (List.getElem?_eq_some_iff.1 hl).1
  have hlen := h.len
  obtain ⟨p, hp⟩ : ∃ p, ps[i]? = some p := ⟨_, List.getElem?_eq_getElem (by omega)⟩
  have hpe : p.1 = lnS l := by
    have h := congrArg (fun l => l[i]?) h.t
    simp only [List.getElem?_map, hp, hl, Option.map_some] at h
    exact Option.some.inj h
  obtain ⟨sn, vn⟩ := p
  simp only at hpe
  subst hpe
  obtain ⟨r, k, d, hvn⟩ := h.s.shp _ (List.mem_of_getElem? hp)
  simp only at hvn
  subst hvn
  have hr := Row.of_own (h.s.ins _ (List.mem_of_getElem? hp))
  obtain ⟨b, o, c', hvs, _, hc⟩ := h.s.cells hp
  injection hvs with hvs1 hvs2 hvs3
  obtain ⟨a2, c2, e, _, hc2⟩ := Row.of_own h.e
  injection e with e1 e2 e3
  obtain ⟨b2, o2, e4, _, hcc⟩ := hc2 (by rw [List.length_map]; omega)
  refine ⟨b, o, r, k, d, b2, o2, hvs1, e1.trans e4, ⟨fun q u hq => ?_, hcc i _ (by simp [ints, hl])⟩, hr⟩
  rw [Array.getElem?_toList] at hq
  have := hc q u hq
  rw [← Nat.add_assoc] at this
  exact this

/-! P19.4: Parse of any text is the document's. -/
set_option maxHeartbeats 8000000 in
theorem parses_walk (w : World) (hv : Vars w) (kv : KV w) (m : Int) (hm : w.cell? ⟨1, 0, none⟩ = some (.int .i64 m)) (s : ByteArray) :
    Calls Tryz.prog 5 #[.string s] w fun e w' => e = .returned (.bool true) ∧ Keeps (fun _ => False) w w' := by
  by_cases hL : 100000 < s.size
  · have hL' : (100000 : Int) < (s.size : Int) := by omega
    go_enter Tryz.func5, Tryz.ntmps5
    go_wp2
    go_ret
    exact ⟨rfl, Keeps.refl _ _⟩
  have hL' : ¬ (100000 : Int) < (s.size : Int) := by omega
  have hp1 := parse_any w hv m hm s (by omega)
  have hp2 := fun W h => rparse_any W h s (by omega)
  have HKV := Hid.mk' kv
  have HNP : Hid ((prs s.data.toList).length ≤ 100001) := by
    have h1 := spl_count s.data.toList
    have h2 : (prs s.data.toList).length ≤ (spl s.data.toList).length := List.length_filter_le _ _
    rw [← size_len] at h1
    show _ ≤ _
    omega
  clear hv kv hm
  generalize prs s.data.toList = PL at *
  go_enter Tryz.func5, Tryz.ntmps5
  have S0 := Hid.mk' True.intro
  go_wp2_with (first
    | (clear S0; go_at_call 8; refine hp1.mono ?_; clear hp1; rintro e w1 ⟨vs1, ve1, ps1, rfl, h1⟩; have H1 := Hid.mk' h1.out; clear h1; obtain ⟨a1, c1, hv1, _⟩ := Row.of_own H1.out.s.row; rw [H1.out.len] at hv1; subst hv1; obtain ⟨x1, y1, hz1, _⟩ := Row.of_own H1.out.e; rw [List.length_map] at hz1; subst hz1; have S1 := Hid.mk' True.intro)
    | (clear S1; go_at_call 14; refine (hp2 _ (HKV.out.keep H1.out.k)).mono ?_; clear hp2; rintro e w2 ⟨vs2, ve2, ps2, rfl, h2⟩; have H2 := Hid.mk' h2.out; clear h2; obtain ⟨a2, c2, hv2, _⟩ := Row.of_own H2.out.s.row; rw [H2.out.len] at hv2; subst hv2; obtain ⟨x2, y2, hz2, _⟩ := Row.of_own H2.out.e; rw [List.length_map] at hz2; subst hz2; have S2 := Hid.mk' True.intro))
  have HNP2 := Hid.mk' (show PL.length ≤ 100001 from HNP.out)
  go_loopw [7] (fun iv wr => ∃ i : Nat, i ≤ PL.length ∧ iv = .int .i64 i ∧ Hid (Keeps (fun _ => False) w2 wr)) (fun iv _ => PL.length - (intOf iv).toNat)
  case atStart => exact ⟨0, Nat.zero_le _, rfl, Keeps.refl _ _⟩
  case round =>
    obtain ⟨i, hi, rfl, HK⟩ := hrel
    have hbd : PL.length ≤ 100001 := HNP.out
    by_cases h1 : i < PL.length
    · have h1' : (i : Int) < (PL.length : Int) := by omega
      obtain ⟨l, hl⟩ : ∃ l, PL[i]? = some l := ⟨_, List.getElem?_eq_getElem h1⟩
      obtain ⟨b1, o1, r1, k1, d1, e1, f1, rfl, rfl, ha1, hr1⟩ := H1.out.at hl
      obtain ⟨b2, o2, r2, k2, d2, e2, f2, rfl, rfl, ha2, hr2⟩ := H2.out.at hl
      have HKW := Hid.mk' (H2.out.k.trans HK.out)
      have HA1 : Hid (wr.rangeAt b1 (o1 + i * 7) (scell (lnS l) (.slice r1 k1 d1)).toList ∧ wr.cell? ⟨e1, f1 + i, none⟩ = some (.int .i64 (lnE l))) := ⟨fun q u hq => HKW.out.cell (ha1.1 q u hq) id, HKW.out.cell ha1.2 id⟩
      have HA2 : Hid (wr.rangeAt b2 (o2 + i * 7) (scell (lnS l) (.slice r2 k2 d2)).toList ∧ wr.cell? ⟨e2, f2 + i, none⟩ = some (.int .i64 (lnE l))) := ⟨fun q u hq => HK.out.cell (ha2.1 q u hq) id, HK.out.cell ha2.2 id⟩
      have hsm := fun W (k : Keeps (fun _ => False) wr W) => lsame_any W (lnS l) (lnS l) _ _ (hr1.keep (HKW.out.trans k)) (hr2.keep (HK.out.trans k)) (by have h := lnS_len l; omega)
      rw [smF_refl] at hsm
      clear hl ha1 ha2 hr1 hr2
      go_upto_region 10 with (fail)
      refine wp_region_held_drew (S := fun wx => wx.rangeAt b1 (o1 + i * 7) (scell (lnS l) (.slice r1 k1 d1)).toList ∧ wx.rangeAt b2 (o2 + i * 7) (scell (lnS l) (.slice r2 k2 d2)).toList ∧ wx.cell? ⟨e1, f1 + i, none⟩ = some (.int .i64 (lnE l)) ∧ wx.cell? ⟨e2, f2 + i, none⟩ = some (.int .i64 (lnE l))) (by kernel_rfl) ⟨HA1.out.1, HA2.out.1, HA1.out.2, HA2.out.2⟩ (fun hS => ?_)
      refine takeH 0 (some 39) (.slice (some ⟨e1, f1, none⟩) PL.length y1) rfl rfl (by kernel_rfl) (by kernel_rfl) (by kernel_rfl) (fun _ _ _ h => h) (Or.inl ⟨by rfl, fun wx _ => by go_simp⟩) hS ?_
      try simp only [Act.put, List.setIfInBounds_toArray, List.set_cons_zero, List.set_cons_succ]
      refine takeH 1 (some 40) (.int .i64 i) rfl rfl (by kernel_rfl) (by kernel_rfl) (by kernel_rfl) (fun _ _ _ h => h) (Or.inl ⟨by rfl, fun wx _ => by go_simp⟩) hS ?_
      try simp only [Act.put, List.setIfInBounds_toArray, List.set_cons_zero, List.set_cons_succ]
      refine takeH 2 (some 41) (.pointer (some ⟨e1, f1 + i, none⟩)) rfl rfl (by kernel_rfl) (by kernel_rfl) (by kernel_rfl) (fun _ _ _ h => h) (Or.inl ⟨by rfl, fun wx _ => by go_simp⟩) hS ?_
      try simp only [Act.put, List.setIfInBounds_toArray, List.set_cons_zero, List.set_cons_succ]
      refine takeH 3 (some 42) (.int .i64 (lnE l)) rfl rfl (by kernel_rfl) (by kernel_rfl) (by kernel_rfl) (fun _ _ _ h => h) (Or.inl ⟨by rfl, fun wx h => by have h3 := h.2.2.1; go_simp⟩) hS ?_
      try simp only [Act.put, List.setIfInBounds_toArray, List.set_cons_zero, List.set_cons_succ]
      refine takeH 4 (some 43) (.slice (some ⟨e2, f2, none⟩) PL.length y2) rfl rfl (by kernel_rfl) (by kernel_rfl) (by kernel_rfl) (fun _ _ _ h => h) (Or.inl ⟨by rfl, fun wx _ => by go_simp⟩) hS ?_
      try simp only [Act.put, List.setIfInBounds_toArray, List.set_cons_zero, List.set_cons_succ]
      refine takeH 5 (some 44) (.int .i64 i) rfl rfl (by kernel_rfl) (by kernel_rfl) (by kernel_rfl) (fun _ _ _ h => h) (Or.inl ⟨by rfl, fun wx _ => by go_simp⟩) hS ?_
      try simp only [Act.put, List.setIfInBounds_toArray, List.set_cons_zero, List.set_cons_succ]
      refine takeH 6 (some 45) (.pointer (some ⟨e2, f2 + i, none⟩)) rfl rfl (by kernel_rfl) (by kernel_rfl) (by kernel_rfl) (fun _ _ _ h => h) (Or.inl ⟨by rfl, fun wx _ => by go_simp⟩) hS ?_
      try simp only [Act.put, List.setIfInBounds_toArray, List.set_cons_zero, List.set_cons_succ]
      refine takeH 7 (some 46) (.int .i64 (lnE l)) rfl rfl (by kernel_rfl) (by kernel_rfl) (by kernel_rfl) (fun _ _ _ h => h) (Or.inl ⟨by rfl, fun wx h => by have h3 := h.2.2.2; go_simp⟩) hS ?_
      try simp only [Act.put, List.setIfInBounds_toArray, List.set_cons_zero, List.set_cons_succ]
      refine takeH 8 (some 47) (.bool false) rfl rfl (by kernel_rfl) (by kernel_rfl) (by kernel_rfl) (fun _ _ _ h => h) (Or.inl ⟨by rfl, fun wx _ => by go_simp⟩) hS ?_
      try simp only [Act.put, List.setIfInBounds_toArray, List.set_cons_zero, List.set_cons_succ]
      refine takeH 9 (some 48) (.bool false) rfl rfl (by kernel_rfl) (by kernel_rfl) (by kernel_rfl) (fun _ _ _ h => h) (Or.inl ⟨by rfl, fun wx _ => by go_simp⟩) hS ?_
      try simp only [Act.put, List.setIfInBounds_toArray, List.set_cons_zero, List.set_cons_succ]
      refine takeH 10 (some 49) (.slice (some ⟨b1, o1, none⟩) PL.length c1) rfl rfl (by kernel_rfl) (by kernel_rfl) (by kernel_rfl) (fun _ _ _ h => h) (Or.inl ⟨by rfl, fun wx _ => by go_simp⟩) hS ?_
      try simp only [Act.put, List.setIfInBounds_toArray, List.set_cons_zero, List.set_cons_succ]
      refine takeH 11 (some 50) (.int .i64 i) rfl rfl (by kernel_rfl) (by kernel_rfl) (by kernel_rfl) (fun _ _ _ h => h) (Or.inl ⟨by rfl, fun wx _ => by go_simp⟩) hS ?_
      try simp only [Act.put, List.setIfInBounds_toArray, List.set_cons_zero, List.set_cons_succ]
      refine takeH 12 (some 51) (.pointer (some ⟨b1, o1 + i * 7, none⟩)) rfl rfl (by kernel_rfl) (by kernel_rfl) (by kernel_rfl) (fun _ _ _ h => h) (Or.inl ⟨by rfl, fun wx _ => by go_simp⟩) hS ?_
      try simp only [Act.put, List.setIfInBounds_toArray, List.set_cons_zero, List.set_cons_succ]
      refine takeH 13 (some 52) (.agg (scell (lnS l) (.slice r1 k1 d1))) rfl rfl (by kernel_rfl) (by kernel_rfl) (by kernel_rfl) (fun _ _ _ h => h) (yieldsIf_load_mid (by rfl) 25 (.tmp 51) rfl b1 (o1 + i * 7) (by rfl) (scell (lnS l) (.slice r1 k1 d1)).toList _ (fun _ h => h.1) Tryz.underlying25 rfl size25) hS ?_
      try simp only [Act.put, List.setIfInBounds_toArray, List.set_cons_zero, List.set_cons_succ]
      refine takeH 14 (some 53) (.slice (some ⟨b2, o2, none⟩) PL.length c2) rfl rfl (by kernel_rfl) (by kernel_rfl) (by kernel_rfl) (fun _ _ _ h => h) (Or.inl ⟨by rfl, fun wx _ => by go_simp⟩) hS ?_
      try simp only [Act.put, List.setIfInBounds_toArray, List.set_cons_zero, List.set_cons_succ]
      refine takeH 15 (some 54) (.int .i64 i) rfl rfl (by kernel_rfl) (by kernel_rfl) (by kernel_rfl) (fun _ _ _ h => h) (Or.inl ⟨by rfl, fun wx _ => by go_simp⟩) hS ?_
      try simp only [Act.put, List.setIfInBounds_toArray, List.set_cons_zero, List.set_cons_succ]
      refine takeH 16 (some 55) (.pointer (some ⟨b2, o2 + i * 7, none⟩)) rfl rfl (by kernel_rfl) (by kernel_rfl) (by kernel_rfl) (fun _ _ _ h => h) (Or.inl ⟨by rfl, fun wx _ => by go_simp⟩) hS ?_
      try simp only [Act.put, List.setIfInBounds_toArray, List.set_cons_zero, List.set_cons_succ]
      refine takeH 17 (some 56) (.agg (scell (lnS l) (.slice r2 k2 d2))) rfl rfl (by kernel_rfl) (by kernel_rfl) (by kernel_rfl) (fun _ _ _ h => h) (yieldsIf_load_mid (by rfl) 25 (.tmp 55) rfl b2 (o2 + i * 7) (by rfl) (scell (lnS l) (.slice r2 k2 d2)).toList _ (fun _ h => h.2.1) Tryz.underlying25 rfl size25) hS ?_
      try simp only [Act.put, List.setIfInBounds_toArray, List.set_cons_zero, List.set_cons_succ]
      refine wpAnyH_ready (rs := [18]) (by kernel_rfl) (by simp) (AllReadyH.cons rfl (fun K hK => ?_) AllReadyH.nil)
      go_simp
      go_at_call 9
      refine (hsm _ (Keeps.drewN _ _ 1)).mono ?_
      clear hsm
      rintro e w5 ⟨rfl, hk5⟩
      have HK5 := Hid.mk' hk5
      refine hK.out _ _ ⟨fun j u hj => hk5.cell (hS.1 j u hj) id, fun j u hj => hk5.cell (hS.2.1 j u hj) id, hk5.cell hS.2.2.1 id, hk5.cell hS.2.2.2 id⟩ (fun hS => ?_)
      clear hK hk5
      try simp only [Act.put, List.setIfInBounds_toArray, List.set_cons_zero, List.set_cons_succ]
      refine takeH 19 (some 58) (.bool false) rfl rfl (by kernel_rfl) (by kernel_rfl) (by kernel_rfl) (fun _ _ _ h => h) (Or.inl ⟨by rfl, fun wx _ => by go_simp⟩) hS ?_
      try simp only [Act.put, List.setIfInBounds_toArray, List.set_cons_zero, List.set_cons_succ]
      refine takeH 20 (some 59) (.bool false) rfl rfl (by kernel_rfl) (by kernel_rfl) (by kernel_rfl) (fun _ _ _ h => h) (Or.inl ⟨by rfl, fun wx _ => by go_simp⟩) hS ?_
      try simp only [Act.put, List.setIfInBounds_toArray, List.set_cons_zero, List.set_cons_succ]
      refine wpAnyH_done (by kernel_rfl) ?_ _
      clear hS
      have HKE := Hid.mk' (HK.out.trans ((Keeps.drewN _ _ 1).trans HK5.out))
      go_wp2
      go_roundw
      case rel => exact ⟨i + 1, by omega, by go_num, HKE.out⟩
      case measure => simp [intOf]; omega
    · have h1' : ¬ (i : Int) < (PL.length : Int) := by omega
      go_wp2
      go_ret
      exact ⟨rfl, (H1.out.k.trans H2.out.k).trans HK.out⟩
end Go.Proofs.YtngoifbflpeapacGreatDoor

namespace Go.Proofs.YtngoifbflpeapacGreatDoor
open Go.ChangeShapes Go.WideShapes Go.ChangeAt Go.RowKit Go.Deep Go.Joins

/-! The document's table out of a row's list. -/
theorem trod_arr {H : Type} {enc : TypeId × Value → H} {P : Program} {w : World} {base : Nat} {sp : Nat → Bool} {held : Bool} {fuel : Nat} {t e : TypeId} {n c : Nat} {cs : List Value} {ds : List (DataW H)} {p : List MemPlace}
    (ht : P.underlying t = some (.array n e)) (hce : P.cellsOf e = c) (h : DataW.trod enc P w base sp held fuel t cs = some (.agg ds, p)) :
    ∃ m, ∀ (i : Nat) (d : DataW H), ds[i]? = some d → ∃ q, DataW.trod enc P w base sp held m e ((cs.drop (i * c)).take c) = some (d, q) := by
  cases fuel with
  | zero => simp [DataW.trod] at h
  | succ fuel =>
    simp only [DataW.trod, ht, hce] at h
    split at h
    · rename_i hl
      obtain ⟨xs, hm, hx⟩ := Option.map_eq_some_iff.1 h
      have hxs : xs.map (·.1) = ds := by
        have := congrArg Prod.fst hx
        simpa using this
      refine ⟨fuel, fun i d hd => ?_⟩
      have hxl : xs.length = n := by simpa using Lib.mapM_length hm
      have hi : i < n := by
        have h1 := (List.getElem?_eq_some_iff.1 hd).1
        rw [← hxs, List.length_map] at h1
        omega
      obtain ⟨b, hb, hf⟩ := Lib.mapM_at hm i i (by simp [hi])
      have h2 : (xs.map (·.1))[i]? = some b.1 := by simp [hb]
      rw [hxs, hd] at h2
      cases h2
      exact ⟨b.2, hf⟩
    · cases h
theorem kds_laid : (Rows.laid_furrow_furrowref19_kinds : DataW Unit) = .agg (.agg [.lit (.string []), .lit (.string [])] :: kds.map fun k => .agg [.lit (.string k.word.data.toList), .lit (.string (lets k.args).data.toList)]) := by rfl
theorem Tryz.gKds : Tryz.prog.globalNamed "furrow/furrowref19.kinds" = some 0 := by kernel_rfl
theorem Tryz.gKdsT : (Tryz.prog.globals[0]?).map (·.type) = some 108 := by kernel_rfl
theorem str_of {s : ByteArray} {l : List UInt8} (h : l = s.data.toList) (t : ByteArray) (e : t.data.toList = l) : s = t := by
  have : s.data = t.data := Array.ext' (by rw [e, h])
  cases s; cases t; cases this; rfl
theorem kv_of {W : World} {r : List (String × DataW Unit)} (h : laidMet Tryz.prog (("furrow/furrowref19.kinds", Rows.laid_furrow_furrowref19_kinds) :: r) W) : KV W := by
  obtain ⟨ps, ⟨g0, t0, cs0, f0, p0, q0, hg0, ht0, hv0, hd0, _, e0⟩, _⟩ := h
  obtain rfl := Option.some.inj (Tryz.gKds.symm.trans hg0)
  obtain rfl := Option.some.inj (Tryz.gKdsT.symm.trans ht0)
  rw [kds_laid] at hd0
  obtain ⟨m, hrow⟩ := trod_arr Tryz.underlying108 (c := 2) (by kernel_rfl) hd0
  intro i k hk
  obtain ⟨q, h1⟩ := hrow (i + 1) _ (by rw [List.getElem?_cons_succ, List.getElem?_map, hk]; rfl)
  obtain ⟨m2, h2⟩ := trod_arr Tryz.underlying107 (c := 1) (by kernel_rfl) h1
  obtain ⟨q3, h3⟩ := h2 0 _ rfl
  obtain ⟨q4, h4⟩ := h2 1 _ rfl
  obtain ⟨s3, e3, x3, _⟩ := DataW.trod_string Tryz.underlying9 h3
  obtain ⟨s4, e4, x4, _⟩ := DataW.trod_string Tryz.underlying9 h4
  have d3 : k.word.data.toList = s3.data.toList := by injection x3 with x3 _; injection x3 with x3; injection x3
  have d4 : (lets k.args).data.toList = s4.data.toList := by injection x4 with x4 _; injection x4 with x4; injection x4
  obtain rfl : s3 = k.word := str_of d3 _ rfl
  obtain rfl : s4 = lets k.args := str_of d4 _ rfl
  have c3 := congrArg (·[0]?) e3
  have c4 := congrArg (·[0]?) e4
  simp [List.getElem?_drop] at c3 c4
  refine ⟨?_, ?_⟩
  · have := World.var?_cell hg0 hv0 ((i + 1) * 2)
    simpa [c3] using this
  · have := World.var?_cell hg0 hv0 ((i + 1) * 2 + 1)
    simpa [c4] using this
end Go.Proofs.YtngoifbflpeapacGreatDoor

namespace Go.Proofs.YtngoifbflpeapacGreatDoor
open Go.ChangeShapes Go.WideShapes Go.ChangeAt Go.RowKit Go.Deep Go.Joins

/-- The library's MaxLen holds some int in every world that a row speaks of. -/
theorem max_cell {W : World} (h : W.ShapedOpen Tryz.prog) : ∃ m, W.cell? ⟨1, 0, none⟩ = some (.int .i64 m) := cell_of_shapedOpen_int (t := 3) (zero := #[.int .i64 0]) h (by decide) (by kernel_rfl) (by kernel_rfl) (by kernel_rfl) (by kernel_rfl) (by kernel_rfl)
end Go.Proofs.YtngoifbflpeapacGreatDoor
