import Derived.Test.YtfiekdgpdboolabB1b
import Derived.Deep.RegionHeld3
import Derived.Deep.DeepCutAuto
import Derived.Deep.DrawnRows
namespace Go.Proofs.Ytfiekdgpdboolab
open Go.RowKit Go.Maps
attribute [local go_sem ↓] Go.wp_at_zero Go.wp_at_succ

/-- len of a map that is owned, as one step of a region that draws. -/
theorem step_len_map {ops : Array Oper} {o : Oper} {a : Act} {w : World} {K : Act → World → Prop} {Q : Exit → Act → World → Prop} {E : Prop} (hgd : o.guard = none) (m : Operand)
    (hop : o.op = Op.call { callee := Callee.builtin Builtin.len, args := #[m], argTypes := #[73] }) (b n : Nat) (D : DataW Unit) (hm : a.eval m = .map (some b)) (hown : w.ownsMap Try.prog 3 ptrElem b n D)
    (hK : K (a.put o.dst (.int .i64 (Maps.size D))) w) : if Region.wanted o (yielded ops a.tmps) = true then Oper.wp Try.prog o a w K Q else E := by
  have hw : Region.wanted o (yielded ops a.tmps) = true := by simp [Region.wanted, hgd]
  rw [if_pos hw]
  have hrun := hown.len Try.underlying73 o.type
  unfold Oper.wp
  simp [execOp, hop, resolve, invoke, builtin, hm, hrun, Result.andThen]
  exact hK

/-- The room's field is set. -/
theorem DevAt.setRoom {w : World} {F : Nat → Prop} {d : Nat} {S : St} {L : Lay} (h : DevAt w F d S L) (R : Int) (hR : 0 ≤ R ∧ R ≤ S.steps) : DevAt (w.setCell ⟨d, 2, none⟩ (.int .i64 R)) F d S { L with room := R } := {
  dev := by
    have := setCell_block (a := ⟨d, 2, none⟩) (v := .int .i64 R) h.dev rfl
    simpa [devCells] using this
  bytes := by rw [Below.heap_setCell _ _ _ _ h.d_ne_ob]; exact h.bytes
  hmap := h.hmap.kept (grownBy_setCell w ⟨d, 2, none⟩ _) (by simpa using h.d_ne_bm)
  hD := h.hD
  pend b hb := ⟨by rw [Below.heap_setCell _ _ _ _ (h.p_ne_d hb)]; exact (h.pend b hb).1, (h.pend b hb).2.kept (grownBy_setCell w ⟨d, 2, none⟩ _) (Or.inr (by simpa [Value.ownBlock] using h.g_ne_d hb))⟩
  marks := h.marks
  injp := h.injp
  injg := h.injg
  dom := h.dom
  vals := h.vals
  byts := h.byts
  lens := h.lens
  nns := h.nns
  rooms := hR
  lefts := h.lefts
  size := h.size
  fd := h.fd
  fo := h.fo
  fm := h.fm
  fp := h.fp
  fsz i hi := by have := h.fsz i hi; simpa [World.setCell] using this }

/-- The pointer of a block, or none. -/
def ptrOf (c : Option Nat) : Value := .pointer (c.map fun b => ⟨b, 0, none⟩)

theorem invV3 (v : Value) (y : DataW Unit × List MemPlace) (h : ptrElem v = some y) : ∃ c, v = ptrOf c := ptrElem_inv h

theorem has_some {w : World} {F : Nat → Prop} {d : Nat} {S : St} {L : Lay} (h : DevAt w F d S L) (a : Int) : Maps.has L.D (.int .i64 a) = decide (S.pd a ≠ []) := by
  by_cases ha : S.pd a = []
  · rw [has_false_of_atKey (h.at_none ha)]; simp [ha]
  · rw [has_true_of_atKey (h.at_some ha)]; simp [ha]

theorem sameKey_int (a b : Int) : (Lit.int .i64 a).sameKey (.int .i64 b) = decide (a = b) := by
  by_cases h : a = b
  · subst h; simp [Lit.sameKey]
  · rw [sameKey_ne (by intro e; cases e; exact h rfl)]; simp [h]

theorem wrap_id {x : Int} (h1 : 0 ≤ x) (h2 : x ≤ 9000000000000000000) : IntKind.i64.wrap x = x := by
  have e1 : x % (2 ^ 64 : Int) = x := Int.emod_eq_of_lt h1 (by omega)
  show (if (IntKind.i64.signed && decide (x % (2 ^ 64 : Int) ≥ (2 ^ 63 : Int))) = true then x % (2 ^ 64 : Int) - (2 ^ 64 : Int) else x % (2 ^ 64 : Int)) = x
  rw [e1, if_neg]
  simp
  intro _; omega

theorem invK3 (key : Value) (kl : Lit) (hk : keyOf Try.prog 3 key = some kl) : ∃ x : Int, key = .int .i64 x := by
  obtain ⟨x, rfl, _⟩ := Maps.keyOf_int_inv Try.underlying3 hk; exact ⟨x, rfl⟩

set_option maxHeartbeats 1000000 in
set_option maxRecDepth 20000 in
theorem fence_walk (hshrink : ∀ (w : World) (F : Nat → Prop) (d : Nat) (S : St) (L : Lay), DevAt w F d S L → S.steps ≤ 2000000000 →
      Calls Try.prog 43 #[.pointer (some ⟨d, 0, none⟩)] w fun e w' => e = .returned (.tuple #[]) ∧ ∃ F' L', DevAt w' F' d S L' ∧ Keeps F w w' ∧ Fresh F F' w) (w : World) (F : Nat → Prop) (d : Nat) (S : St) (L : Lay) (h : DevAt w F d S L) (hs' : S.steps ≤ 1000000000) (live : ¬ (S.armed = true ∧ S.left = 0)) :
    Calls Try.prog 20 #[.pointer (some ⟨d, 0, none⟩)] w fun e w' => e = .returned (.int .i64 0) ∧ ∃ F' L', DevAt w' F' d (S.tick.fenced fun _ => false) L' ∧ Keeps F w w' ∧ Fresh F F' w := by
  have hst := step_live d _ _ L.room S.steps S.left S.armed w h.dev h.nonneg (by omega) h.lefts.1 h.lefts.2 live
  have HT : ∀ w1, w1.heap[d]? = some (devCells (.slice (some ⟨L.ob, 0, none⟩) S.old.length S.old.length) (.map (some L.bm)) L.room (S.steps + 1) S.armed (tick S.armed S.left)) → w.grownBy w1 (some d) → Hid (DevAt w1 F d S.tick L ∧ Keeps F w w1) :=
    fun w1 a b => ⟨h.ticked a b live, Keeps.of b (by rintro k e; cases e; exact Or.inl h.fd)⟩
  have hszD : Maps.size L.D ≤ L.nn := h.hmap.size_le
  have hnn := h.nns
  have hrm := h.rooms
  have hfd := h.fd
  clear h live
  go_enter Try.func20, Try.ntmps20
  go_upto_region 4 with (first
    | (go_at_call 40; refine hst.mono ?_; rintro e w1 ⟨rfl, hd1, hg1, hs1⟩; have H1 := HT w1 hd1 hg1; clear hd1 hg1 hs1))
  clear HT hst
  go_cut [23] (fun _ wx => Hid (∃ R : Int, DevAt wx F d S.tick { L with room := R } ∧ Keeps F w wx))
  case first =>
    have hm1 := H1.out.1.hmap
    obtain ⟨c0, c1, c2, c3, c4, c5, c6⟩ := dev_cells H1.out.1.dev
    clear c0 c3 c4 c5
    have HR : ∀ R : Int, (0 ≤ R ∧ R ≤ S.steps) → Hid (∃ R' : Int, DevAt (w1.setCell ⟨d, 2, none⟩ (.int .i64 R)).drew F d S.tick { L with room := R' } ∧ Keeps F w (w1.setCell ⟨d, 2, none⟩ (.int .i64 R)).drew) := by
      intro R hR
      refine ⟨R, (H1.out.1.setRoom R (show 0 ≤ R ∧ R ≤ S.steps + 1 by omega)).heap rfl, ?_⟩
      have := H1.out.2.step (grownBy_setCell w1 ⟨d, 2, none⟩ (.int .i64 R)) (by rintro k e; cases e; exact Or.inl hfd)
      exact ⟨this.os, this.tape, this.output, this.size, this.block⟩
    go_region_law ((refine step_len_map rfl _ (by rfl) L.bm L.nn L.D (by rfl) hm1 ?_))
    all_goals go_wp2_with fail
    all_goals
      go_meet
      case rel => exact HR _ (by omega)
  case rest =>
    obtain ⟨R, hdev, hkp⟩ := hcut
    have HV : Hid (DevAt wc F d S.tick { L with room := R }) := hdev
    have HK : Hid (Keeps F w wc) := hkp
    have hm2 := hdev.hmap
    obtain ⟨c0, c1, c2, c3, c4, c5, c6⟩ := dev_cells hdev.dev
    clear c0 c2 c3 c4 c5 c6 hdev hkp
    go_wp2_with (first | (at_range; refine wpList_range_own _ rfl _ 73 rfl 3 84 keyLaw Try.underlying73 ptrElem L.bm L.nn L.D rfl hm2 ?_; intro w2 hrg2 hg2 hs2))
    try go_frame
    have hFr : ∀ k, F k → k < wc.heap.size := HV.out.fsz
    have HS2 : Hid (∃ left cnt D, w2.ranges Try.prog 3 ptrElem L.bm wc.heap.size L.nn D left cnt ∧ DevAt w2 F d (S.tick.fenced fun a => left (.int .i64 a)) { L with room := R, D := D } ∧ Keeps F w w2 ∧ ∀ a, left (.int .i64 a) = true → S.pd a ≠ []) := by
      refine ⟨_, _, _, hrg2, ?_, HK.out.step hg2 (by simp), ?_⟩
      · have e1 : S.tick.fenced (fun a => Maps.has L.D (.int .i64 a)) = S.tick := fenced_start _ _ (fun a ha => by
          have e : Maps.has L.D (.int .i64 a) = decide (S.pd a ≠ []) := has_some HV.out a
          have ha' : Maps.has L.D (.int .i64 a) = false := ha
          rw [ha'] at e
          have e2 : S.pd a = [] := by simpa using e.symm
          exact e2) HV.out.marks
        rw [e1]
        exact HV.out.kept (X := fun _ => False) (Keeps.of hg2 (by simp)) (by simp)
      · intro a ha
        have e : Maps.has L.D (.int .i64 a) = decide (S.pd a ≠ []) := has_some HV.out a
        rw [ha] at e
        simpa using e.symm
    clear hrg2 hg2 hs2 hm2 c1
    go_loopw [4] (fun _ wr => Hid (∃ left cnt D, wr.ranges Try.prog 3 ptrElem L.bm wc.heap.size L.nn D left cnt ∧ DevAt wr F d (S.tick.fenced fun a => left (.int .i64 a)) { L with room := R, D := D } ∧ Keeps F w wr ∧ ∀ a, left (.int .i64 a) = true → S.pd a ≠ []))
      (fun _ wr => wr.rangeLeft L.bm wc.heap.size)
    case atStart => exact HS2
    case round =>
      obtain ⟨left, cnt, D, hrg, hdev, hkp, hlf⟩ := hrel
      go_wp2_with (first | (at_next; refine wpList_next_ranges _ rfl _ rfl 3 keyLaw ptrElem (Value.int .i64) ptrOf invK3 invV3 L.bm wc.heap.size L.nn D left cnt rfl hrg ?_ ?_))
      · intro _ hl0
        have HD : Hid (DevAt wr F d (S.tick.fenced fun _ => false) { L with room := R, D := D }) := by
          have := hdev
          rwa [fenced_congr S.tick (fun a => left (.int .i64 a)) (fun _ => false) (fun a => hl0 _)] at this
        have HKP : Hid (Keeps F w wr) := hkp
        clear hrg hdev hkp hlf hl0
        go_wp2_with (go_at_call 43; refine (hshrink _ F d _ _ HD.out (show S.steps + 1 ≤ 2000000000 by omega)).mono ?_; rintro e w4 ⟨rfl, hx⟩; have HX : Hid (∃ F' L', DevAt w4 F' d (S.tick.fenced fun _ => false) L' ∧ Keeps F wr w4 ∧ Fresh F F' wr) := hx; clear hx)
        go_ret
        obtain ⟨F', L', h1, h2, h3⟩ := HX.out
        exact ⟨rfl, F', L', h1, HKP.out.trans h2, fun k hk => by
          rcases h3 k hk with h4 | h4
          · exact Or.inl h4
          · exact Or.inr (Nat.le_trans HKP.out.size h4)⟩
      · intro x c kl yd yp w3 cnt3 hkey hlk hv hat hrg3 hlt hg3 hs3 hen
        obtain ⟨x', ex, rfl, hwx⟩ := Maps.keyOf_int_inv Try.underlying3 hkey
        cases ex
        have hpx : S.pd x ≠ [] := hlf x hlk
        have epd : (S.tick.fenced fun a => left (.int .i64 a)).pd x = S.pd x := by simp [St.fenced, hlk, St.tick]
        have ems : (S.tick.fenced fun a => left (.int .i64 a)).ms x = S.ms x := by simp [St.fenced, hlk, St.tick]
        have hp1 : (S.tick.fenced fun a => left (.int .i64 a)).pd x ≠ [] := by rw [epd]; exact hpx
        have hat2 := hat .nil
        rw [hdev.at_some hp1] at hat2
        have hat3 : yd = .lit (.int .i64 (L.pp x)) := hat2.symm
        subst hat3
        obtain rfl : c = some (L.pp x) := by
          have := ptrElem_int hv
          cases c with
          | none => simp [ptrOf] at this
          | some c => simp [ptrOf] at this; rw [this]
        simp only [ptrOf, Option.map] at hen ⊢
        have hdom := hdev.dom x hp1
        rw [fenced_len] at hdom
        have HDV : Hid (DevAt w3 F d (S.tick.fenced fun a => left (.int .i64 a)) { L with room := R, D := D }) :=
          hdev.kept (X := fun i => i = wc.heap.size) (Keeps.of hg3 (by simp)) (fun i hi e => by have := hFr i hi; omega)
        have HKP : Hid (Keeps F w w3) := hkp.step hg3 (by simp; exact Or.inr HK.out.size)
        have HRG : Hid (wr.ranges Try.prog 3 ptrElem L.bm wc.heap.size L.nn D left cnt) := hrg
        have hpe := HDV.out.pend x hp1
        rw [ems] at hpe
        have hlen : ((S.pd x).length : Int) ≤ S.steps + 1 := by have := hdev.lens x; rw [epd] at this; exact this
        have hmk : S.ms x ≤ (S.pd x).length := by have := hdev.marks x; rw [epd, ems] at this; exact this
        have HPE : Hid (w3.heap[L.pp x]? = some (pendCells (.slice (some ⟨L.gg x, 0, none⟩) (S.pd x).length (L.cp x)) (S.ms x)) ∧ w3.ownsRow 0 47 1 (.slice (some ⟨L.gg x, 0, none⟩) (S.pd x).length (L.cp x)) (S.pd x).length (u64s (S.pd x))) := by
          have := hpe
          simp only [Lay.sl, epd] at this
          exact this
        obtain ⟨pc0, pc1, pf⟩ := pend_cells HPE.out.1
        clear hpe hat hat2 hkey hv hdev hkp hg3 hs3 hrg
        have HEP : Hid ((S.tick.fenced fun a => left (.int .i64 a)).pd x = S.pd x ∧ (S.tick.fenced fun a => left (.int .i64 a)).ms x = S.ms x) := ⟨epd, ems⟩
        clear epd ems
        by_cases hm0 : S.ms x = 0
        · have hm1 : ((S.ms x : Int) == 0) = true := by simp [hm0]
          have HM0 : Hid (S.ms x = 0) := hm0
          clear hm0
          go_wp2
          go_roundw
          case rel =>
            refine ⟨_, cnt3, D, hrg3, ?_, HKP.out, ?_⟩
            · have e1 : S.tick.fenced (fun a => left (.int .i64 a) && !(Lit.int .i64 a).sameKey (.int .i64 x)) = S.tick.fenced (less (fun a => left (.int .i64 a)) x) := fenced_congr _ _ _ (fun a => by simp [less, sameKey_int])
              rw [e1, fenced_skip _ _ _ (show S.tick.ms x = 0 from HM0.out)]
              exact HDV.out
            · intro a ha
              simp at ha
              exact hlf a ha.1
          case measure => rw [hrg3.left_eq, HRG.out.left_eq]; exact hlt
        · obtain ⟨xn, rfl⟩ := Int.eq_ofNat_of_zero_le hdom.1
          obtain ⟨j, hj⟩ : ∃ j, j + 1 = S.ms (xn : Int) := ⟨S.ms (xn : Int) - 1, by omega⟩
          obtain ⟨k, hk⟩ : ∃ k, k = (S.pd (xn : Int)).length := ⟨_, rfl⟩
          obtain ⟨v, hv⟩ : ∃ v, v = (S.pd (xn : Int)).getD j 0 := ⟨_, rfl⟩
          rw [← hj] at hm0 pc1 hmk
          rw [← hk] at pc0 hlen hmk
          have HE : Hid (j + 1 = S.ms (xn : Int) ∧ k = (S.pd (xn : Int)).length ∧ v = (S.pd (xn : Int)).getD j 0) := ⟨hj, hk, hv⟩
          have pc1' : w3.cell? ⟨L.pp xn, 1, none⟩ = some (.int .i64 ((j : Int) + 1)) := by rw [pc1]; rfl
          clear pc1
          have j1 : ((j : Int) + 1 == 0) = false := by simp; omega
          have j2 : (0 : Int) ≤ (j : Int) := by omega
          have j3 : (j : Int) < k := by omega
          have j5 : IntKind.i64.wrap (j : Int) = (j : Int) := wrap_id j2 (by omega)
          have gc : w3.cell? ⟨L.gg xn, j, none⟩ = some (.int .u64 v) := by
            have h1 := HPE.out.2
            rw [← hk] at h1
            rw [h1.cellAt j (by omega)]
            have h2 : j < (S.pd (xn : Int)).length := by omega
            rw [hv]
            simp [u64s, List.getD_eq_getElem?_getD, List.getElem?_eq_getElem h2]
          obtain ⟨n, hn⟩ : ∃ n, n = S.old.length := ⟨_, rfl⟩
          have dc0 : w3.cell? ⟨d, 0, none⟩ = some (.slice (some ⟨L.ob, 0, none⟩) n n) := by
            have := (dev_cells HDV.out.dev).1
            rw [fenced_len] at this
            rw [hn]; exact this
          have hsz : n ≤ 524288 := by have := HDV.out.size; rw [fenced_len] at this; rw [hn]; exact this
          have hxn : xn + 8 ≤ n := by rw [hn]; have := hdom.2.1; simp only [St.tick] at this; omega
          have HN : Hid (n = S.old.length) := hn
          have HHP : Hid (S.pd (xn : Int) ≠ []) := hpx
          have HHP1 := hp1
          clear hj hk hv hn hdom hp1 hpx
          have ne1 := HDV.out.d_ne_ob
          have ne2 := HDV.out.p_ne_ob HHP1
          have ne3 := HDV.out.g_ne_ob HHP1
          have HSK : Hid (∀ w4, w3.drew.grownBy w4 (some L.ob) → w4.cell? ⟨d, 0, none⟩ = some (.slice (some ⟨L.ob, 0, none⟩) n n) ∧ w4.cell? ⟨L.pp xn, 0, none⟩ = some (.slice (some ⟨L.gg xn, 0, none⟩) k (L.cp xn)) ∧ w4.cell? ⟨L.pp xn, 1, none⟩ = some (.int .i64 ((j : Int) + 1)) ∧ w4.cell? ⟨L.gg xn, j, none⟩ = some (.int .u64 v)) := by
            intro w4 hg4
            have hb := HDV.out
            refine ⟨(World.cell?_of_block (w := w3) (hg4.block d (heap_lt hb.dev) (by simpa using Ne.symm ne1))).trans dc0,
              (World.cell?_of_block (w := w3) (hg4.block (L.pp xn) (heap_lt HPE.out.1) (by simpa using ne2))).trans pc0,
              (World.cell?_of_block (w := w3) (hg4.block (L.pp xn) (heap_lt HPE.out.1) (by simpa using ne2))).trans pc1',
              (World.cell?_of_block (w := w3) (hg4.block (L.gg xn) (row_lt HPE.out.2) (by simpa using ne3))).trans gc⟩
          have HB : Hid (w3.heap[L.ob]? = some (.cells (u8s (S.tick.fenced fun a => left (.int .i64 a)).old).toArray 5 (0, 0))) := HDV.out.bytes
          have HBL : Hid ((u8s (S.tick.fenced fun a => left (.int .i64 a)).old).length = n) := by
            have := HN.out
            simp only [Hid, u8s, List.length_map, fenced_len, St.tick]
            exact this.symm
          clear ne1 ne2 ne3 HHP1
          go_upto_region 9 with fail
          go_region_held3 (fun w' => w'.cell? ⟨d, 0, none⟩ = some (.slice (some ⟨L.ob, 0, none⟩) n n) ∧ w'.cell? ⟨L.pp xn, 0, none⟩ = some (.slice (some ⟨L.gg xn, 0, none⟩) k (L.cp xn)) ∧ w'.cell? ⟨L.pp xn, 1, none⟩ = some (.int .i64 ((j : Int) + 1)) ∧ w'.cell? ⟨L.gg xn, j, none⟩ = some (.int .u64 v))
            (first | go_keep | exact HSK.out _ hg4)
            (first | (go_at_call 41; refine (lay_any L.ob n xn v (u8s (S.tick.fenced fun a => left (.int .i64 a)).old) w3.drew HB.out HBL.out (by omega) hxn).mono ?_; rintro e w4 ⟨rfl, hb4, hg4⟩))
          obtain ⟨cur, hcur, hcl, hcm, hct⟩ : ∃ cur : List Value, w3.heap[L.gg (xn : Int)]? = some (.cells cur.toArray 47 (0, 0)) ∧ cur.length = L.cp xn ∧ (k ≤ L.cp xn ∧ L.cp xn ≤ maxLen) ∧ cur.take k = u64s (S.pd (xn : Int)) := by
            have h1 := HPE.out.2
            rcases h1.2 with ⟨e, _⟩ | ⟨g', cp', cur, e, _, e2, e3, e4, e5, e6⟩
            · cases e
            · cases e
              have hk := HE.out.2.1
              exact ⟨cur.toList, by simpa using e2, by simpa using e5, ⟨by omega, e4⟩, by rw [hk]; simpa using e6⟩
          have nb := HDV.out
          have HP1' : nb.pend = nb.pend := rfl
          have hpx1 : (S.tick.fenced fun a => left (.int .i64 a)).pd (xn : Int) ≠ [] := by rw [HEP.out.1]; exact HHP.out
          have ne2 := HDV.out.p_ne_ob hpx1
          have ne3 := HDV.out.g_ne_ob hpx1
          have ne4 := HDV.out.g_ne_p hpx1 hpx1
          have hcur4 : w4.heap[L.gg (xn : Int)]? = some (.cells cur.toArray 47 (0, 0)) := (hg4.block _ (heap_lt hcur) (by simpa using ne3)).trans hcur
          have hp4 : w4.heap[L.pp (xn : Int)]? = some (pendCells (.slice (some ⟨L.gg xn, 0, none⟩) k (L.cp xn)) ((j : Int) + 1)) := by
            have h1 := HPE.out.1
            rw [← HE.out.2.1, ← HE.out.1] at h1
            exact (hg4.block _ (heap_lt h1) (by simpa using ne2)).trans h1
          have hdel := delete_any (L.gg xn) k (L.cp xn) (j + 1) cur w4.drew hcur4 hcl hcm.1 hcm.2 (by omega) (by omega) (by
            intro u hu
            rw [hct] at hu
            have := List.mem_of_mem_drop hu
            simp only [u64s, List.mem_map] at this
            obtain ⟨_, _, rfl⟩ := this
            rfl)
          have hdel' : Calls Try.prog 42 #[.slice (some ⟨L.gg xn, 0, none⟩) k (L.cp xn), .int .i64 0, .int .i64 ((j : Int) + 1)] w4.drew fun e w' => e = .returned (.slice (some ⟨L.gg xn, 0, none⟩) (k - (j + 1)) (L.cp xn)) ∧
              w'.ownsRow 0 47 1 (.slice (some ⟨L.gg xn, 0, none⟩) (k - (j + 1)) (L.cp xn)) (k - (j + 1)) ((cur.take k).drop (j + 1)) ∧ w4.drew.grownBy w' (some (L.gg xn)) ∧ w'.heap.size = w4.drew.heap.size := hdel
          have HDEL : Hid (Calls Try.prog 42 #[.slice (some ⟨L.gg xn, 0, none⟩) k (L.cp xn), .int .i64 0, .int .i64 ((j : Int) + 1)] w4.drew fun e w' => e = .returned (.slice (some ⟨L.gg xn, 0, none⟩) (k - (j + 1)) (L.cp xn)) ∧
              w'.ownsRow 0 47 1 (.slice (some ⟨L.gg xn, 0, none⟩) (k - (j + 1)) (L.cp xn)) (k - (j + 1)) ((cur.take k).drop (j + 1)) ∧ w4.drew.grownBy w' (some (L.gg xn)) ∧ w'.heap.size = w4.drew.heap.size) := hdel'
          have HB4 : Hid (w4.heap[L.ob]? = some (.cells (splice (u8s (S.tick.fenced fun a => left (.int .i64 a)).old) xn (wordCells v)).toArray 5 (0, 0)) ∧ w3.grownBy w4 (some L.ob)) := ⟨hb4, grownBy_drew hg4⟩
          have HP4 : Hid (w4.heap[L.pp (xn : Int)]? = some (pendCells (.slice (some ⟨L.gg xn, 0, none⟩) k (L.cp xn)) ((j : Int) + 1))) := hp4
          have HCT : Hid (cur.take k = u64s (S.pd (xn : Int))) := hct
          have HNE : Hid (L.pp xn ≠ L.ob ∧ L.gg xn ≠ L.ob ∧ L.gg xn ≠ L.pp xn) := ⟨ne2, ne3, ne4⟩
          obtain ⟨qc0, qc1, qf⟩ := pend_cells hp4
          clear hdel hdel' hb4 hg4 hp4 hcur4 hcur hcl hcm hct nb HP1' hpx1 ne2 ne3 ne4 pc0 pc1' pf gc dc0 HSK HB HBL j5
          go_upto_region 10 with fail
          go_cut [67] (fun _ wx => Hid (wx.heap[L.pp (xn : Int)]? = some (pendCells (.slice (some ⟨L.gg xn, 0, none⟩) (k - (j + 1)) (L.cp xn)) ((j : Int) + 1)) ∧
            wx.ownsRow 0 47 1 (.slice (some ⟨L.gg xn, 0, none⟩) (k - (j + 1)) (L.cp xn)) (k - (j + 1)) ((cur.take k).drop (j + 1)) ∧ Keeps (fun i => i = L.pp xn ∨ i = L.gg xn) w4 wx))
          case first =>
            go_region_with ((go_at_call 42; refine HDEL.out.mono ?_; rintro e w5 ⟨rfl, ho5, hg5, hs5⟩; have hp5 : w5.heap[L.pp (xn : Int)]? = some (pendCells (.slice (some ⟨L.gg xn, 0, none⟩) k (L.cp xn)) ((j : Int) + 1)) := (hg5.block _ (heap_lt HP4.out) (by simpa using Ne.symm HNE.out.2.2)).trans HP4.out; obtain ⟨r0, r1, rf⟩ := pend_cells hp5; have HP5 : Hid (w5.heap[L.pp (xn : Int)]? = some (pendCells (.slice (some ⟨L.gg xn, 0, none⟩) k (L.cp xn)) ((j : Int) + 1))) := hp5; clear hp5 hs5))
            all_goals go_wp2_with fail
            all_goals
              go_meet
              case rel =>
                refine ⟨?_, ?_, ?_⟩
                · have := setCell_block (a := ⟨L.pp xn, 0, none⟩) (v := .slice (some ⟨L.gg xn, 0, none⟩) (k - (j + 1)) (L.cp xn)) HP5.out rfl
                  simpa [pendCells] using this
                · exact ho5.kept (grownBy_setCell w5 ⟨L.pp xn, 0, none⟩ _) (Or.inr (by simpa [Value.ownBlock] using HNE.out.2.2))
                · exact (Keeps.of (grownBy_drew hg5) (by rintro i e; cases e; exact Or.inl (Or.inr rfl))).step (grownBy_setCell w5 ⟨L.pp xn, 0, none⟩ _) (by rintro i e; cases e; exact Or.inl (Or.inl rfl))
          case rest =>
            have hpx1 : (S.tick.fenced fun a => left (.int .i64 a)).pd (xn : Int) ≠ [] := by rw [HEP.out.1]; exact HHP.out
            have hprt := fence_parts HDV.out xn hpx1 j k xn v _ HB4.out hcut.out
            rw [HCT.out] at hprt
            have hw6 : wc.cell? ⟨L.pp (xn : Int), 1, none⟩ = some (.int .i64 ((j : Int) + 1)) := (pend_cells hcut.out.1).2.1
            have hf6 : ∀ i, wc.frozen? ⟨L.pp (xn : Int), i, none⟩ = false := (pend_cells hcut.out.1).2.2
            have HPRT := Hid.mk' hprt
            have hw7 := (pend_cells hprt.2.1).1
            obtain ⟨n1, n2, n3, n4, n5, n6, n7⟩ : L.ob ≠ L.bm ∧ L.pp (xn : Int) ≠ L.bm ∧ L.gg (xn : Int) ≠ L.bm ∧ L.ob ≠ d ∧ L.pp (xn : Int) ≠ d ∧ L.gg (xn : Int) ≠ d ∧ L.bm ≠ d := HDV.out.all_ne hpx1
            have hd7 : (wc.setCell ⟨L.pp (xn : Int), 1, none⟩ (.int .i64 0)).cell? ⟨d, 1, none⟩ = some (.map (some L.bm)) := by
              have hb := HDV.out
              have := hprt.2.2.2.block d (heap_lt hb.dev) (by simp [Ne.symm n4, Ne.symm n5, Ne.symm n6])
              exact (dev_cells (this.trans hb.dev)).2.1
            have hlxn : left (.int .i64 (xn : Int)) = true := hlk
            have hrg7 := hprt.2.2.2.ranges hrg3 (by simp [Ne.symm n1, Ne.symm n2, Ne.symm n3]) (by
              have hb := HDV.out
              have f1 := hFr L.ob hb.fo
              have f2 := hFr (L.pp xn) (hb.fp _ hpx1).1
              have f3 := hFr (L.gg xn) (hb.fp _ hpx1).2
              intro e
              have e' : _ = L.ob ∨ _ = L.pp (xn : Int) ∨ _ = L.gg (xn : Int) := e
              omega)
            have HKB : Hid (∀ w8, (wc.setCell ⟨L.pp (xn : Int), 1, none⟩ (.int .i64 0)).grownBy w8 (some L.bm) → Keeps (fun i => i = L.ob ∨ i = L.pp (xn : Int) ∨ i = L.gg (xn : Int) ∨ i = L.bm) w3 w8 ∧ Keeps F w w8) := by
              intro w8 hg8
              have hb := HDV.out
              have hkk : Keeps (fun i => i = L.ob ∨ i = L.pp (xn : Int) ∨ i = L.gg (xn : Int) ∨ i = L.bm) w3 w8 :=
                (hprt.2.2.2.mono (by rintro i _ (e | e | e)
                                     · exact Or.inl e
                                     · exact Or.inr (Or.inl e)
                                     · exact Or.inr (Or.inr (Or.inl e)))).step hg8 (by rintro i e; cases e; exact Or.inl (Or.inr (Or.inr (Or.inr rfl))))
              refine ⟨hkk, HKP.out.trans (hkk.mono ?_)⟩
              rintro i _ (rfl | rfl | rfl | rfl)
              · exact hb.fo
              · exact (hb.fp _ hpx1).1
              · exact (hb.fp _ hpx1).2
              · exact hb.fm
            have HNS : Hid (L.ob ≠ L.bm ∧ L.pp (xn : Int) ≠ L.bm ∧ L.gg (xn : Int) ≠ L.bm) := ⟨n1, n2, n3⟩
            clear hcut hprt n1 n2 n3 n4 n5 n6 n7
            by_cases hz : k - (j + 1) = 0
            · have hz1 : (((k - (j + 1) : Nat) : Int) == 0) = true := by simp [hz]
              have HZ : Hid (k - (j + 1) = 0) := hz
              clear hz
              go_wp2_with (first | (at_delete; refine wpList_delete_ranges _ rfl _ _ 73 3 rfl 84 keyLaw Try.underlying73 ptrElem L.bm _ L.nn D _ _ rfl hrg7 _ _ rfl (keyOf_int_mk Try.underlying3 hwx) ?_; intro w8 cnt8 hrg8 hle8 htn8; go_frame))
              go_roundw
              case rel =>
                obtain ⟨n1, n2, n3⟩ := HNS.out
                obtain ⟨o1, o2, o3, o4⟩ := HPRT.out
                obtain ⟨q1, q2⟩ := HKB.out w8 htn8.grown
                rw [strike_twice] at hrg8
                refine ⟨_, cnt8, _, hrg8, ?_, q2, ?_⟩
                · have e1 : S.tick.fenced (fun a => left (.int .i64 a) && !(Lit.int .i64 a).sameKey (.int .i64 (xn : Int))) = S.tick.fenced (less (fun a => left (.int .i64 a)) (xn : Int)) := fenced_congr _ _ _ (fun a => by simp [less, sameKey_int])
                  rw [e1]
                  obtain ⟨ej, ek, ev⟩ : j + 1 = S.tick.ms (xn : Int) ∧ k = (S.tick.pd (xn : Int)).length ∧ v = (S.tick.pd (xn : Int)).getD j 0 := HE.out
                  have hb := HDV.out
                  refine fence_round (L := { L with room := R, D := D }) (fun a => left (.int .i64 a)) hb xn hlxn HHP.out j ej.symm _ ?_ ?_ ?_ q1 hrg8.owns ?_
                  · rw [← ev]; exact (htn8.grown.block _ (heap_lt o1) (by simpa using n1)).trans o1
                  · rw [← ek]; exact (htn8.grown.block _ (heap_lt o2) (by simpa using n2)).trans o2
                  · rw [← ek]; exact o3.kept htn8.grown (Or.inr (by simpa [Value.ownBlock] using n3))
                  · rw [← ek, if_pos HZ.out]
                · intro a ha
                  simp at ha
                  exact hlf a ha.1
              case measure => rw [hrg8.left_eq, HRG.out.left_eq]; omega
            · have hz1 : (((k - (j + 1) : Nat) : Int) == 0) = false := by simp; omega
              have HZ : Hid (¬ k - (j + 1) = 0) := hz
              clear hz
              go_wp2
              go_roundw
              case rel =>
                obtain ⟨n1, n2, n3⟩ := HNS.out
                obtain ⟨o1, o2, o3, o4⟩ := HPRT.out
                obtain ⟨q1, q2⟩ := HKB.out _ (grownBy_refl _ _)
                refine ⟨_, cnt3, D, hrg7, ?_, q2, ?_⟩
                · have e1 : S.tick.fenced (fun a => left (.int .i64 a) && !(Lit.int .i64 a).sameKey (.int .i64 (xn : Int))) = S.tick.fenced (less (fun a => left (.int .i64 a)) (xn : Int)) := fenced_congr _ _ _ (fun a => by simp [less, sameKey_int])
                  rw [e1]
                  obtain ⟨ej, ek, ev⟩ : j + 1 = S.tick.ms (xn : Int) ∧ k = (S.tick.pd (xn : Int)).length ∧ v = (S.tick.pd (xn : Int)).getD j 0 := HE.out
                  have hb := HDV.out
                  refine fence_round (L := { L with room := R, D := D }) (fun a => left (.int .i64 a)) hb xn hlxn HHP.out j ej.symm _ ?_ ?_ ?_ q1 hrg7.owns ?_
                  · rw [← ev]; exact o1
                  · rw [← ek]; exact o2
                  · rw [← ek]; exact o3
                  · rw [← ek, if_neg HZ.out]
                · intro a ha
                  simp at ha
                  exact hlf a ha.1
              case measure => rw [hrg7.left_eq, HRG.out.left_eq]; exact hlt

end Go.Proofs.Ytfiekdgpdboolab
