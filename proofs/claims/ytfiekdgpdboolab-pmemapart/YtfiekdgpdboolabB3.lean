import Derived.Test.YtfiekdgpdboolabB2
import Derived.Maps.Ext
namespace Go.Proofs.Ytfiekdgpdboolab
open Go.RowKit Go.Maps
attribute [local go_sem ↓] Go.wp_at_zero Go.wp_at_succ

set_option maxHeartbeats 400000 in
theorem copy_any (w : World) (b2 bm nn : Nat) (D : DataW Unit) (hne : b2 ≠ bm) (h2 : w.ownsMap Try.prog 3 ptrElem b2 0 (.map [])) (hm : w.ownsMap Try.prog 3 ptrElem bm nn D) (hnn : nn ≤ 4000000000) :
    Calls Try.prog 59 #[.map (some b2), .map (some bm)] w fun e w' => e = .returned (.tuple #[]) ∧ w'.ownsMap Try.prog 3 ptrElem b2 nn D ∧ Keeps (fun i => i = b2) w w' := by
  have hsz := hm.size_le
  have hl2 := h2.lt
  go_enter Try.func59, Try.ntmps59
  go_wp2_with (first | (at_range; refine wpList_range_own _ rfl _ 73 rfl 3 84 keyLaw Try.underlying73 ptrElem bm nn D rfl hm ?_; intro w2 hrg2 hg2 hs2))
  go_frame
  have HS2 : Hid (∃ left cnt Dout n2, w2.ranges Try.prog 3 ptrElem bm w.heap.size nn D left cnt ∧ w2.ownsMap Try.prog 3 ptrElem b2 n2 Dout ∧ Agree Dout D left ∧ n2 + cnt ≤ Maps.size D ∧ Keeps (fun i => i = b2) w w2) :=
    ⟨_, _, _, 0, hrg2, h2.kept hg2 (by simp), agree_start D, by omega, Keeps.of hg2 (by simp)⟩
  have HM : Hid (w.ownsMap Try.prog 3 ptrElem bm nn D) := hm
  clear hrg2 hg2 hs2 h2 hm
  go_loopw [4] (fun _ wr => Hid (∃ left cnt Dout n2, wr.ranges Try.prog 3 ptrElem bm w.heap.size nn D left cnt ∧ wr.ownsMap Try.prog 3 ptrElem b2 n2 Dout ∧ Agree Dout D left ∧ n2 + cnt ≤ Maps.size D ∧ Keeps (fun i => i = b2) w wr))
    (fun _ wr => wr.rangeLeft bm w.heap.size)
  case atStart => exact HS2
  case round =>
    obtain ⟨left, cnt, Dout, n2, hrg, hout, hA, hcnt, hkp⟩ := hrel
    go_wp2_with (first | (at_next; refine wpList_next_ranges _ rfl _ rfl 3 keyLaw ptrElem (Value.int .i64) ptrOf invK3 invV3 bm w.heap.size nn D left cnt rfl hrg ?_ ?_))
    · intro hc0 hl0
      have HO : Hid (wr.ownsMap Try.prog 3 ptrElem b2 nn D) := by
        have e := agree_end hA hl0 (hout.canon keyLaw) (hrg.owns.canon keyLaw)
        have := hout.mono (show n2 ≤ nn by omega)
        rwa [e] at this
      clear hrg hout hA
      go_wp2
      go_end0
      exact ⟨rfl, HO.out, hkp⟩
    · intro x c kl yd yp w3 cnt3 hkey hlk hv hat hrg3 hlt hg3 hs3 hen
      have hkey' := hkey
      obtain ⟨x', ex, rfl, hwx⟩ := Maps.keyOf_int_inv Try.underlying3 hkey
      cases ex
      have hout3 : w3.ownsMap Try.prog 3 ptrElem b2 n2 Dout := hout.kept hg3 (by simp; omega)
      have HA : Hid (Agree Dout D left ∧ IsMap Dout ∧ ∀ zd, D.atKey (.int .i64 x) zd = yd) := ⟨hA, hout.isMap, hat⟩
      have HRG : Hid (wr.ranges Try.prog 3 ptrElem bm w.heap.size nn D left cnt) := hrg
      have HKP : Hid (Keeps (fun i => i = b2) w w3) := hkp.step hg3 (by rintro i e; cases e; exact Or.inr (Nat.le_refl _))
      clear hs3 hA hout hkp hg3 hrg hkey hat
      go_wp2_with (first | (at_mapUpdate; refine wpList_mapUpdate_own _ rfl _ _ _ 73 rfl 3 84 keyLaw Try.underlying73 ptrElem b2 n2 Dout rfl hout3 (by unfold maxLen; omega) (.int .i64 x) (ptrOf c) (.int .i64 x) rfl rfl hkey' yd yp hv ?_; intro w4 hm4 hg4; go_frame))
      have hrg4 := hrg3.kept hg4 (by simp; omega) (by simp; omega)
      go_roundw
      case rel =>
        obtain ⟨a1, a2, a3⟩ := HA.out
        exact ⟨_, cnt3, _, n2 + 1, hrg4, hm4, agree_step a1 a2 (isKey_int x) a3, by omega, HKP.out.step hg4 (by rintro i e; cases e; exact Or.inl rfl)⟩
      case measure => rw [hrg4.left_eq, HRG.out.left_eq]; exact hlt

/-- len of a map that is owned, as one step of a region that draws, under a guard that lets it. -/
theorem step_len_map' {ops : Array Oper} {o : Oper} {a : Act} {w : World} {K : Act → World → Prop} {Q : Exit → Act → World → Prop} {E : Prop} (m : Operand)
    (hop : o.op = Op.call { callee := Callee.builtin Builtin.len, args := #[m], argTypes := #[73] }) (b n : Nat) (D : DataW Unit) (hm : a.eval m = .map (some b)) (hown : w.ownsMap Try.prog 3 ptrElem b n D)
    (hw : Region.wanted o (yielded ops a.tmps) = true)
    (hK : K (a.put o.dst (.int .i64 (Maps.size D))) w) : if Region.wanted o (yielded ops a.tmps) = true then Oper.wp Try.prog o a w K Q else E := by
  rw [if_pos hw]
  have hrun := hown.len Try.underlying73 o.type
  unfold Oper.wp
  simp [execOp, hop, resolve, invoke, builtin, hm, hrun, Result.andThen]
  exact hK

/-- The map has been moved to a new block. -/
theorem DevAt.moved {w w' : World} {F : Nat → Prop} {d : Nat} {S : St} {L : Lay} (h : DevAt w F d S L) (b2 : Nat) (R : Int) (hb2 : w.heap.size ≤ b2) (hR : 0 ≤ R ∧ R ≤ S.steps)
    (hk : Keeps (fun i => i = d) w w') (hd : w'.heap[d]? = some (devCells (.slice (some ⟨L.ob, 0, none⟩) S.old.length S.old.length) (.map (some b2)) R S.steps S.armed S.left)) (hm : w'.ownsMap Try.prog 3 ptrElem b2 L.nn L.D) :
    DevAt w' (fun k => F k ∨ k = b2) d S { L with bm := b2, room := R } := {
  dev := hd
  bytes := (hk.block _ (heap_lt h.bytes) h.d_ne_ob).trans h.bytes
  hmap := hm
  hD := h.hD
  pend a ha := ⟨(hk.block _ (heap_lt (h.pend a ha).1) (h.p_ne_d ha)).trans (h.pend a ha).1,
    hk.row (h.pend a ha).2 (fun g hg => by simp [Value.ownBlock] at hg; subst hg; exact h.g_ne_d ha)⟩
  marks := h.marks
  injp := h.injp
  injg := h.injg
  dom := h.dom
  vals := h.vals
  byts := h.byts
  lens := h.lens
  nns := h.nns
  rooms := hR
  lefts := h.lefts
  size := h.size
  fd := Or.inl h.fd
  fo := Or.inl h.fo
  fm := Or.inr rfl
  fp a ha := ⟨Or.inl (h.fp a ha).1, Or.inl (h.fp a ha).2⟩
  fsz := by
    rintro k (hk' | rfl)
    · exact Nat.lt_of_lt_of_le (h.fsz k hk') hk.size
    · exact hm.lt }

theorem run_makeMap_some (w : World) (n : Int) : (Instr.makeMap 73 (some (.int .i64 n))).run Try.prog w = .ok (.map (some w.heap.size)) (w.alloc (.map #[] 0)) := by
  simp [Instr.makeMap, run_underlying Try.underlying73, asInt, asIntOf]

set_option maxHeartbeats 1000000 in
set_option maxRecDepth 20000 in
theorem shrink_dev (w : World) (F : Nat → Prop) (d : Nat) (S : St) (L : Lay) (h : DevAt w F d S L) (hs' : S.steps ≤ 2000000000) :
    Calls Try.prog 43 #[.pointer (some ⟨d, 0, none⟩)] w fun e w' => e = .returned (.tuple #[]) ∧ ∃ F' L', DevAt w' F' d S L' ∧ Keeps F w w' ∧ Fresh F F' w := by
  obtain ⟨c0, c1, c2, c3, c4, c5, c6⟩ := dev_cells h.dev
  have hm := h.hmap
  have hszD := hm.size_le
  have hnn := h.nns
  have hrm := h.rooms
  have HV : Hid (DevAt w F d S L) := h
  clear h c0 c3 c4 c5
  go_enter Try.func43, Try.ntmps43
  go_upto_region 0 with fail
  go_cut [20] (fun c wx => Hid (∃ b, c = .bool b ∧ DevAt wx F d S L ∧ Keeps F w wx))
  case first =>
    have HR : ∀ b n, Hid (∃ b', Value.bool b = .bool b' ∧ DevAt (w.drewN n) F d S L ∧ Keeps F w (w.drewN n)) := fun b n =>
      ⟨b, rfl, HV.out.heap (by simp), ⟨rfl, rfl, rfl, by simp, fun _ _ _ => by simp⟩⟩
    by_cases hr : L.room < 64
    · have hr1 : decide (L.room < 64) = true := by simp [hr]
      go_quiet (fail)
      go_wp2_with fail
      go_meet
      case rel => exact HR _ _
    · have hr1 : decide (L.room < 64) = false := by simp [hr]
      go_region_law ((refine step_len_map' _ (by rfl) L.bm L.nn L.D (by rfl) hm (by rfl) ?_))
      all_goals go_wp2_with fail
      all_goals
        go_meet
        case rel => exact HR _ 1
  case rest =>
    obtain ⟨b, rfl, hdev, hkp⟩ := hcut
    cases b with
    | true =>
      go_wp2
      refine bodyPost_ret (results_none rfl _ _ _) rfl ?_
      exact ⟨rfl, F, L, hdev, hkp, fun k hk => Or.inl hk⟩
    | false =>
      have hmw := hdev.hmap
      obtain ⟨k0, k1, k2, k3, k4, k5, k6⟩ := dev_cells hdev.dev
      have hdl := heap_lt hdev.dev
      have hbl := hmw.lt
      have hbd := hdev.d_ne_bm
      have HD : Hid (DevAt wc F d S L) := hdev
      have hmm := fun w => run_makeMap_some w (Maps.size L.D)
      clear hdev k0 k3 k4 k5 c1 c2 c6 hm HV
      go_wp2_with (first
        | (at_len; refine wpList_len_own _ rfl _ 73 rfl 3 84 Try.underlying73 ptrElem L.bm L.nn L.D rfl hmw ?_)
        | (at_len; refine wpList_len_own _ rfl _ 73 rfl 3 84 Try.underlying73 ptrElem wc.heap.size L.nn L.D rfl hm2 ?_)
        | (go_at_call 59; refine (copy_any _ wc.heap.size L.bm L.nn L.D (by omega) (World.ownsMap_made _ _ _ _) (hmw.alloc _) (by omega)).mono ?_; rintro e w2 ⟨rfl, hm2, hk2⟩
           have hdd : w2.heap[d]? = some (devCells (.slice (some ⟨L.ob, 0, none⟩) S.old.length S.old.length) (.map (some L.bm)) L.room S.steps S.armed S.left) := (hk2.block d (by simp; omega) (by omega)).trans ((Below.heap_alloc _ _ _ hdl).trans HD.out.dev)
           obtain ⟨y0, y1, y2, y3, y4, y5, y6⟩ := dev_cells hdd
           have HDD : Hid (w2.heap[d]? = some (devCells (.slice (some ⟨L.ob, 0, none⟩) S.old.length S.old.length) (.map (some L.bm)) L.room S.steps S.armed S.left)) := hdd
           clear hdd y0 y3 y4 y5))
      go_end0
      have h1 := setCell_block (a := ⟨d, 1, none⟩) (v := .map (some wc.heap.size)) HDD.out rfl
      have h2 := setCell_block (a := ⟨d, 2, none⟩) (v := .int .i64 (Maps.size L.D)) h1 rfl
      have g1 := grownBy_setCell w2 ⟨d, 1, none⟩ (.map (some wc.heap.size))
      have g2 := grownBy_setCell (w2.setCell ⟨d, 1, none⟩ (.map (some wc.heap.size))) ⟨d, 2, none⟩ (.int .i64 (Maps.size L.D))
      have hkd : Keeps (fun i => i = d) wc ((w2.setCell ⟨d, 1, none⟩ (.map (some wc.heap.size))).setCell ⟨d, 2, none⟩ (.int .i64 (Maps.size L.D))) := by
        have k0 : Keeps (fun i => i = d) wc w2 := by
          have a0 := World.grownBy_alloc wc (.map #[] 0) none
          refine ⟨hk2.os.trans a0.os, hk2.tape.trans a0.tape, hk2.output.trans a0.output, Nat.le_trans a0.size hk2.size, fun i hi _ => ?_⟩
          exact (hk2.block i (by simp; omega) (by omega)).trans (a0.block i hi (by simp))
        exact (k0.step g1 (by rintro i e; cases e; exact Or.inl rfl)).step g2 (by rintro i e; cases e; exact Or.inl rfl)
      refine ⟨rfl, _, _, HD.out.moved wc.heap.size (Maps.size L.D) (Nat.le_refl _) (by omega) hkd ?_ ?_, ?_, ?_⟩
      · simpa [devCells] using h2
      · exact (hm2.kept g1 (by simp; omega)).kept g2 (by simp; omega)
      · exact hkp.trans (hkd.mono (by rintro i _ rfl; exact HD.out.fd))
      · rintro k (hk | rfl)
        · exact Or.inl hk
        · exact Or.inr hkp.size

/-- What a Fence leaves. -/
def St.fence (S : St) : St := S.tick.fenced fun _ => false

theorem fence_dev (w : World) (F : Nat → Prop) (d : Nat) (S : St) (L : Lay) (h : DevAt w F d S L) (hs' : S.steps ≤ 1000000000) (live : ¬ (S.armed = true ∧ S.left = 0)) :
    Calls Try.prog 20 #[.pointer (some ⟨d, 0, none⟩)] w fun e w' => e = .returned (.int .i64 0) ∧ ∃ F' L', DevAt w' F' d S.fence L' ∧ Keeps F w w' ∧ Fresh F F' w :=
  fence_walk shrink_dev w F d S L h hs' live

end Go.Proofs.Ytfiekdgpdboolab
