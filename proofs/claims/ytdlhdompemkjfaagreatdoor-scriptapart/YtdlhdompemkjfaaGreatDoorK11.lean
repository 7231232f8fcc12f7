import Derived.Test.YtdlhdompemkjfaaGreatDoorK10
namespace Go.Proofs.YtdlhdompemkjfaaGreatDoor
open Go.RowKit Go.Maps
set_option maxRecDepth 100000

/-- The argument that takes the word at a place. -/
def argAt (l : List Ar) (i : Nat) : Option Ar := match l[i]? with
  | some a => some a
  | none => match l[l.length - 1]? with
    | some a => if a.lst = true then some a else none
    | none => none
def tkF (l : List Ar) : Nat → List Wd → Bool
  | _, [] => true
  | i, x :: ws => (match argAt l i with
    | some a => a.quo == x.quoted
    | none => false) && tkF l (i + 1) ws
def takesF (l : List Ar) (ws : List Wd) : Bool := decide (nds l ≤ ws.length) && tkF l 0 ws
theorem argAt_some {l : List Ar} {i : Nat} {a : Ar} (h : l[i]? = some a) : argAt l i = some a := by unfold argAt; rw [h]
theorem argAt_end {l : List Ar} {i : Nat} (h : ¬ i < l.length) {a : Ar} (ha : l[l.length - 1]? = some a) : argAt l i = if a.lst = true then some a else none := by
  unfold argAt; rw [List.getElem?_eq_none (by omega)]; simp only; rw [ha]
theorem argAt_none (i : Nat) : argAt [] i = none := rfl
theorem tkF_drop {l : List Ar} {ws : List Wd} {k : Nat} {x : Wd} (h : ws[k]? = some x) : tkF l k (ws.drop k) = ((match argAt l k with
    | some a => a.quo == x.quoted
    | none => false) && tkF l (k + 1) (ws.drop (k + 1))) := by
  have hk := (List.getElem?_eq_some_iff.1 h).1
  have e : ws.drop k = x :: ws.drop (k + 1) := by
    rw [List.drop_eq_getElem_cons hk]
    have : ws[k] = x := by simpa [hk] using h
    rw [this]
  rw [e]; rfl
theorem wcells_get : ∀ (l : List Wd) (i : Nat) (x : Wd), l[i]? = some x → (wcells l)[2 * i]? = some (.string x.text) ∧ (wcells l)[2 * i + 1]? = some (.bool x.quoted)
  | [], i, a, h => by simp at h
  | b :: l, 0, a, h => by
    have : b = a := by simpa using h
    subst this
    exact ⟨rfl, rfl⟩
  | b :: l, i + 1, a, h => by
    have h' : l[i]? = some a := by simpa using h
    have := wcells_get l i a h'
    have e : ∀ k, (wcells (b :: l))[2 + k]? = (wcells l)[k]? := fun k => by
      show ((wcell b).toList ++ wcells l)[2 + k]? = _
      rw [List.getElem?_append_right (by simp [wcell])]
      simp [wcell]
    have e0 := e (2 * i)
    have e1 := e (2 * i + 1)
    rw [show 2 * (i + 1) = 2 + 2 * i by omega, show 2 + 2 * i + 1 = 2 + (2 * i + 1) by omega, e0, e1]
    exact this
theorem Row.word {W : World} {p : Option Addr} {n c : Nat} {l : List Wd} (h : Row W (.slice p n c) l.length (wcells l)) {i : Nat} {x : Wd} (hi : l[i]? = some x) : ∃ b o, p = some ⟨b, o, none⟩ ∧ b < W.heap.size ∧ W.rangeAt b (o + i * 2) (wcell x).toList := by
  obtain ⟨p', c', e, hc, hr⟩ := h
  cases e
  have hl : i < l.length := (List.getElem?_eq_some_iff.1 hi).1
  obtain ⟨b, o, rfl, hb, hcell⟩ := hr (by omega)
  obtain ⟨g0, g1⟩ := wcells_get l i x hi
  refine ⟨b, o, rfl, hb, ?_⟩
  intro j u hj
  match j, hj with
  | 0, hj => cases Option.some.inj hj; have := hcell _ _ g0; rw [show o + i * 2 + 0 = o + 2 * i by omega]; exact this
  | 1, hj => cases Option.some.inj hj; have := hcell _ _ g1; rw [show o + i * 2 + 1 = o + (2 * i + 1) by omega]; exact this
  | j + 2, hj => simp [wcell] at hj
theorem argAt_ok (w : World) (n : Int) (s : ByteArray) (v : Value) (l : List Ar) (h : ArgsAt w v l) (hl : l.length ≤ 100) (i : Nat) (hi : i ≤ 1000000000) (a : Ar) (ha : argAt l i = some a) :
    Calls Tryz.prog 48 #[.agg (kcell n s v), .int .i64 i] w fun e w' => e = .returned (.tuple #[.agg (acell a), .bool true]) ∧ Keeps (fun _ => False) w w' := by
  cases hx : l[i]? with
  | some b =>
    rw [argAt_some hx] at ha
    cases ha
    exact argAt_in w n s v l h i a hx
  | none =>
    have hlt : ¬ i < l.length := by simpa using hx
    cases hy : l[l.length - 1]? with
    | none => unfold argAt at ha; rw [hx] at ha; simp only at ha; rw [hy] at ha; cases ha
    | some b =>
      rw [argAt_end hlt hy] at ha
      cases hb : b.lst with
      | false => rw [hb] at ha; cases ha
      | true =>
        rw [hb] at ha
        cases ha
        have := argAt_last w n s v l h hl i hlt hi a hy
        rw [hb] at this
        exact this
theorem argAt_no (w : World) (n : Int) (s : ByteArray) (v : Value) (l : List Ar) (h : ArgsAt w v l) (hl : l.length ≤ 100) (i : Nat) (hi : i ≤ 1000000000) (ha : argAt l i = none) :
    Calls Tryz.prog 48 #[.agg (kcell n s v), .int .i64 i] w fun e w' => ∃ cs : Array Value, e = .returned (.tuple #[.agg cs, .bool false]) ∧ cs.size = 4 ∧ cs.all (·.oneCell') = true ∧ Keeps (fun _ => False) w w' := by
  cases hx : l[i]? with
  | some b => rw [argAt_some hx] at ha; cases ha
  | none =>
    have hlt : ¬ i < l.length := by simpa using hx
    cases hy : l[l.length - 1]? with
    | none =>
      have : l = [] := by
        cases l with
        | nil => rfl
        | cons b l => simp at hy
      subst this
      exact (argAt_nil w n s v h i hi).mono fun e w' ⟨he, hk⟩ => ⟨azero, he, rfl, azero_one, hk⟩
    | some b =>
      rw [argAt_end hlt hy] at ha
      cases hb : b.lst with
      | true => rw [hb] at ha; cases ha
      | false =>
        have := argAt_last w n s v l h hl i hlt hi b hy
        rw [hb] at this
        exact this.mono fun e w' ⟨he, hk⟩ => ⟨acell b, he, rfl, acell_one b, hk⟩
theorem wpList_alloc_w {ops : Array Oper} {rest : List Oper} {o : Oper} {a : Act} {w : World} {Q : Exit → Act → World → Prop} (hg : o.guard = none) (ho : o.op = .alloc 92)
    (h : wpList Tryz.prog ops Q rest (a.put o.dst (.pointer (some ⟨w.heap.size, 0, none⟩))) (w.alloc (.cells wzero 92))) : wpList Tryz.prog ops Q (o :: rest) a w := by
  refine wpList_plain hg fun K hK => ?_
  have hz := (zero_of_info (P := Tryz.prog) (t := 92) (v := .agg wzero) (n := 2) (by kernel_rfl)).1
  unfold Oper.wp execOp
  simp [ho, Instr.alloc, hz, newVar, newRow, Value.cells, Result.andThen]
  exact hK _ _ h
theorem wpList_load_word {ops : Array Oper} {rest : List Oper} {o : Oper} {a : Act} {W : World} {Q : Exit → Act → World → Prop} (hgd : o.guard = none) (x : Operand) (ho : o.op = .load 92 x) (b off : Nat) (c : Wd) (hx : a.eval x = .pointer (some ⟨b, off, none⟩)) (hc : W.rangeAt b off (wcell c).toList)
    (h : wpList Tryz.prog ops Q rest (a.put o.dst (.agg (wcell c))) W) : wpList Tryz.prog ops Q (o :: rest) a W :=
  wpList_load_mid hgd 92 x ho b off hx (wcell c).toList _ hc Tryz.underlying92 rfl size92 h
theorem wpList_store_neww {ops : Array Oper} {rest : List Oper} {o : Oper} {a : Act} {W : World} {Q : Exit → Act → World → Prop} (hgd : o.guard = none) (x y : Operand) (ho : o.op = .store 92 x y) (c : Wd) (hx : a.eval x = .pointer (some ⟨W.heap.size, 0, none⟩)) (hy : a.eval y = .agg (wcell c))
    (h : wpList Tryz.prog ops Q rest (a.put o.dst undef) (W.alloc (.cells (wcell c) 92))) : wpList Tryz.prog ops Q (o :: rest) a (W.alloc (.cells wzero 92)) := by
  refine wpList_store_row hgd 92 x y ho W.heap.size (wcell c) hx hy 92 wzero (heap_last W _) size92 rfl (wcell_one c) ?_
  rw [World.setRow_alloc_new]; exact h
theorem wpList_store_newc {ops : Array Oper} {rest : List Oper} {o : Oper} {a : Act} {W : World} {Q : Exit → Act → World → Prop} (hgd : o.guard = none) (x y : Operand) (ho : o.op = .store 74 x y) (cs : Array Value) (hs : cs.size = 4) (h1 : cs.all (·.oneCell') = true) (hx : a.eval x = .pointer (some ⟨W.heap.size, 0, none⟩)) (hy : a.eval y = .agg cs)
    (h : wpList Tryz.prog ops Q rest (a.put o.dst undef) (W.alloc (.cells cs 74))) : wpList Tryz.prog ops Q (o :: rest) a (W.alloc (.cells azero 74)) := by
  refine wpList_store_row hgd 74 x y ho W.heap.size cs hx hy 74 azero (heap_last W _) (by rw [hs]; exact size74) (by rw [hs]; rfl) h1 ?_
  rw [World.setRow_alloc_new]; exact h

set_option maxHeartbeats 4000000 in
theorem takes_any (w : World) (n : Int) (s : ByteArray) (v : Value) (l : List Ar) (h : ArgsAt w v l) (hl : l.length ≤ 100) (vw : Value) (ws : List Wd) (hw : Row w vw ws.length (wcells ws)) (hws : ws.length ≤ 1000000) :
    Calls Tryz.prog 32 #[.agg (kcell n s v), vw] w fun e w' => e = .returned (.bool (takesF l ws)) ∧ Keeps (fun _ => False) w w' := by
  obtain ⟨p, c, rfl, hc⟩ := h.shape
  obtain ⟨pw, cw, rfl, hcw, _⟩ := id hw
  have h33 := fun w (h : ArgsAt w (.slice p l.length c) l) => needs_any w n s _ l h hl
  have HA := Hid.mk' h
  have HW := Hid.mk' hw
  have HN := Hid.mk' (nds_le l)
  have HK0 := Hid.mk' ((Keeps.refl (fun _ => False) w).alloc (.cells #[.int .i64 n, .string s, .slice p l.length c] 63))
  clear h hw
  unfold kcell at h33
  unfold kcell
  have hnl := HN.out
  by_cases hn : nds l ≤ ws.length
  · have hn' : ¬ (ws.length : Int) < (nds l : Int) := by omega
    have hn2 : decide ((ws.length : Int) < (nds l : Int)) = false := decide_eq_false hn'
    have hn3 : decide (ws.length < nds l) = false := decide_eq_false (by omega)
    have HT : Hid (takesF l ws = tkF l 0 ws) := by show _ = _; unfold takesF; rw [decide_eq_true hn]; rfl
    go_enter Tryz.func32, Tryz.ntmps32
    go_wp2_with (first
      | (go_at_call 47; refine (h33 _ (HA.out.keep HK0.out)).mono ?_; clear h33; rintro e w1 ⟨rfl, hk1⟩; have HK1 := Hid.mk' hk1; clear hk1))
    clear hn hn' hnl hn2 hn3
    go_loopw [16] (fun i wr => ∃ k : Nat, k ≤ ws.length ∧ i = .int .i64 k ∧ Hid (tkF l k (ws.drop k) = tkF l 0 ws ∧ Keeps (fun _ => False) (w.alloc (.cells #[.int .i64 n, .string s, .slice p l.length c] 63)) wr)) (fun i _ => ws.length - (intOf i).toNat)
    case atStart => exact ⟨0, Nat.zero_le _, rfl, rfl, HK1.out⟩
    case round =>
      obtain ⟨k, hk, rfl, HI⟩ := hrel
      clear HK1
      have HKw := Hid.mk' (HK0.out.trans HI.out.2)
      by_cases h1 : k < ws.length
      · have h1' : (k : Int) < (ws.length : Int) := by omega
        obtain ⟨x, hx⟩ : ∃ x, ws[k]? = some x := ⟨ws[k], by simp [h1]⟩
        obtain ⟨b, o, hpw, hb, hr⟩ := (HW.out.keep HKw.out).word hx
        subst hpw
        have HR := Hid.mk' hr
        have HD := Hid.mk' (tkF_drop (l := l) hx)
        have HB := Hid.mk' (HI.out.2.at (heap_last w _) id)
        have HX := Hid.mk' ((Keeps.refl (fun _ => False) wr).alloc (.cells (wcell x) 92))
        clear hr hb
        cases ha : argAt l k with
        | none =>
          have h34 := fun w h => argAt_no w n s (.slice p l.length c) l h hl k (by omega) ha
          have HE : Hid (tkF l 0 ws = false) := by show _ = _; rw [← HI.out.1, HD.out, ha]; rfl
          unfold kcell at h34
          have S0 := Hid.mk' True.intro
          go_wp2_with (first
            | (clear S0; refine wpList_load_word rfl _ rfl b (o + k * 2) x (by rfl) HR.out ?_; have S1 := Hid.mk' True.intro)
            | (clear S1; refine wpList_alloc_w rfl rfl ?_; have S2 := Hid.mk' True.intro)
            | (clear S2; refine wpList_store_neww rfl _ _ rfl x (by rfl) (by rfl) ?_; have S3 := Hid.mk' True.intro)
            | (clear S3; refine wpList_load_row rfl 63 (.tmp 2) rfl w.heap.size (by rfl) 63 #[.int .i64 n, .string s, .slice p l.length c] (0, 0) _ (HX.out.at HB.out id) Tryz.underlying63 rfl size63 ?_; have S4 := Hid.mk' True.intro)
            | (clear S4; go_at_call 48; refine (h34 _ ((HA.out.keep HKw.out).keep HX.out)).mono ?_; clear h34; rintro e w3 ⟨cs, rfl, hcs, hco, hk3⟩; have HK3 := Hid.mk' (And.intro hcs (And.intro hco hk3)); clear hk3 hcs hco; have S5 := Hid.mk' True.intro)
            | (clear S5; refine wpList_alloc_a rfl rfl ?_; have S6 := Hid.mk' True.intro)
            | (clear S6; refine wpList_store_newc rfl _ _ rfl cs HK3.out.1 HK3.out.2.1 (by rfl) (by rfl) ?_; have S7 := Hid.mk' True.intro))
          go_ret
          exact ⟨by rw [HT.out, HE.out]; rfl, ((HKw.out.trans HX.out).trans HK3.out.2.2).alloc _⟩
        | some a =>
          have h34 := fun w h => argAt_ok w n s (.slice p l.length c) l h hl k (by omega) a ha
          have HE : Hid (tkF l 0 ws = (a.quo == x.quoted && tkF l (k + 1) (ws.drop (k + 1)))) := by show _ = _; rw [← HI.out.1, HD.out, ha]
          unfold kcell at h34
          rcases Bool.eq_false_or_eq_true (a.quo == x.quoted) with hq | hq
          · have hq' : a.quo = x.quoted := by simpa using hq
            have hq2 : (a.quo != x.quoted) = false := by rw [bne, hq]; rfl
            have HE2 : Hid (tkF l (k + 1) (ws.drop (k + 1)) = tkF l 0 ws) := by show _ = _; rw [HE.out, hq]; rfl
            have S0 := Hid.mk' True.intro
            go_wp2_with (first
              | (clear S0; refine wpList_load_word rfl _ rfl b (o + k * 2) x (by rfl) HR.out ?_; have S1 := Hid.mk' True.intro)
              | (clear S1; refine wpList_alloc_w rfl rfl ?_; have S2 := Hid.mk' True.intro)
              | (clear S2; refine wpList_store_neww rfl _ _ rfl x (by rfl) (by rfl) ?_; have S3 := Hid.mk' True.intro)
              | (clear S3; refine wpList_load_row rfl 63 (.tmp 2) rfl w.heap.size (by rfl) 63 #[.int .i64 n, .string s, .slice p l.length c] (0, 0) _ (HX.out.at HB.out id) Tryz.underlying63 rfl size63 ?_; have S4 := Hid.mk' True.intro)
              | (clear S4; go_at_call 48; refine (h34 _ ((HA.out.keep HKw.out).keep HX.out)).mono ?_; clear h34; rintro e w3 ⟨rfl, hk3⟩; have HK3 := Hid.mk' hk3; have q1 := new_cell w3 (acell a) 74 0 (.bool a.quo) rfl; have q2 := ((Keeps.refl (fun _ => False) w3).alloc (.cells (acell a) 74)).cell (hk3.cell (new_cell wr (wcell x) 92 1 (.bool x.quoted) rfl) id) id; clear hk3; have S5 := Hid.mk' True.intro)
              | (clear S5; refine wpList_alloc_a rfl rfl ?_; have S6 := Hid.mk' True.intro)
              | (clear S6; refine wpList_store_new rfl _ _ rfl a (by rfl) (by rfl) ?_; have S7 := Hid.mk' True.intro))
            have HF := Hid.mk' (((HI.out.2.trans HX.out).trans HK3.out).alloc (.cells (acell a) 74))
            go_roundw
            case rel => exact ⟨k + 1, by omega, by go_num, HE2.out, HF.out⟩
            case measure => simp [intOf]; omega
          · have hq2 : (a.quo != x.quoted) = true := by rw [bne, hq]; rfl
            have HE2 : Hid (tkF l 0 ws = false) := by show _ = _; rw [HE.out, hq]; rfl
            have S0 := Hid.mk' True.intro
            go_wp2_with (first
              | (clear S0; refine wpList_load_word rfl _ rfl b (o + k * 2) x (by rfl) HR.out ?_; have S1 := Hid.mk' True.intro)
              | (clear S1; refine wpList_alloc_w rfl rfl ?_; have S2 := Hid.mk' True.intro)
              | (clear S2; refine wpList_store_neww rfl _ _ rfl x (by rfl) (by rfl) ?_; have S3 := Hid.mk' True.intro)
              | (clear S3; refine wpList_load_row rfl 63 (.tmp 2) rfl w.heap.size (by rfl) 63 #[.int .i64 n, .string s, .slice p l.length c] (0, 0) _ (HX.out.at HB.out id) Tryz.underlying63 rfl size63 ?_; have S4 := Hid.mk' True.intro)
              | (clear S4; go_at_call 48; refine (h34 _ ((HA.out.keep HKw.out).keep HX.out)).mono ?_; clear h34; rintro e w3 ⟨rfl, hk3⟩; have HK3 := Hid.mk' hk3; have q1 := new_cell w3 (acell a) 74 0 (.bool a.quo) rfl; have q2 := ((Keeps.refl (fun _ => False) w3).alloc (.cells (acell a) 74)).cell (hk3.cell (new_cell wr (wcell x) 92 1 (.bool x.quoted) rfl) id) id; clear hk3; have S5 := Hid.mk' True.intro)
              | (clear S5; refine wpList_alloc_a rfl rfl ?_; have S6 := Hid.mk' True.intro)
              | (clear S6; refine wpList_store_new rfl _ _ rfl a (by rfl) (by rfl) ?_; have S7 := Hid.mk' True.intro))
            go_ret
            exact ⟨by rw [HT.out, HE2.out]; rfl, ((HKw.out.trans HX.out).trans HK3.out).alloc _⟩
      · have h1' : ¬ (k : Int) < (ws.length : Int) := by omega
        have HE : Hid (tkF l 0 ws = true) := by show _ = _; rw [← HI.out.1, List.drop_of_length_le (by omega)]; rfl
        go_wp2
        go_ret
        exact ⟨by rw [HT.out, HE.out]; rfl, HKw.out⟩
  · have hn' : (ws.length : Int) < (nds l : Int) := by omega
    have HT : Hid (takesF l ws = false) := by show _ = _; unfold takesF; rw [decide_eq_false hn]; rfl
    go_enter Tryz.func32, Tryz.ntmps32
    go_wp2_with (first
      | (go_at_call 47; refine (h33 _ (HA.out.keep HK0.out)).mono ?_; clear h33; rintro e w1 ⟨rfl, hk1⟩; have HK1 := Hid.mk' (HK0.out.trans hk1); clear hk1))
    go_ret
    exact ⟨by rw [HT.out]; rfl, HK1.out⟩
end Go.Proofs.YtdlhdompemkjfaaGreatDoor
