import Derived.Test.YtndojlacdggfcaaX4
import Derived.Deep.RegionHeld3
namespace Go.Proofs.Ytndojlacdggfcaa
open Go.RowKit Go.Shelf

theorem get_setP (f : Nat → Sp) {k : Nat} (y : Sp) (h : k < 512) : getFP (setFP f (k : Int) y) (k : Int) = y := by
  simp [getFP, setFP, isOff_of h, updP]
theorem cut_allP (f : Nat → Sp) (o : Nat) : cutFP f 0 0 o = (0, 0) := by
  simp only [cutFP]; rw [if_neg (by omega)]
theorem els_cutP (f : Nat → Sp) : elsP (cutFP f 0 0) 0 0 512 = [] := els_noneP fun o _ _ => .inr (cut_allP f o)
theorem get_cutP (f : Nat → Sp) (x : Int) : getFP (cutFP f 0 0) x = (0, 0) := by
  unfold getFP; split
  · exact cut_allP f _
  · rfl
theorem SpBox.keep {A B : World} {b : Nat} {y : Sp} {X : Nat → Prop} (h : SpBox A b y) (k : Keeps X A B) (hx : ¬ X b) : SpBox B b y := k.at h hx
theorem SpBox.new (W : World) (a b : Int) : SpBox (W.alloc (.cells #[.int .i64 a, .int .i64 b] 42)) W.heap.size (a, b) := (MapKept.heap_alloc W _).1
theorem TreeAtP.ne_box {W : World} {t b : Nat} {f : Nat → Sp} {y : Sp} (h : TreeAtP W t f) (hb : SpBox W b y) : b ≠ t := by
  rintro rfl
  obtain ⟨p, v, ht, _⟩ := h
  have := (show W.heap[b]? = _ from hb).symm.trans ht
  simp at this
theorem eqlP (W : World) (a b : Int) : (Op.equalIn 10000 42 (.agg #[.int .i64 a, .int .i64 b]) (.agg #[.int .i64 a, .int .i64 b])).run Try.prog W = .ok true W := by
  have := span_eqlP 9998 (a, b) (a, b) W
  simpa using this

/-- The tree of the law, in the loop. -/
def SL (w : World) (t : Nat) (f : Nat → Sp) (W : World) : Prop := TreeAtP W t f ∧ Keeps (fun _ => False) w W ∧ w.heap.size ≤ t
theorem SL.keep {w W W' : World} {t : Nat} {f : Nat → Sp} (h : SL w t f W) (k : Keeps (fun _ => False) W W') : SL w t f W' := ⟨h.1.keep k, h.2.1.trans k, h.2.2⟩
theorem SL.drewN {w W : World} {t : Nat} {f : Nat → Sp} (h : SL w t f W) (n : Nat) : SL w t f (W.drewN n) := h.keep (Keeps.drewN _ W n)
theorem SL.set {w W W' : World} {t : Nat} {f g : Nat → Sp} (h : SL w t f W) (k : Keeps (fun c => c = t) W W') (hT : TreeAtP W' t g) : SL w t g W' := ⟨hT, h.2.1.then k (by rintro c rfl; exact .inr h.2.2), h.2.2⟩

/-- The tree and its copy. -/
def SC (w : World) (t c : Nat) (f g : Nat → Sp) (W : World) : Prop := SL w t f W ∧ TreeAtP W c g ∧ t ≠ c ∧ w.heap.size ≤ c
theorem SC.keep {w W W' : World} {t c : Nat} {f g : Nat → Sp} (h : SC w t c f g W) (k : Keeps (fun _ => False) W W') : SC w t c f g W' := ⟨h.1.keep k, h.2.1.keep k, h.2.2⟩
theorem SC.setU {w W W' : World} {t c : Nat} {f f' g : Nat → Sp} (h : SC w t c f g W) (k : Keeps (fun x => x = t) W W') (hT : TreeAtP W' t f') : SC w t c f' g W' := ⟨h.1.set k hT, h.2.1.beside h.1.1 k (fun e => h.2.2.1 e.symm), h.2.2⟩
theorem SC.setC {w W W' : World} {t c : Nat} {f g g' : Nat → Sp} (h : SC w t c f g W) (k : Keeps (fun x => x = c) W W') (hT : TreeAtP W' c g') : SC w t c f g' W' := ⟨⟨h.1.1.beside h.2.1 k h.2.2.1, h.1.2.1.then k (by rintro x rfl; exact .inr h.2.2.2), h.1.2.2⟩, hT, h.2.2⟩

set_option maxHeartbeats 8000000 in
set_option maxRecDepth 100000 in
theorem spans_walk (w : World) (p : Option Addr) (l : List Put) (cap : Nat) (off : Int) (hp : PutsIn w p l) (hl : l.length ≤ maxLen) :
    Calls Try.prog 4 #[.slice p l.length cap, .int .i64 off] w fun e w' => e = .returned (.bool true) ∧ Keeps (fun _ => False) w w' := by
  have hl' : l.length ≤ 9223372036854775807 := by unfold maxLen at hl; omega
  have HP : Hid (PutsIn w p l) := hp
  have h15 := new_anyP w
  obtain ⟨o, ho⟩ : ∃ o : Nat, plc off 512 = o := ⟨_, rfl⟩
  have ho512 : o < 512 := by rw [← ho]; exact plc_lt off (by omega)
  have h16 : ∀ W, Calls Try.prog 16 #[.int .i64 off, .int .i64 512] W fun e w' => e = .returned (.int .i64 (o : Int)) ∧ w' = W := fun W => by rw [← ho]; exact place_any off 512 W (by omega) (by omega)
  have heq := eqlP
  clear hp ho hl
  go_enter Try.func4, Try.ntmps4
  go_wp2_with (first
    | (go_at_call 16; refine (h16 _).mono ?_; rintro e w0 ⟨rfl, hw0⟩; subst w0; clear h16)
    | (go_at_call 15; refine h15.mono ?_; rintro e w1 ⟨rfl, hw1⟩; clear h15))
  have H1 : Hid (SL w w.heap.size (fun _ => (0, 0)) w1) := Hid.mk' (by
    rw [hw1]
    exact ⟨⟨none, (0, 0), (MapKept.heap_alloc w _).1, SlotAtP.zeros fun _ _ => rfl⟩, Keeps.new w _, Nat.le_refl _⟩)
  try rw [← hw1]
  clear hw1
  go_loopw [6] (fun c wr => ∃ (i : Nat) (f : Nat → Sp), i ≤ l.length ∧ c = .int .i64 i ∧ Hid (SL w w.heap.size f wr)) (fun c _ => l.length - (intOf c).toNat)
  case atStart => exact ⟨0, _, by omega, rfl, H1⟩
  case round =>
    clear H1
    obtain ⟨i, f, hi, rfl, HR⟩ := hrel
    by_cases h1 : i < l.length
    · by_cases h4 : i < 400
      · have h1' : (i : Int) < (l.length : Int) := by omega
        have h4' : (i : Int) < 400 := by omega
        have hi0 : (0 : Int) ≤ (i : Int) := by omega
        obtain ⟨b, ob, rfl, hb, hc⟩ := HP.out (by omega)
        obtain ⟨e0, e1, e2⟩ := hc i h1
        obtain ⟨q, hq⟩ : ∃ q, l.getD i d0 = q := ⟨_, rfl⟩
        rw [hq] at e0 e1 e2
        obtain ⟨qc, qo, qv⟩ := q
        obtain ⟨k, hk⟩ : ∃ k : Nat, plc qo 512 = k := ⟨_, rfl⟩
        have hk512 : k < 512 := by rw [← hk]; exact plc_lt qo (by omega)
        have h16 : ∀ W, Calls Try.prog 16 #[.int .i64 qo, .int .i64 512] W fun e w' => e = .returned (.int .i64 (k : Int)) ∧ w' = W := fun W => by rw [← hk]; exact place_any qo 512 W (by omega) (by omega)
        have c0 := HR.out.2.1.cell e0 id
        have c1 := HR.out.2.1.cell e1 id
        have c2 := HR.out.2.1.cell e2 id
        simp only at c0 c1 c2
        clear hc hq hk e0 e1 e2
        cases qc with
        | false =>
          obtain ⟨v, hv⟩ : ∃ v, getFP f (k : Int) = v := ⟨_, rfl⟩
          obtain ⟨bx, hbx⟩ : ∃ b, wr.heap.size = b := ⟨_, rfl⟩
          have n0 := (Keeps.new wr (.cells #[.int .i64 qv, .int .i64 (k : Int)] 42)).cell c0 id
          have h17 : ∀ W1, Hid (SL w w.heap.size f W1 ∧ SpBox W1 bx (qv, (k : Int))) → Calls Try.prog 17 #[.pointer (some ⟨w.heap.size, 0, none⟩), .int .i64 (k : Int)] W1 fun e w2 => e = .returned (.agg #[.int .i64 v.1, .int .i64 v.2]) ∧ Hid (SL w w.heap.size f (w2.alloc (.cells #[.int .i64 v.1, .int .i64 v.2] 42)) ∧ SpBox (w2.alloc (.cells #[.int .i64 v.1, .int .i64 v.2] 42)) bx (qv, (k : Int)) ∧ SpBox (w2.alloc (.cells #[.int .i64 v.1, .int .i64 v.2] 42)) w2.heap.size v) ∧
              (w2.alloc (.cells #[.int .i64 v.1, .int .i64 v.2] 42)).cell? ⟨bx, 0, none⟩ = some (.int .i64 qv) ∧ (w2.alloc (.cells #[.int .i64 v.1, .int .i64 v.2] 42)).cell? ⟨bx, 1, none⟩ = some (.int .i64 (k : Int)) := by
            intro W1 H
            refine (get_anyP W1 _ f (k : Int) H.out.1.1).mono ?_
            rintro e w2 ⟨rfl, k2⟩
            have k2' := k2.trans (Keeps.new w2 (.cells #[.int .i64 v.1, .int .i64 v.2] 42))
            have hb := H.out.2.keep k2' id
            exact ⟨by rw [hv], ⟨H.out.1.keep k2', hb, (MapKept.heap_alloc w2 _).1⟩, hb.cells.1, hb.cells.2⟩
          have h18 : ∀ W2 bh, Hid (SL w w.heap.size f W2 ∧ SpBox W2 bx (qv, (k : Int)) ∧ SpBox W2 bh v) → Calls Try.prog 18 #[.pointer (some ⟨w.heap.size, 0, none⟩), .int .i64 (k : Int), .agg #[.int .i64 qv, .int .i64 (k : Int)]] W2 fun e w3 => e = .returned (.tuple #[.agg #[.int .i64 v.1, .int .i64 v.2], .int .i64 0]) ∧ Hid (SL w w.heap.size (setFP f (k : Int) (qv, (k : Int))) (w3.alloc (.cells #[.int .i64 v.1, .int .i64 v.2] 42)) ∧ SpBox (w3.alloc (.cells #[.int .i64 v.1, .int .i64 v.2] 42)) bx (qv, (k : Int)) ∧ SpBox (w3.alloc (.cells #[.int .i64 v.1, .int .i64 v.2] 42)) bh v ∧ SpBox (w3.alloc (.cells #[.int .i64 v.1, .int .i64 v.2] 42)) w3.heap.size v) := by
            intro W2 bh H
            refine (set_anyP W2 _ f (k : Int) (qv, (k : Int)) H.out.1.1).mono ?_
            rintro e w3 ⟨rfl, k3, T3⟩
            have ka := Keeps.new w3 (.cells #[.int .i64 v.1, .int .i64 v.2] 42)
            have he : errF (k : Int) = 0 := by simp [errF, isOff_of hk512]
            refine ⟨by rw [hv, he], (H.out.1.set k3 T3).keep ka, (H.out.2.1.keep k3 (H.out.1.1.ne_box H.out.2.1)).keep ka id, (H.out.2.2.keep k3 (H.out.1.1.ne_box H.out.2.2)).keep ka id, (MapKept.heap_alloc w3 _).1⟩
          have h17b : ∀ W3 bh bw, Hid (SL w w.heap.size (setFP f (k : Int) (qv, (k : Int))) W3 ∧ SpBox W3 bx (qv, (k : Int)) ∧ SpBox W3 bh v ∧ SpBox W3 bw v) → ∀ nn, Calls Try.prog 17 #[.pointer (some ⟨w.heap.size, 0, none⟩), .int .i64 (k : Int)] (W3.drewN nn) fun e w4 => e = .returned (.agg #[.int .i64 qv, .int .i64 (k : Int)]) ∧ Hid (SL w w.heap.size (setFP f (k : Int) (qv, (k : Int))) w4) ∧
              w4.cell? ⟨bx, 0, none⟩ = some (.int .i64 qv) ∧ w4.cell? ⟨bx, 1, none⟩ = some (.int .i64 (k : Int)) ∧ w4.cell? ⟨bh, 0, none⟩ = some (.int .i64 v.1) ∧ w4.cell? ⟨bh, 1, none⟩ = some (.int .i64 v.2) ∧ w4.cell? ⟨bw, 0, none⟩ = some (.int .i64 v.1) ∧ w4.cell? ⟨bw, 1, none⟩ = some (.int .i64 v.2) := by
            intro W3 bh bw H nn
            have kd := Keeps.drewN (fun _ => False) W3 nn
            refine (get_anyP (W3.drewN nn) _ _ (k : Int) (H.out.1.1.keep kd)).mono ?_
            rintro e w4 ⟨rfl, k4⟩
            have kk := kd.trans k4
            have g1 := (H.out.2.1.keep kk id).cells
            have g2 := (H.out.2.2.1.keep kk id).cells
            have g3 := (H.out.2.2.2.keep kk id).cells
            exact ⟨by rw [get_setP f (qv, (k : Int)) hk512], H.out.1.keep kk, g1.1, g1.2, g2.1, g2.2, g3.1, g3.2⟩
          have H17 := Hid.mk' h17
          have H18 := Hid.mk' h18
          have H17b := Hid.mk' h17b
          clear h17 h18 h17b hv
          go_wp2_with (first
            | (go_at_call 18; refine (H18.out _ _ H2).mono ?_; clear H2 H18; rintro e w3 ⟨rfl, H3⟩; have z := H3.out; obtain ⟨_, y1, y2, y3⟩ := z; have y1 := y1.cells; have y2 := y2.cells; have y3 := y3.cells; obtain ⟨y10, y11⟩ := y1; obtain ⟨y20, y21⟩ := y2; obtain ⟨y30, y31⟩ := y3)
            | (go_at_call 17; refine (H17.out _ (Hid.mk' ⟨HR.out.keep (Keeps.new wr _), by rw [← hbx]; exact SpBox.new wr qv (k : Int)⟩)).mono ?_; clear H17; rintro e w2 ⟨rfl, H2, z0, z1⟩)
            | (go_at_call 16; refine (h16 _).mono ?_; rintro e w0 ⟨rfl, hw0⟩; subst w0; clear h16))
          go_region_held3 (fun wx => wx.cell? ⟨bx, 0, none⟩ = some (.int .i64 qv) ∧ wx.cell? ⟨bx, 1, none⟩ = some (.int .i64 (k : Int)) ∧ wx.cell? ⟨w2.heap.size, 0, none⟩ = some (.int .i64 v.1) ∧ wx.cell? ⟨w2.heap.size, 1, none⟩ = some (.int .i64 v.2) ∧ wx.cell? ⟨w3.heap.size, 0, none⟩ = some (.int .i64 v.1) ∧ wx.cell? ⟨w3.heap.size, 1, none⟩ = some (.int .i64 v.2))
            (first | go_keep)
            (first
              | (go_at_call 17; refine (H17b.out _ _ _ H3 _).mono ?_; clear H17b; rintro e w4 ⟨rfl, H4, x1, x2, x3, x4, x5, x6⟩))
          all_goals
            go_wp2
            go_roundw
            case rel => exact ⟨i + 1, _, by omega, by go_num, H4⟩
            case measure => simp [intOf]; omega
        | true =>
          obtain ⟨v, hv⟩ : ∃ v, getFP f (k : Int) = v := ⟨_, rfl⟩
          obtain ⟨bx, hbx⟩ : ∃ b, wr.heap.size = b := ⟨_, rfl⟩
          have n0 := (Keeps.new wr (.cells #[.int .i64 qv, .int .i64 (k : Int)] 42)).cell c0 id
          have h17 : ∀ W1, Hid (SL w w.heap.size f W1 ∧ SpBox W1 bx ((0 : Int), (0 : Int))) → Calls Try.prog 17 #[.pointer (some ⟨w.heap.size, 0, none⟩), .int .i64 (k : Int)] W1 fun e w2 => e = .returned (.agg #[.int .i64 v.1, .int .i64 v.2]) ∧ Hid (SL w w.heap.size f (w2.alloc (.cells #[.int .i64 v.1, .int .i64 v.2] 42)) ∧ SpBox (w2.alloc (.cells #[.int .i64 v.1, .int .i64 v.2] 42)) bx ((0 : Int), (0 : Int)) ∧ SpBox (w2.alloc (.cells #[.int .i64 v.1, .int .i64 v.2] 42)) w2.heap.size v) ∧
              (w2.alloc (.cells #[.int .i64 v.1, .int .i64 v.2] 42)).cell? ⟨bx, 0, none⟩ = some (.int .i64 0) ∧ (w2.alloc (.cells #[.int .i64 v.1, .int .i64 v.2] 42)).cell? ⟨bx, 1, none⟩ = some (.int .i64 0) := by
            intro W1 H
            refine (get_anyP W1 _ f (k : Int) H.out.1.1).mono ?_
            rintro e w2 ⟨rfl, k2⟩
            have k2' := k2.trans (Keeps.new w2 (.cells #[.int .i64 v.1, .int .i64 v.2] 42))
            have hb := H.out.2.keep k2' id
            exact ⟨by rw [hv], ⟨H.out.1.keep k2', hb, (MapKept.heap_alloc w2 _).1⟩, hb.cells.1, hb.cells.2⟩
          have h18 : ∀ W2 bh, Hid (SL w w.heap.size f W2 ∧ SpBox W2 bx ((0 : Int), (0 : Int)) ∧ SpBox W2 bh v) → Calls Try.prog 18 #[.pointer (some ⟨w.heap.size, 0, none⟩), .int .i64 (k : Int), .agg #[.int .i64 0, .int .i64 0]] W2 fun e w3 => e = .returned (.tuple #[.agg #[.int .i64 v.1, .int .i64 v.2], .int .i64 0]) ∧ Hid (SL w w.heap.size (setFP f (k : Int) ((0 : Int), (0 : Int))) (w3.alloc (.cells #[.int .i64 v.1, .int .i64 v.2] 42)) ∧ SpBox (w3.alloc (.cells #[.int .i64 v.1, .int .i64 v.2] 42)) bx ((0 : Int), (0 : Int)) ∧ SpBox (w3.alloc (.cells #[.int .i64 v.1, .int .i64 v.2] 42)) bh v ∧ SpBox (w3.alloc (.cells #[.int .i64 v.1, .int .i64 v.2] 42)) w3.heap.size v) := by
            intro W2 bh H
            refine (set_anyP W2 _ f (k : Int) ((0 : Int), (0 : Int)) H.out.1.1).mono ?_
            rintro e w3 ⟨rfl, k3, T3⟩
            have ka := Keeps.new w3 (.cells #[.int .i64 v.1, .int .i64 v.2] 42)
            have he : errF (k : Int) = 0 := by simp [errF, isOff_of hk512]
            refine ⟨by rw [hv, he], (H.out.1.set k3 T3).keep ka, (H.out.2.1.keep k3 (H.out.1.1.ne_box H.out.2.1)).keep ka id, (H.out.2.2.keep k3 (H.out.1.1.ne_box H.out.2.2)).keep ka id, (MapKept.heap_alloc w3 _).1⟩
          have h17b : ∀ W3 bh bw, Hid (SL w w.heap.size (setFP f (k : Int) ((0 : Int), (0 : Int))) W3 ∧ SpBox W3 bx ((0 : Int), (0 : Int)) ∧ SpBox W3 bh v ∧ SpBox W3 bw v) → ∀ nn, Calls Try.prog 17 #[.pointer (some ⟨w.heap.size, 0, none⟩), .int .i64 (k : Int)] (W3.drewN nn) fun e w4 => e = .returned (.agg #[.int .i64 0, .int .i64 0]) ∧ Hid (SL w w.heap.size (setFP f (k : Int) ((0 : Int), (0 : Int))) w4) ∧
              w4.cell? ⟨bx, 0, none⟩ = some (.int .i64 0) ∧ w4.cell? ⟨bx, 1, none⟩ = some (.int .i64 0) ∧ w4.cell? ⟨bh, 0, none⟩ = some (.int .i64 v.1) ∧ w4.cell? ⟨bh, 1, none⟩ = some (.int .i64 v.2) ∧ w4.cell? ⟨bw, 0, none⟩ = some (.int .i64 v.1) ∧ w4.cell? ⟨bw, 1, none⟩ = some (.int .i64 v.2) := by
            intro W3 bh bw H nn
            have kd := Keeps.drewN (fun _ => False) W3 nn
            refine (get_anyP (W3.drewN nn) _ _ (k : Int) (H.out.1.1.keep kd)).mono ?_
            rintro e w4 ⟨rfl, k4⟩
            have kk := kd.trans k4
            have g1 := (H.out.2.1.keep kk id).cells
            have g2 := (H.out.2.2.1.keep kk id).cells
            have g3 := (H.out.2.2.2.keep kk id).cells
            exact ⟨by rw [get_setP f ((0 : Int), (0 : Int)) hk512], H.out.1.keep kk, g1.1, g1.2, g2.1, g2.2, g3.1, g3.2⟩
          have H17 := Hid.mk' h17
          have H18 := Hid.mk' h18
          have H17b := Hid.mk' h17b
          clear h17 h18 h17b hv
          go_wp2_with (first
            | (go_at_call 18; refine (H18.out _ _ H2).mono ?_; clear H2 H18; rintro e w3 ⟨rfl, H3⟩; have z := H3.out; obtain ⟨_, y1, y2, y3⟩ := z; have y1 := y1.cells; have y2 := y2.cells; have y3 := y3.cells; obtain ⟨y10, y11⟩ := y1; obtain ⟨y20, y21⟩ := y2; obtain ⟨y30, y31⟩ := y3)
            | (go_at_call 17; refine (H17.out _ (Hid.mk' ⟨HR.out.keep (Keeps.new wr _), by rw [← hbx]; exact SpBox.new wr 0 0⟩)).mono ?_; clear H17; rintro e w2 ⟨rfl, H2, z0, z1⟩)
            | (go_at_call 16; refine (h16 _).mono ?_; rintro e w0 ⟨rfl, hw0⟩; subst w0; clear h16))
          go_region_held3 (fun wx => wx.cell? ⟨bx, 0, none⟩ = some (.int .i64 0) ∧ wx.cell? ⟨bx, 1, none⟩ = some (.int .i64 0) ∧ wx.cell? ⟨w2.heap.size, 0, none⟩ = some (.int .i64 v.1) ∧ wx.cell? ⟨w2.heap.size, 1, none⟩ = some (.int .i64 v.2) ∧ wx.cell? ⟨w3.heap.size, 0, none⟩ = some (.int .i64 v.1) ∧ wx.cell? ⟨w3.heap.size, 1, none⟩ = some (.int .i64 v.2))
            (first | go_keep)
            (first
              | (go_at_call 17; refine (H17b.out _ _ _ H3 _).mono ?_; clear H17b; rintro e w4 ⟨rfl, H4, x1, x2, x3, x4, x5, x6⟩))
          all_goals
            go_wp2
            go_roundw
            case rel => exact ⟨i + 1, _, by omega, by go_num, H4⟩
            case measure => simp [intOf]; omega
      · have h1' : (i : Int) < (l.length : Int) := by omega
        have h4' : ¬ (i : Int) < 400 := by omega
        obtain ⟨n, hn⟩ : ∃ n : Nat, (elsP f 0 0 512).length = n := ⟨_, rfl⟩
        obtain ⟨m, hm⟩ : ∃ m : Nat, (elsP (setFP f (o : Int) (1, 1)) 0 0 512).length = m := ⟨_, rfl⟩
        have h19 : Calls Try.prog 19 #[.pointer (some ⟨w.heap.size, 0, none⟩)] wr fun e w' => e = .returned (.int .i64 (n : Int)) ∧ Hid (SL w w.heap.size f w') := by
          refine (len_anyP wr _ f HR.out.1).mono ?_
          rintro e w' ⟨rfl, k⟩
          exact ⟨by rw [hn], HR.out.keep k⟩
        have h20 : ∀ W, Hid (SL w w.heap.size f W) → Calls Try.prog 20 #[.pointer (some ⟨w.heap.size, 0, none⟩)] W fun e w' => ∃ c, e = .returned (.pointer (some ⟨c, 0, none⟩)) ∧ Hid (SC w w.heap.size c f f w') := by
          intro W H
          refine (copy_anyP W _ f H.out.1).mono ?_
          rintro e w' ⟨rfl, h⟩
          have := H.out.1.lt
          exact ⟨_, rfl, H.out.keep h.out.1, h.out.2, by omega, H.out.2.1.size⟩
        have h19c : ∀ W c, Hid (SC w w.heap.size c f f W) → Calls Try.prog 19 #[.pointer (some ⟨c, 0, none⟩)] W fun e w' => e = .returned (.int .i64 (n : Int)) ∧ Hid (SC w w.heap.size c f f ((w'.alloc (.cells #[.int .i64 1, .int .i64 1] 42)).alloc (.cells #[.int .i64 2, .int .i64 2] 42)) ∧ SpBox ((w'.alloc (.cells #[.int .i64 1, .int .i64 1] 42)).alloc (.cells #[.int .i64 2, .int .i64 2] 42)) w'.heap.size (1, 1) ∧ SpBox ((w'.alloc (.cells #[.int .i64 1, .int .i64 1] 42)).alloc (.cells #[.int .i64 2, .int .i64 2] 42)) (w'.heap.size + 1) (2, 2)) := by
          intro W c H
          refine (len_anyP W _ f H.out.2.1).mono ?_
          rintro e w' ⟨rfl, k⟩
          have k1 := Keeps.new w' (.cells #[.int .i64 1, .int .i64 1] 42)
          have k2 := Keeps.new (w'.alloc (.cells #[.int .i64 1, .int .i64 1] 42)) (.cells #[.int .i64 2, .int .i64 2] 42)
          have b2 := SpBox.new (w'.alloc (.cells #[.int .i64 1, .int .i64 1] 42)) 2 2
          rw [World.size_alloc] at b2
          exact ⟨by rw [hn], H.out.keep ((k.trans k1).trans k2), (SpBox.new w' 1 1).keep k2 id, b2⟩
        have h18u : ∀ W c bx by_, Hid (SC w w.heap.size c f f W ∧ SpBox W bx (1, 1) ∧ SpBox W by_ (2, 2)) → Calls Try.prog 18 #[.pointer (some ⟨w.heap.size, 0, none⟩), .int .i64 (o : Int), .agg #[.int .i64 1, .int .i64 1]] W fun e w' => ∃ v, e = .returned v ∧ Hid (SC w w.heap.size c (setFP f (o : Int) (1, 1)) f w' ∧ SpBox w' bx (1, 1) ∧ SpBox w' by_ (2, 2)) ∧ w'.cell? ⟨by_, 0, none⟩ = some (.int .i64 2) ∧ w'.cell? ⟨by_, 1, none⟩ = some (.int .i64 2) := by
          intro W c bx by_ H
          refine (set_anyP W _ f (o : Int) (1, 1) H.out.1.1.1).mono ?_
          rintro e w' ⟨rfl, k, T⟩
          have hb := H.out.2.2.keep k (H.out.1.1.1.ne_box H.out.2.2)
          exact ⟨_, rfl, ⟨H.out.1.setU k T, H.out.2.1.keep k (H.out.1.1.1.ne_box H.out.2.1), hb⟩, hb.cells⟩
        have h18c : ∀ W c bx, Hid (SC w w.heap.size c (setFP f (o : Int) (1, 1)) f W ∧ SpBox W bx (1, 1)) → Calls Try.prog 18 #[.pointer (some ⟨c, 0, none⟩), .int .i64 (o : Int), .agg #[.int .i64 2, .int .i64 2]] W fun e w' => ∃ v, e = .returned v ∧ Hid (SC w w.heap.size c (setFP f (o : Int) (1, 1)) (setFP f (o : Int) (2, 2)) w' ∧ SpBox w' bx (1, 1)) := by
          intro W c bx H
          refine (set_anyP W _ f (o : Int) (2, 2) H.out.1.2.1).mono ?_
          rintro e w' ⟨rfl, k, T⟩
          exact ⟨_, rfl, H.out.1.setC k T, H.out.2.keep k (H.out.1.2.1.ne_box H.out.2)⟩
        have h19d : ∀ W c g bx, Hid (SC w w.heap.size c (setFP f (o : Int) (1, 1)) g W ∧ SpBox W bx (1, 1)) → Calls Try.prog 19 #[.pointer (some ⟨w.heap.size, 0, none⟩)] W fun e w' => e = .returned (.int .i64 (m : Int)) ∧ Hid (SC w w.heap.size c (setFP f (o : Int) (1, 1)) g w' ∧ SpBox w' bx (1, 1)) ∧ w'.cell? ⟨bx, 0, none⟩ = some (.int .i64 1) ∧ w'.cell? ⟨bx, 1, none⟩ = some (.int .i64 1) := by
          intro W c g bx H
          refine (len_anyP W _ _ H.out.1.1.1).mono ?_
          rintro e w' ⟨rfl, k⟩
          have hb := H.out.2.keep k id
          exact ⟨by rw [hm], ⟨H.out.1.keep k, hb⟩, hb.cells⟩
        have h21 : ∀ W c g bx, Hid (SC w w.heap.size c (setFP f (o : Int) (1, 1)) g W ∧ SpBox W bx (1, 1)) → Calls Try.prog 21 #[.pointer (some ⟨c, 0, none⟩), .int .i64 0] W fun e w' => ∃ v, e = .returned v ∧ Hid (SC w w.heap.size c (setFP f (o : Int) (1, 1)) (cutFP g 0 0) w' ∧ SpBox w' bx (1, 1)) ∧ w'.cell? ⟨bx, 0, none⟩ = some (.int .i64 1) ∧ w'.cell? ⟨bx, 1, none⟩ = some (.int .i64 1) := by
          intro W c g bx H
          refine (cut_anyP W _ 0 g H.out.1.2.1).mono ?_
          rintro e w' ⟨s, rfl, h⟩
          have hb := H.out.2.keep h.out.1 (H.out.1.2.1.ne_box H.out.2)
          exact ⟨s, rfl, ⟨H.out.1.setC h.out.1 h.out.2, hb⟩, hb.cells⟩
        have h17u : ∀ W c g bx, Hid (SC w w.heap.size c (setFP f (o : Int) (1, 1)) g W ∧ SpBox W bx (1, 1)) → ∀ nn, Calls Try.prog 17 #[.pointer (some ⟨w.heap.size, 0, none⟩), .int .i64 (o : Int)] (W.drewN nn) fun e w' => e = .returned (.agg #[.int .i64 1, .int .i64 1]) ∧ Hid (SC w w.heap.size c (setFP f (o : Int) (1, 1)) g w' ∧ SpBox w' bx (1, 1)) ∧ w'.cell? ⟨bx, 0, none⟩ = some (.int .i64 1) ∧ w'.cell? ⟨bx, 1, none⟩ = some (.int .i64 1) := by
          intro W c g bx H nn
          have kd := Keeps.drewN (fun _ => False) W nn
          refine (get_anyP (W.drewN nn) _ _ (o : Int) (H.out.1.1.1.keep kd)).mono ?_
          rintro e w' ⟨rfl, k⟩
          have hb := H.out.2.keep (kd.trans k) id
          exact ⟨by rw [get_setP f _ ho512], ⟨H.out.1.keep (kd.trans k), hb⟩, hb.cells⟩
        have h19e : ∀ W c g bx, Hid (SC w w.heap.size c (setFP f (o : Int) (1, 1)) (cutFP g 0 0) W ∧ SpBox W bx (1, 1)) → Calls Try.prog 19 #[.pointer (some ⟨c, 0, none⟩)] W fun e w' => e = .returned (.int .i64 0) ∧ Hid (SC w w.heap.size c (setFP f (o : Int) (1, 1)) (cutFP g 0 0) w' ∧ SpBox w' bx (1, 1)) ∧ w'.cell? ⟨bx, 0, none⟩ = some (.int .i64 1) ∧ w'.cell? ⟨bx, 1, none⟩ = some (.int .i64 1) := by
          intro W c g bx H
          refine (len_anyP W _ _ H.out.1.2.1).mono ?_
          rintro e w' ⟨rfl, k⟩
          have hb := H.out.2.keep k id
          exact ⟨by rw [els_cutP]; rfl, ⟨H.out.1.keep k, hb⟩, hb.cells⟩
        have h17c : ∀ W c g bx, Hid (SC w w.heap.size c (setFP f (o : Int) (1, 1)) (cutFP g 0 0) W ∧ SpBox W bx (1, 1)) → Calls Try.prog 17 #[.pointer (some ⟨c, 0, none⟩), .int .i64 (o : Int)] W fun e w' => e = .returned (.agg #[.int .i64 0, .int .i64 0]) ∧ Hid (SC w w.heap.size c (setFP f (o : Int) (1, 1)) (cutFP g 0 0) w' ∧ SpBox w' bx (1, 1)) ∧ w'.cell? ⟨bx, 0, none⟩ = some (.int .i64 1) ∧ w'.cell? ⟨bx, 1, none⟩ = some (.int .i64 1) := by
          intro W c g bx H
          refine (get_anyP W _ _ (o : Int) H.out.1.2.1).mono ?_
          rintro e w' ⟨rfl, k⟩
          have hb := H.out.2.keep k id
          exact ⟨by rw [get_cutP], ⟨H.out.1.keep k, hb⟩, hb.cells⟩
        have K20 := Hid.mk' h20
        have K19c := Hid.mk' h19c
        have K18u := Hid.mk' h18u
        have K18c := Hid.mk' h18c
        have K19d := Hid.mk' h19d
        have K21 := Hid.mk' h21
        have K17u := Hid.mk' h17u
        have K19e := Hid.mk' h19e
        have K17c := Hid.mk' h17c
        have K19 := Hid.mk' h19
        clear h19 h20 h19c h18u h18c h19d h21 h17u h19e h17c hn hm HR
        go_wp2_with (first
          | (go_at_call 21; refine (K21.out _ _ _ _ G6).mono ?_; clear G6; rintro e w27 ⟨v27, rfl, G7, r1, r2⟩)
          | (go_at_call 19; refine (K19d.out _ _ _ _ G5).mono ?_; clear G5; rintro e w26 ⟨rfl, G6, r3, r4⟩)
          | (go_at_call 18; refine (K18c.out _ _ _ (Hid.mk' ⟨G4.out.1, G4.out.2.1⟩)).mono ?_; clear G4; rintro e w25 ⟨v25, rfl, G5⟩)
          | (go_at_call 18; refine (K18u.out _ _ _ _ G3).mono ?_; clear G3; rintro e w24 ⟨v24, rfl, G4, r5, r6⟩)
          | (go_at_call 19; refine (K19c.out _ _ G2).mono ?_; clear G2; rintro e w23 ⟨rfl, G3⟩)
          | (go_at_call 20; refine (K20.out _ G1).mono ?_; clear G1; rintro e w22 ⟨c22, rfl, G2⟩)
          | (go_at_call 19; refine K19.out.mono ?_; clear K19; rintro e w21 ⟨rfl, G1⟩))
        go_region_held3 (fun wx => wx.cell? ⟨w23.heap.size, 0, none⟩ = some (.int .i64 1) ∧ wx.cell? ⟨w23.heap.size, 1, none⟩ = some (.int .i64 1))
          (first | go_keep)
          (first
            | (go_at_call 17; refine (K17c.out _ _ _ _ T3).mono ?_; clear T3; rintro e w34 ⟨rfl, T4, q1, q2⟩)
            | (go_at_call 19; refine (K19e.out _ _ _ _ T2).mono ?_; clear T2; rintro e w33 ⟨rfl, T3, q3, q4⟩)
            | (go_at_call 19; refine (K19d.out _ _ _ _ T1).mono ?_; clear T1; rintro e w32 ⟨rfl, T2, q5, q6⟩)
            | (go_at_call 17; refine (K17u.out _ _ _ _ G7 _).mono ?_; clear G7; rintro e w31 ⟨rfl, T1, q7, q8⟩))
        all_goals
          go_wp2
          go_ret
          first
            | exact ⟨rfl, T4.out.1.1.2.1⟩
            | exact ⟨ret_bool (by simp), T4.out.1.1.2.1⟩
    · have h1' : ¬ (i : Int) < (l.length : Int) := by omega
      obtain ⟨n, hn⟩ : ∃ n : Nat, (elsP f 0 0 512).length = n := ⟨_, rfl⟩
      obtain ⟨m, hm⟩ : ∃ m : Nat, (elsP (setFP f (o : Int) (1, 1)) 0 0 512).length = m := ⟨_, rfl⟩
      have h19 : Calls Try.prog 19 #[.pointer (some ⟨w.heap.size, 0, none⟩)] wr fun e w' => e = .returned (.int .i64 (n : Int)) ∧ Hid (SL w w.heap.size f w') := by
        refine (len_anyP wr _ f HR.out.1).mono ?_
        rintro e w' ⟨rfl, k⟩
        exact ⟨by rw [hn], HR.out.keep k⟩
      have h20 : ∀ W, Hid (SL w w.heap.size f W) → Calls Try.prog 20 #[.pointer (some ⟨w.heap.size, 0, none⟩)] W fun e w' => ∃ c, e = .returned (.pointer (some ⟨c, 0, none⟩)) ∧ Hid (SC w w.heap.size c f f w') := by
        intro W H
        refine (copy_anyP W _ f H.out.1).mono ?_
        rintro e w' ⟨rfl, h⟩
        have := H.out.1.lt
        exact ⟨_, rfl, H.out.keep h.out.1, h.out.2, by omega, H.out.2.1.size⟩
      have h19c : ∀ W c, Hid (SC w w.heap.size c f f W) → Calls Try.prog 19 #[.pointer (some ⟨c, 0, none⟩)] W fun e w' => e = .returned (.int .i64 (n : Int)) ∧ Hid (SC w w.heap.size c f f ((w'.alloc (.cells #[.int .i64 1, .int .i64 1] 42)).alloc (.cells #[.int .i64 2, .int .i64 2] 42)) ∧ SpBox ((w'.alloc (.cells #[.int .i64 1, .int .i64 1] 42)).alloc (.cells #[.int .i64 2, .int .i64 2] 42)) w'.heap.size (1, 1) ∧ SpBox ((w'.alloc (.cells #[.int .i64 1, .int .i64 1] 42)).alloc (.cells #[.int .i64 2, .int .i64 2] 42)) (w'.heap.size + 1) (2, 2)) := by
        intro W c H
        refine (len_anyP W _ f H.out.2.1).mono ?_
        rintro e w' ⟨rfl, k⟩
        have k1 := Keeps.new w' (.cells #[.int .i64 1, .int .i64 1] 42)
        have k2 := Keeps.new (w'.alloc (.cells #[.int .i64 1, .int .i64 1] 42)) (.cells #[.int .i64 2, .int .i64 2] 42)
        have b2 := SpBox.new (w'.alloc (.cells #[.int .i64 1, .int .i64 1] 42)) 2 2
        rw [World.size_alloc] at b2
        exact ⟨by rw [hn], H.out.keep ((k.trans k1).trans k2), (SpBox.new w' 1 1).keep k2 id, b2⟩
      have h18u : ∀ W c bx by_, Hid (SC w w.heap.size c f f W ∧ SpBox W bx (1, 1) ∧ SpBox W by_ (2, 2)) → Calls Try.prog 18 #[.pointer (some ⟨w.heap.size, 0, none⟩), .int .i64 (o : Int), .agg #[.int .i64 1, .int .i64 1]] W fun e w' => ∃ v, e = .returned v ∧ Hid (SC w w.heap.size c (setFP f (o : Int) (1, 1)) f w' ∧ SpBox w' bx (1, 1) ∧ SpBox w' by_ (2, 2)) ∧ w'.cell? ⟨by_, 0, none⟩ = some (.int .i64 2) ∧ w'.cell? ⟨by_, 1, none⟩ = some (.int .i64 2) := by
        intro W c bx by_ H
        refine (set_anyP W _ f (o : Int) (1, 1) H.out.1.1.1).mono ?_
        rintro e w' ⟨rfl, k, T⟩
        have hb := H.out.2.2.keep k (H.out.1.1.1.ne_box H.out.2.2)
        exact ⟨_, rfl, ⟨H.out.1.setU k T, H.out.2.1.keep k (H.out.1.1.1.ne_box H.out.2.1), hb⟩, hb.cells⟩
      have h18c : ∀ W c bx, Hid (SC w w.heap.size c (setFP f (o : Int) (1, 1)) f W ∧ SpBox W bx (1, 1)) → Calls Try.prog 18 #[.pointer (some ⟨c, 0, none⟩), .int .i64 (o : Int), .agg #[.int .i64 2, .int .i64 2]] W fun e w' => ∃ v, e = .returned v ∧ Hid (SC w w.heap.size c (setFP f (o : Int) (1, 1)) (setFP f (o : Int) (2, 2)) w' ∧ SpBox w' bx (1, 1)) := by
        intro W c bx H
        refine (set_anyP W _ f (o : Int) (2, 2) H.out.1.2.1).mono ?_
        rintro e w' ⟨rfl, k, T⟩
        exact ⟨_, rfl, H.out.1.setC k T, H.out.2.keep k (H.out.1.2.1.ne_box H.out.2)⟩
      have h19d : ∀ W c g bx, Hid (SC w w.heap.size c (setFP f (o : Int) (1, 1)) g W ∧ SpBox W bx (1, 1)) → Calls Try.prog 19 #[.pointer (some ⟨w.heap.size, 0, none⟩)] W fun e w' => e = .returned (.int .i64 (m : Int)) ∧ Hid (SC w w.heap.size c (setFP f (o : Int) (1, 1)) g w' ∧ SpBox w' bx (1, 1)) ∧ w'.cell? ⟨bx, 0, none⟩ = some (.int .i64 1) ∧ w'.cell? ⟨bx, 1, none⟩ = some (.int .i64 1) := by
        intro W c g bx H
        refine (len_anyP W _ _ H.out.1.1.1).mono ?_
        rintro e w' ⟨rfl, k⟩
        have hb := H.out.2.keep k id
        exact ⟨by rw [hm], ⟨H.out.1.keep k, hb⟩, hb.cells⟩
      have h21 : ∀ W c g bx, Hid (SC w w.heap.size c (setFP f (o : Int) (1, 1)) g W ∧ SpBox W bx (1, 1)) → Calls Try.prog 21 #[.pointer (some ⟨c, 0, none⟩), .int .i64 0] W fun e w' => ∃ v, e = .returned v ∧ Hid (SC w w.heap.size c (setFP f (o : Int) (1, 1)) (cutFP g 0 0) w' ∧ SpBox w' bx (1, 1)) ∧ w'.cell? ⟨bx, 0, none⟩ = some (.int .i64 1) ∧ w'.cell? ⟨bx, 1, none⟩ = some (.int .i64 1) := by
        intro W c g bx H
        refine (cut_anyP W _ 0 g H.out.1.2.1).mono ?_
        rintro e w' ⟨s, rfl, h⟩
        have hb := H.out.2.keep h.out.1 (H.out.1.2.1.ne_box H.out.2)
        exact ⟨s, rfl, ⟨H.out.1.setC h.out.1 h.out.2, hb⟩, hb.cells⟩
      have h17u : ∀ W c g bx, Hid (SC w w.heap.size c (setFP f (o : Int) (1, 1)) g W ∧ SpBox W bx (1, 1)) → ∀ nn, Calls Try.prog 17 #[.pointer (some ⟨w.heap.size, 0, none⟩), .int .i64 (o : Int)] (W.drewN nn) fun e w' => e = .returned (.agg #[.int .i64 1, .int .i64 1]) ∧ Hid (SC w w.heap.size c (setFP f (o : Int) (1, 1)) g w' ∧ SpBox w' bx (1, 1)) ∧ w'.cell? ⟨bx, 0, none⟩ = some (.int .i64 1) ∧ w'.cell? ⟨bx, 1, none⟩ = some (.int .i64 1) := by
        intro W c g bx H nn
        have kd := Keeps.drewN (fun _ => False) W nn
        refine (get_anyP (W.drewN nn) _ _ (o : Int) (H.out.1.1.1.keep kd)).mono ?_
        rintro e w' ⟨rfl, k⟩
        have hb := H.out.2.keep (kd.trans k) id
        exact ⟨by rw [get_setP f _ ho512], ⟨H.out.1.keep (kd.trans k), hb⟩, hb.cells⟩
      have h19e : ∀ W c g bx, Hid (SC w w.heap.size c (setFP f (o : Int) (1, 1)) (cutFP g 0 0) W ∧ SpBox W bx (1, 1)) → Calls Try.prog 19 #[.pointer (some ⟨c, 0, none⟩)] W fun e w' => e = .returned (.int .i64 0) ∧ Hid (SC w w.heap.size c (setFP f (o : Int) (1, 1)) (cutFP g 0 0) w' ∧ SpBox w' bx (1, 1)) ∧ w'.cell? ⟨bx, 0, none⟩ = some (.int .i64 1) ∧ w'.cell? ⟨bx, 1, none⟩ = some (.int .i64 1) := by
        intro W c g bx H
        refine (len_anyP W _ _ H.out.1.2.1).mono ?_
        rintro e w' ⟨rfl, k⟩
        have hb := H.out.2.keep k id
        exact ⟨by rw [els_cutP]; rfl, ⟨H.out.1.keep k, hb⟩, hb.cells⟩
      have h17c : ∀ W c g bx, Hid (SC w w.heap.size c (setFP f (o : Int) (1, 1)) (cutFP g 0 0) W ∧ SpBox W bx (1, 1)) → Calls Try.prog 17 #[.pointer (some ⟨c, 0, none⟩), .int .i64 (o : Int)] W fun e w' => e = .returned (.agg #[.int .i64 0, .int .i64 0]) ∧ Hid (SC w w.heap.size c (setFP f (o : Int) (1, 1)) (cutFP g 0 0) w' ∧ SpBox w' bx (1, 1)) ∧ w'.cell? ⟨bx, 0, none⟩ = some (.int .i64 1) ∧ w'.cell? ⟨bx, 1, none⟩ = some (.int .i64 1) := by
        intro W c g bx H
        refine (get_anyP W _ _ (o : Int) H.out.1.2.1).mono ?_
        rintro e w' ⟨rfl, k⟩
        have hb := H.out.2.keep k id
        exact ⟨by rw [get_cutP], ⟨H.out.1.keep k, hb⟩, hb.cells⟩
      have K20 := Hid.mk' h20
      have K19c := Hid.mk' h19c
      have K18u := Hid.mk' h18u
      have K18c := Hid.mk' h18c
      have K19d := Hid.mk' h19d
      have K21 := Hid.mk' h21
      have K17u := Hid.mk' h17u
      have K19e := Hid.mk' h19e
      have K17c := Hid.mk' h17c
      have K19 := Hid.mk' h19
      clear h19 h20 h19c h18u h18c h19d h21 h17u h19e h17c hn hm HR
      go_wp2_with (first
        | (go_at_call 21; refine (K21.out _ _ _ _ G6).mono ?_; clear G6; rintro e w27 ⟨v27, rfl, G7, r1, r2⟩)
        | (go_at_call 19; refine (K19d.out _ _ _ _ G5).mono ?_; clear G5; rintro e w26 ⟨rfl, G6, r3, r4⟩)
        | (go_at_call 18; refine (K18c.out _ _ _ (Hid.mk' ⟨G4.out.1, G4.out.2.1⟩)).mono ?_; clear G4; rintro e w25 ⟨v25, rfl, G5⟩)
        | (go_at_call 18; refine (K18u.out _ _ _ _ G3).mono ?_; clear G3; rintro e w24 ⟨v24, rfl, G4, r5, r6⟩)
        | (go_at_call 19; refine (K19c.out _ _ G2).mono ?_; clear G2; rintro e w23 ⟨rfl, G3⟩)
        | (go_at_call 20; refine (K20.out _ G1).mono ?_; clear G1; rintro e w22 ⟨c22, rfl, G2⟩)
        | (go_at_call 19; refine K19.out.mono ?_; clear K19; rintro e w21 ⟨rfl, G1⟩))
      go_region_held3 (fun wx => wx.cell? ⟨w23.heap.size, 0, none⟩ = some (.int .i64 1) ∧ wx.cell? ⟨w23.heap.size, 1, none⟩ = some (.int .i64 1))
        (first | go_keep)
        (first
          | (go_at_call 17; refine (K17c.out _ _ _ _ T3).mono ?_; clear T3; rintro e w34 ⟨rfl, T4, q1, q2⟩)
          | (go_at_call 19; refine (K19e.out _ _ _ _ T2).mono ?_; clear T2; rintro e w33 ⟨rfl, T3, q3, q4⟩)
          | (go_at_call 19; refine (K19d.out _ _ _ _ T1).mono ?_; clear T1; rintro e w32 ⟨rfl, T2, q5, q6⟩)
          | (go_at_call 17; refine (K17u.out _ _ _ _ G7 _).mono ?_; clear G7; rintro e w31 ⟨rfl, T1, q7, q8⟩))
      all_goals
        go_wp2
        go_ret
        first
          | exact ⟨rfl, T4.out.1.1.2.1⟩
          | exact ⟨ret_bool (by simp), T4.out.1.1.2.1⟩

end Go.Proofs.Ytndojlacdggfcaa
