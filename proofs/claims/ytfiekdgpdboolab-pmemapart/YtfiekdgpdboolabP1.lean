import Derived.Test.YtfiekdgpdboolabN3
import Derived.Test.YtfiekdgpdboolabO1
namespace Go.Proofs.Ytfiekdgpdboolab
open Go.RowKit Go.Maps

/-- What some calls have made of a device. -/
def Moved (F : Nat → Prop) (d : Nat) (w w' : World) (T : St) : Prop := ∃ F' L', DevAt w' F' d T L' ∧ Keeps F w w' ∧ Fresh F F' w

theorem moved_next {F F1 : Nat → Prop} {d : Nat} {w w1 w2 : World} {T : St} (hk : Keeps F w w1) (hf : Fresh F F1 w) (h : Moved F1 d w1 w2 T) : Moved F d w w2 T := by
  obtain ⟨F', L', h1, h2, h3⟩ := h
  refine ⟨F', L', h1, ?_, ?_⟩
  · have a : Keeps (fun k => F k ∨ w.heap.size ≤ k) w w1 := hk.mono fun k _ h => Or.inl h
    have b : Keeps (fun k => F k ∨ w.heap.size ≤ k) w1 w2 := h2.mono fun k _ h => hf k h
    exact (a.trans b).mono fun k hk h => h.resolve_right (by omega)
  · intro k hk'
    rcases h3 k hk' with h | h
    · exact hf k h
    · exact Or.inr (Nat.le_trans hk.size h)

/-- Has its fuse burnt? -/
def St.isDead (S : St) : Bool := S.armed && (S.left == 0)

theorem isDead_yes {S : St} (h : S.isDead = true) : S.armed = true ∧ S.left = 0 := by simpa [St.isDead] using h
theorem isDead_no {S : St} (h : ¬ S.isDead = true) : ¬ (S.armed = true ∧ S.left = 0) := fun ⟨h1, h2⟩ => h (by simp [St.isDead, h1, h2])

/-- Words stored one behind the other, up to the first that is refused; the answer. -/
def runStores (S : St) (at_ : Int) : List Int → Int × St
  | [] => (0, S)
  | v :: l => if S.isDead then (13, S) else runStores (S.store at_ v) (at_ + 8) l

/-- Lines flushed one behind the other, up to the first that is refused; the answer. -/
def runFlushes (S : St) (at_ : Int) : Nat → Int × St
  | 0 => (0, S)
  | k + 1 => if S.isDead then (13, S) else runFlushes (S.flush at_) (at_ + 64) k

theorem runStores_facts (l : List Int) : ∀ (S : St) (a : Int), (runStores S a l).2.old = S.old ∧ (runStores S a l).2.armed = S.armed ∧ (runStores S a l).2.steps ≤ S.steps + l.length ∧ (S.armed = false → (runStores S a l).1 = 0) := by
  induction l with
  | nil => intro S a; exact ⟨rfl, rfl, by simp [runStores], fun _ => rfl⟩
  | cons v l ih =>
    intro S a
    unfold runStores
    split
    · rename_i h
      exact ⟨rfl, rfl, by simp; omega, fun h2 => by have := (isDead_yes h).1; rw [h2] at this; cases this⟩
    · obtain ⟨h1, h2, h3, h4⟩ := ih (S.store a v) (a + 8)
      refine ⟨h1.trans rfl, h2.trans rfl, ?_, fun h => h4 h⟩
      simp only [St.store, St.tick, List.length_cons] at h3 ⊢
      omega

theorem runFlushes_facts (n : Nat) : ∀ (S : St) (a : Int), (runFlushes S a n).2.old = S.old ∧ (runFlushes S a n).2.armed = S.armed ∧ (runFlushes S a n).2.steps ≤ S.steps + n ∧ (S.armed = false → (runFlushes S a n).1 = 0) := by
  induction n with
  | zero => intro S a; exact ⟨rfl, rfl, by simp [runFlushes], fun _ => rfl⟩
  | succ n ih =>
    intro S a
    unfold runFlushes
    split
    · rename_i h
      exact ⟨rfl, rfl, by simp; omega, fun h2 => by have := (isDead_yes h).1; rw [h2] at this; cases this⟩
    · obtain ⟨h1, h2, h3, h4⟩ := ih (S.flush a) (a + 64)
      refine ⟨h1.trans rfl, h2.trans rfl, ?_, fun h => h4 h⟩
      simp only [St.flush, St.flushTo, St.tick] at h3 ⊢
      omega

theorem drop_cons {l : List Int} {k : Nat} (h : k < l.length) : l.drop k = l.getD k 0 :: l.drop (k + 1) := by
  rw [List.drop_eq_getElem_cons h]
  simp [List.getD_eq_getElem?_getD, h]

/-- A list of words that lies in memory. -/
def WordsAt (w : World) (p : Option Addr) (l : List Int) : Prop :=
  0 < l.length → ∃ b o, p = some ⟨b, o, none⟩ ∧ b < w.heap.size ∧ ∀ i, i < l.length →
    w.cell? ⟨b, o + i, none⟩ = some (.int .u64 (l.getD i 0)) ∧ (0 ≤ l.getD i 0 ∧ l.getD i 0 < 18446744073709551616)

theorem WordsAt.kept {w w' : World} {p : Option Addr} {l : List Int} {X : Nat → Prop} (h : WordsAt w p l) (k : Keeps X w w') (hX : ∀ i, X i → w.heap.size ≤ i) : WordsAt w' p l := by
  intro h0
  obtain ⟨b, o, e, hb, hc⟩ := h h0
  have hn : ¬ X b := fun hx => by have := hX b hx; omega
  refine ⟨b, o, e, Nat.lt_of_lt_of_le hb k.size, fun i hi => ?_⟩
  obtain ⟨c1, c4⟩ := hc i hi
  exact ⟨k.cell c1 hn, c4⟩

theorem WordsAt.take {w : World} {p : Option Addr} {l : List Int} (h : WordsAt w p l) (m : Nat) : WordsAt w p (l.take m) := by
  intro h0
  have h1 : 0 < l.length := by rw [List.length_take] at h0; omega
  obtain ⟨b, o, e, hb, hc⟩ := h h1
  refine ⟨b, o, e, hb, fun i hi => ?_⟩
  have hi2 : i < l.length ∧ i < m := by rw [List.length_take] at hi; omega
  have e2 : (l.take m).getD i 0 = l.getD i 0 := by
    simp [List.getD_eq_getElem?_getD, hi2.2]
  rw [e2]
  exact hc i hi2.1

set_option maxHeartbeats 1000000 in
theorem storeEach_dev (w : World) (F : Nat → Prop) (d : Nat) (S : St) (L : Lay) (at_ : Int) (p : Option Addr) (cap : Nat) (l : List Int) (h : DevAt w F d S L) (hN : WordsAt w p l) (hF : 0 < l.length → ∀ b o, p = some ⟨b, o, none⟩ → ¬ F b)
    (h0 : 0 ≤ at_) (h8 : at_ % 8 = 0) (h1 : at_ + 8 * l.length ≤ S.old.length) (hs : S.steps ≤ 1000) :
    Calls Try.prog 15 #[.pointer (some ⟨d, 0, none⟩), .int .i64 at_, .slice p l.length cap] w fun e w' => e = .returned (.int .i64 (runStores S at_ l).1) ∧ Moved F d w w' (runStores S at_ l).2 := by
  have hsz := h.size
  have hat : at_ ≤ 524288 := by omega
  have hll : l.length ≤ 65536 := by omega
  have HD := Hid.mk' h
  have HN := Hid.mk' (show WordsAt w p l ∧ (0 < l.length → ∀ b o, p = some ⟨b, o, none⟩ → ¬ F b) from ⟨hN, hF⟩)
  have HH := Hid.mk' (show at_ % 8 = 0 ∧ at_ + 8 * l.length ≤ S.old.length ∧ S.steps ≤ 1000 from ⟨h8, h1, hs⟩)
  clear h hN hF h8 h1 hs hsz
  go_enter Try.func15, Try.ntmps15
  go_wp2
  go_loopw [7] (fun i wr => ∃ k : Nat, k ≤ l.length ∧ i = .int .i64 k ∧ Hid (∃ T, Moved F d w wr T ∧ runStores S at_ l = runStores T (at_ + 8 * k) (l.drop k) ∧ T.old.length = S.old.length ∧ T.steps = S.steps + k))
    (fun i _ => l.length - (intOf i).toNat)
  case atStart => exact ⟨0, by omega, rfl, S, ⟨F, L, HD.out, Keeps.refl _ _, fun k hk => Or.inl hk⟩, by simp, rfl, by simp⟩
  case round =>
    obtain ⟨k, hk, rfl, hrel⟩ := hrel
    obtain ⟨T, ⟨F1, L1, hdev, hkp, hfr⟩, hrun, hlen, hst⟩ := hrel
    by_cases hlt : k < l.length
    · obtain ⟨b, o, rfl, hb, hc⟩ := HN.out.1 (by omega)
      have hnb := HN.out.2 (by omega) b o rfl
      obtain ⟨c1, c2⟩ := hc k hlt
      have c1' := hkp.cell c1 hnb
      obtain ⟨a1, a2, a3⟩ := HH.out
      rw [drop_cons hlt] at hrun
      have hlt' : (k : Int) < (l.length : Int) := by omega
      have hk0 : (0 : Int) ≤ (k : Int) := by omega
      generalize l.getD k 0 = v at *
      clear c1 hc
      by_cases hdd : T.isDead = true
      · have hso := store_dead wr F1 d T L1 (at_ + 8 * (k : Int)) v hdev (by omega) (by omega) (by omega) (isDead_yes hdd).1 (isDead_yes hdd).2
        have e : runStores S at_ l = (13, T) := by rw [hrun]; simp [runStores, hdd]
        have HX := Hid.mk' (show Moved F d w wr T from ⟨F1, L1, hdev, hkp, hfr⟩)
        have HE := Hid.mk' e
        clear hdev hkp hfr hrun hlen hst hdd a1 a2 a3 e c2
        go_wp2_with (first | (go_at_call 35; refine hso.mono ?_; rintro e w4 ⟨rfl, hw⟩; subst w4))
        go_ret
        exact ⟨by rw [HE.out]; rfl, by rw [HE.out]; exact HX.out⟩
      · have hso := store_dev wr F1 d T L1 (at_ + 8 * (k : Int)) v hdev (by omega) (by omega) (by omega) c2 (by omega) (isDead_no hdd)
        have e : runStores S at_ l = runStores (T.store (at_ + 8 * (k : Int)) v) (at_ + 8 * ((k + 1 : Nat) : Int)) (l.drop (k + 1)) := by
          rw [hrun]; simp only [runStores, hdd]
          rw [show at_ + 8 * (k : Int) + 8 = at_ + 8 * ((k + 1 : Nat) : Int) by omega]; rfl
        have HX := Hid.mk' (show Keeps F w wr ∧ Fresh F F1 w from ⟨hkp, hfr⟩)
        have HE := Hid.mk' (show _ ∧ T.old.length = S.old.length ∧ T.steps = S.steps + k from ⟨e, hlen, hst⟩)
        clear hdev hkp hfr hrun hlen hst hdd a1 a2 a3 e c2
        go_wp2_with (first | (go_at_call 35; refine hso.mono ?_; rintro e w4 ⟨rfl, hx⟩; have HM := Hid.mk' hx; clear hx))
        go_roundw
        case rel =>
          refine ⟨k + 1, by omega, by go_num, _, moved_next HX.out.1 HX.out.2 HM.out, HE.out.1, HE.out.2.1, ?_⟩
          have := HE.out.2.2
          simp only [St.store, St.tick]
          omega
        case measure => simp [intOf]; omega
    · obtain rfl : k = l.length := by omega
      have e : runStores S at_ l = (0, T) := by rw [hrun, List.drop_length]; rfl
      have HX := Hid.mk' (show Moved F d w wr T from ⟨F1, L1, hdev, hkp, hfr⟩)
      have HE := Hid.mk' e
      clear hdev hkp hfr hrun hlen hst e
      go_wp2
      go_ret
      exact ⟨by rw [HE.out]; rfl, by rw [HE.out]; exact HX.out⟩

set_option maxHeartbeats 1000000 in
theorem flushEach_dev (w : World) (F : Nat → Prop) (d : Nat) (S : St) (L : Lay) (a n q m : Nat) (h : DevAt w F d S L) (h8 : S.old.length % 512 = 0) (h1 : a + n ≤ S.old.length) (hs : S.steps ≤ 100000)
    (hq : q = a / 64) (hm : m = if n = 0 then 0 else (a + n - 1) / 64 - q + 1) :
    Calls Try.prog 17 #[.pointer (some ⟨d, 0, none⟩), .int .i64 a, .int .i64 n] w fun e w' => e = .returned (.int .i64 (runFlushes S (64 * (q : Int)) m).1) ∧ Moved F d w w' (runFlushes S (64 * (q : Int)) m).2 := by
  have hsz := h.size
  have han : a + n ≤ 524288 := by omega
  have hat : (a : Int).tdiv 64 = (q : Int) := by rw [Int.tdiv_eq_ediv_of_nonneg (by omega)]; omega
  have HD := Hid.mk' h
  have HH := Hid.mk' (show S.old.length % 512 = 0 ∧ a + n ≤ S.old.length ∧ S.steps ≤ 100000 from ⟨h8, h1, hs⟩)
  have HQ := Hid.mk' (show q = a / 64 ∧ m = if n = 0 then 0 else (a + n - 1) / 64 - q + 1 from ⟨hq, hm⟩)
  have hqb : q ≤ 8192 := by omega
  by_cases hn0 : n = 0
  · have hm0 : m = 0 := by rw [hm, if_pos hn0]
    have hnn : ¬ (0 : Int) < (n : Int) := by omega
    have hnn2 : decide (0 < n) = false := by simp [hn0]
    have HM := Hid.mk' hm0
    clear h h8 h1 hs hsz hq hm hn0 hm0
    go_enter Try.func17, Try.ntmps17
    go_wp2
    go_loopw [7] (fun i wr => i = .int .i64 q ∧ wr = w) (fun _ _ => 0)
    case atStart => exact ⟨by simp, rfl⟩
    case round =>
      obtain ⟨rfl, rfl⟩ := hrel
      go_wp2
      go_ret
      exact ⟨by rw [HM.out]; rfl, by rw [HM.out]; exact ⟨F, L, HD.out, Keeps.refl _ _, fun k hk => Or.inl hk⟩⟩
  · rw [if_neg hn0] at hm
    obtain ⟨z, hz⟩ : ∃ z, z = (a + n - 1) / 64 := ⟨_, rfl⟩
    have htd : ((a : Int) + (n : Int) - 1).tdiv 64 = (z : Int) := by rw [Int.tdiv_eq_ediv_of_nonneg (by omega)]; omega
    have hnn : (0 : Int) < (n : Int) := by omega
    have hnn2 : decide (0 < n) = true := by simp; omega
    have hzm : m = z + 1 - q ∧ q ≤ z := by omega
    have hzb : z ≤ 8192 := by omega
    have hzn : 64 * z + 1 ≤ a + n := by omega
    have HZ := Hid.mk' (show m = z + 1 - q ∧ q ≤ z ∧ 64 * z + 1 ≤ a + n from ⟨hzm.1, hzm.2, hzn⟩)
    clear h h8 h1 hs hsz hq hm hn0 hz hzm hzn
    go_enter Try.func17, Try.ntmps17
    go_wp2
    go_loopw [7] (fun i wr => ∃ k : Nat, k ≤ m ∧ i = .int .i64 ((q + k : Nat) : Int) ∧ Hid (∃ T, Moved F d w wr T ∧ runFlushes S (64 * (q : Int)) m = runFlushes T ((64 * (q + k) : Nat) : Int) (m - k) ∧ T.old.length = S.old.length ∧ T.steps = S.steps + k))
      (fun i _ => z + 1 - (intOf i).toNat)
    case atStart => exact ⟨0, by omega, by simp, S, ⟨F, L, HD.out, Keeps.refl _ _, fun k hk => Or.inl hk⟩, by simp, rfl, by simp⟩
    case round =>
      obtain ⟨k, hk, rfl, hrel⟩ := hrel
      obtain ⟨T, ⟨F1, L1, hdev, hkp, hfr⟩, hrun, hlen, hst⟩ := hrel
      obtain ⟨y, hy⟩ : ∃ y, y = q + k := ⟨_, rfl⟩
      rw [← hy] at hrun ⊢
      obtain ⟨z1, z2, z3⟩ := HZ.out
      obtain ⟨b1, b2, b3⟩ := HH.out
      by_cases hlt : k < m
      · have hyz : (y : Int) ≤ (z : Int) := by omega
        have hyz2 : decide (y ≤ z) = true := by simp; omega
        rw [show m - k = (m - (k + 1)) + 1 by omega] at hrun
        have hyb : y ≤ 8192 := by omega
        by_cases hdd : T.isDead = true
        · have hso := flush_dead wr F1 d T L1 (64 * (y : Int)) hdev (by omega) (by omega) (isDead_yes hdd).1 (isDead_yes hdd).2
          have e : runFlushes S (64 * (q : Int)) m = (13, T) := by rw [hrun]; simp [runFlushes, hdd]
          have HX := Hid.mk' (show Moved F d w wr T from ⟨F1, L1, hdev, hkp, hfr⟩)
          have HE := Hid.mk' e
          clear hdev hkp hfr hrun hlen hst hdd e z1 z2 z3 b1 b2 b3 hy hlt hk
          go_wp2_with (first | (go_at_call 37; refine hso.mono ?_; rintro e w4 ⟨rfl, hw⟩; subst w4))
          go_ret
          exact ⟨by rw [HE.out]; rfl, by rw [HE.out]; exact HX.out⟩
        · have hso := flush_dev wr F1 d T L1 (64 * (y : Int)) hdev (by omega) (by omega) (by omega) (by omega) (isDead_no hdd)
          have e : runFlushes S (64 * (q : Int)) m = runFlushes (T.flush (64 * (y : Int))) ((64 * (q + (k + 1)) : Nat) : Int) (m - (k + 1)) := by
            rw [hrun]; simp only [runFlushes, hdd]
            rw [show (((64 * y : Nat) : Int)) + 64 = ((64 * (q + (k + 1)) : Nat) : Int) by omega, show ((64 * y : Nat) : Int) = 64 * (y : Int) by omega]; rfl
          have HX := Hid.mk' (show Keeps F w wr ∧ Fresh F F1 w from ⟨hkp, hfr⟩)
          have HE := Hid.mk' (show _ ∧ T.old.length = S.old.length ∧ T.steps = S.steps + k ∧ y = q + k ∧ k < m from ⟨e, hlen, hst, hy, hlt⟩)
          have hyy : (y : Int) + 1 ≤ 10000 := by omega
          clear hdev hkp hfr hrun hlen hst hdd e z1 z2 z3 b1 b2 b3 hy hlt hk
          go_wp2_with (first | (go_at_call 37; refine hso.mono ?_; rintro e w4 ⟨rfl, hx1, hx2⟩; have HM := Hid.mk' (show Moved F1 d wr w4 _ from ⟨F1, L1, hx1, hx2, fun k hk => Or.inl hk⟩); clear hx1 hx2))
          go_roundw
          case rel =>
            obtain ⟨g1, g2, g3, g4, g5⟩ := HE.out
            refine ⟨k + 1, by omega, ?_, _, moved_next HX.out.1 HX.out.2 HM.out, g1, g2, ?_⟩
            · rw [g4]; first | (congr 1; omega) | go_num
            · simp only [St.flush, St.flushTo, St.tick]; omega
          case measure => simp [intOf]; omega
      · obtain rfl : k = m := by omega
        have hyz : ¬ (y : Int) ≤ (z : Int) := by omega
        have hyz2 : decide (y ≤ z) = false := by simp; omega
        have hyb : y ≤ 8193 := by omega
        have e : runFlushes S (64 * (q : Int)) k = (0, T) := by rw [hrun, Nat.sub_self]; rfl
        have HX := Hid.mk' (show Moved F d w wr T from ⟨F1, L1, hdev, hkp, hfr⟩)
        have HE := Hid.mk' e
        clear hdev hkp hfr hrun hlen hst e z1 z2 z3 b1 b2 b3 hy hlt hk
        go_wp2
        go_ret
        exact ⟨by rw [HE.out]; rfl, by rw [HE.out]; exact HX.out⟩

end Go.Proofs.Ytfiekdgpdboolab
