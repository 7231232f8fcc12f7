import Derived.Test.YtfekgfimbkgkfabW1
import Derived.Test.YtfekgfimbkgkfabY1
namespace Go.Proofs.Ytfekgfimbkgkfab
open Go.RowKit Go.Maps

theorem Row.keepZ {A C : World} {X : Nat → Prop} {v : Value} {n : Nat} {xs : List Value} (h : Row A v n xs) (hk : Keeps X A C) (hx : ∀ g, v.ownBlock = some g → 0 < n → ¬ X g) : Row C v n xs := by
  obtain ⟨a, cap, rfl, hc, h⟩ := h
  refine ⟨a, cap, rfl, hc, fun h0 => ?_⟩
  obtain ⟨b, o, rfl, hb, hc⟩ := h h0
  exact ⟨b, o, rfl, Nat.lt_of_lt_of_le hb hk.size, fun j u hu => hk.cell (hc j u hu) (hx b rfl h0)⟩
theorem Row.lt {W : World} {v : Value} {n : Nat} {xs : List Value} (h : Row W v n xs) : ∀ g, v.ownBlock = some g → 0 < n → g < W.heap.size := by
  intro g hg h0
  obtain ⟨a, cap, rfl, _, h⟩ := h
  obtain ⟨b, o, rfl, hb, _⟩ := h h0
  cases hg; exact hb

/-- Ears in memory: its edges, what it was asked. -/
structure EA (W : World) (x base : Nat) (ve va : Value) (l qs9 : List Ed) : Prop where
  st : W.heap[x]? = some (.cells #[ve, va] 71 (0, 0))
  re : Row W ve l.length (ecells l)
  ra : W.ownsRow base 40 4 va qs9.length (ecells qs9)
theorem EA.keep {W W' : World} {x base : Nat} {ve va : Value} {l qs9 : List Ed} (h : EA W x base ve va l qs9) (k : Keeps (fun _ => False) W W') : EA W' x base ve va l qs9 := ⟨k.at h.st id, h.re.keep k, own_grow h.ra k⟩
theorem ecells_app (a b : List Ed) : ecells (a ++ b) = ecells a ++ ecells b := by simp [ecells]

set_option maxHeartbeats 4000000 in
set_option maxRecDepth 100000 in
theorem ears_any (w : World) (x base : Nat) (ve va : Value) (l qs9 : List Ed) (h : EA w x base ve va l qs9) (hx : x < base) (hb : base ≤ w.heap.size) (hve : ∀ g, ve.ownBlock = some g → 0 < l.length → g < x) (hl : l.length ≤ 3518437208780) (ha : qs9.length ≤ 1000) (d : Int) (s : ByteArray) :
    Calls Try.prog 71 #[.pointer (some ⟨x, 0, none⟩), .int .i64 d, .string s] w fun e w' => e = .returned (.tuple #[.int .i64 (tabF l d s).1, .bool (tabF l d s).2]) ∧ Hid (∃ va', EA w' x base ve va' l (qs9 ++ [(d, s, 0, false)]) ∧ Keeps (fun k => k = x ∨ va.ownBlock = some k) w w') := by
  obtain ⟨i0, hi, hz0, hz1, hz2⟩ := info_parts info40
  have HE := Hid.mk' h
  obtain ⟨ea, ec, rfl, _⟩ := id h.re
  obtain ⟨aa, ac, rfl, _⟩ := Row.of_own h.ra
  obtain ⟨c0, c1, cf⟩ := cells2 h.st
  have HV := Hid.mk' hve
  clear h hve cf
  go_enter Try.func71, Try.ntmps71
  go_wp2_with (first
    | (at_builtin; refine wpList_append_own_at _ rfl _ _ 22 rfl base 40 i0 (.agg #[.int .i64 0, .string ⟨#[]⟩, .int .i64 0, .bool false]) 4 40 Try.underlying22 hi hz0 hz1 hz2 rfl (by decide) (.slice aa qs9.length ac) qs9.length (ecells qs9) rfl (HE.out.ra.alloc _) ⟨w.heap.size, 0, none⟩ 1 1 (ecells [(d, s, 0, false)]) rfl rfl (World.news_of_block (heap_last _ _)) (ecells_one _) (by unfold maxLen; omega) (by omega) (by rw [World.size_alloc]; omega) ?_; intro v' w1 hown hgr _ _
       obtain ⟨ra, rc, er, _⟩ := Row.of_own hown
       subst er
       have hE1 := HE.out.keep ((Keeps.refl _ w).alloc (.cells #[.int .i64 d, .string s, .int .i64 0, .bool false] 40))
       have k0 : Keeps (fun k => (Value.slice aa qs9.length ac).ownBlock = some k) (w.alloc (.cells #[.int .i64 d, .string s, .int .i64 0, .bool false] 40)) w1 := Keeps.of hgr (fun k hk => Or.inl hk)
       have k1 := k0.mono (Y := fun k => base ≤ k) (fun k _ hk => (hE1.ra.lt k hk).1)
       have hst1 := k1.at hE1.st (by omega)
       obtain ⟨_, _, bf⟩ := cells2 hst1
       have f1 := bf 1
       have k2 := set1k w1 x 1 (.slice ra (qs9.length + 1) rc)
       have HN : Hid (EA (w1.setCell ⟨x, 1, none⟩ (.slice ra (qs9.length + 1) rc)) x base (.slice ea l.length ec) (.slice ra (qs9.length + 1) rc) l (qs9 ++ [(d, s, 0, false)]) ∧ Keeps (fun k => k = x ∨ (Value.slice aa qs9.length ac).ownBlock = some k) w (w1.setCell ⟨x, 1, none⟩ (.slice ra (qs9.length + 1) rc))) := by
         refine ⟨⟨?_, (hE1.re.keepZ k1 (fun g hg h0 e => by have := HV.out g hg h0; omega)).keepZ k2 (fun g hg h0 e => by have := HV.out g hg h0; omega), ?_⟩, ((((Keeps.refl (fun _ => False) w).alloc _).mono (fun _ _ h => h.elim)).trans (k0.mono (fun c _ hc => Or.inr hc))).trans (k2.mono (fun c _ hc => Or.inl hc))⟩
         · have := setCell_block (a := ⟨x, 1, none⟩) (v := .slice ra (qs9.length + 1) rc) hst1 rfl
           simpa using this
         · rw [ecells_app, List.length_append]
           exact own_keep hown k2 (fun g hg e => by subst e; exact own_nx hown hst1 (by decide) hg)
       obtain ⟨d0, d1, _⟩ := cells2 HN.out.1.st
       clear hE1 k0 k1 k2 hst1 bf hown hgr))
  obtain ⟨W2, hW2⟩ : ∃ W2, W2 = w1.setCell ⟨x, 1, none⟩ (.slice ra (qs9.length + 1) rc) := ⟨_, rfl⟩
  rw [← hW2] at HN
  go_loopw [8] (fun i wr => ∃ k : Nat, k ≤ l.length ∧ i = .int .i64 ((k : Int) - 1) ∧ Hid (tabF l d s = tabF (l.take k) d s ∧ Keeps (fun _ => False) W2 wr)) (fun i _ => (intOf i + 1).toNat)
  case atStart => exact ⟨l.length, Nat.le_refl _, by go_num, by rw [List.take_length], by rw [← hW2]; exact Keeps.refl _ _⟩
  case round =>
    obtain ⟨k, hk, rfl, HI⟩ := hrel
    clear hW2 d0 d1 c0 c1
    have hE := HN.out.1.keep HI.out.2
    obtain ⟨d0, d1, _⟩ := cells2 hE.st
    have HO : Hid (∀ w', Keeps (fun _ => False) wr w' → (∃ va', EA w' x base (.slice ea l.length ec) va' l (qs9 ++ [(d, s, 0, false)]) ∧ Keeps (fun k => k = x ∨ (Value.slice aa qs9.length ac).ownBlock = some k) w w')) := fun w' hk => ⟨_, hE.keep hk, HN.out.2.trans ((HI.out.2.trans hk).mono (fun _ _ h => h.elim))⟩
    rcases k with _ | j
    · have e0 : ((0 : Nat) : Int) - 1 = -1 := rfl
      rw [e0]
      clear hE
      go_wp2
      refine bodyPost_ret (v := .tuple #[.int .i64 0, .bool false]) (by simp [results, Try.results71, go_sem]) rfl ?_
      exact ⟨by rw [HI.out.1]; rfl, HO.out _ (Keeps.refl _ _)⟩
    · have e1 : (((j + 1 : Nat) : Int) - 1) = (j : Int) := by omega
      rw [e1]
      have hj : j < l.length := by omega
      obtain ⟨b, o, cap', e, hb', hc⟩ := hE.re.pos (by omega)
      cases e
      have c0 : wr.cell? ⟨b, o + j * 4, none⟩ = some (.int .i64 (l.getD j ez).1) := hc (j * 4 + 0) _ (ecells_get l j hj 0 _ rfl)
      have c1 : wr.cell? ⟨b, o + j * 4 + 1, none⟩ = some (.string (l.getD j ez).2.1) := hc (j * 4 + 1) _ (ecells_get l j hj 1 _ rfl)
      have c2 : wr.cell? ⟨b, o + j * 4 + 2, none⟩ = some (.int .i64 (l.getD j ez).2.2.1) := hc (j * 4 + 2) _ (ecells_get l j hj 2 _ rfl)
      have c3 : wr.cell? ⟨b, o + j * 4 + 3, none⟩ = some (.bool (l.getD j ez).2.2.2) := hc (j * 4 + 3) _ (ecells_get l j hj 3 _ rfl)
      have HS : Hid (tabF l d s = if hitE (l.getD j ez) d s = true then ((l.getD j ez).2.2.1, (l.getD j ez).2.2.2) else tabF (l.take j) d s) := HI.out.1.trans (tab_step hj d s)
      have hj0 : (0 : Int) ≤ (j : Int) := by omega
      have hj1 : (j : Int) < (l.length : Int) := by omega
      generalize l.getD j ez = q at c0 c1 c2 c3 HS
      obtain ⟨qd, qn, qi, qs⟩ := q
      dsimp only at c0 c1 c2 c3 HS
      have HK := Hid.mk' HI.out.2
      clear hc HI hE
      by_cases h1 : qd = d
      · subst h1
        by_cases h2 : qn = s
        · subst h2
          have hss : (qn.toList == qn.toList) = true := by simp
          by_cases h3 : 1 ≤ qi
          · have HE2 : Hid (tabF l qd qn = (qi, qs)) := HS.out.trans (by simp [hitE, h3])
            go_wp2
            go_quiet (fail)
            go_wp2
            refine bodyPost_ret (v := .tuple #[.int .i64 qi, .bool qs]) (by simp [results, Try.results71, go_sem]) rfl ?_
            exact ⟨by rw [HE2.out], HO.out _ (((Keeps.refl _ wr).alloc _).trans (Keeps.drewN _ _ _))⟩
          · have HN2 : Hid (tabF l qd qn = tabF (l.take j) qd qn) := HS.out.trans (by simp [hitE, h3])
            go_wp2
            go_roundw
            case rel => exact ⟨j, by omega, rfl, HN2.out, HK.out.alloc _⟩
            case measure => simp [intOf]
        · have HN2 : Hid (tabF l qd s = tabF (l.take j) qd s) := HS.out.trans (by simp [hitE, h2])
          have h2' : (qn.toList == s.toList) = false := by rw [bytes_eq, decide_eq_false h2]
          go_wp2
          go_roundw
          case rel => exact ⟨j, by omega, rfl, HN2.out, HK.out.alloc _⟩
          case measure => simp [intOf]
      · have HN2 : Hid (tabF l d s = tabF (l.take j) d s) := HS.out.trans (by simp [hitE, h1])
        have h1' : (qd == d) = false := beq_eq_false_iff_ne.2 h1
        go_wp2
        go_roundw
        case rel => exact ⟨j, by omega, rfl, HN2.out, HK.out.alloc _⟩
        case measure => simp [intOf]
end Go.Proofs.Ytfekgfimbkgkfab
