import Derived.Test.YtfekgfimbkgkfabT1
namespace Go.Proofs.Ytfekgfimbkgkfab
open Go.RowKit Go.Maps

/-- What is asked of directories for one part more. -/
def ask1 (o : Wy) (s : ByteArray) : List Ed := match o with | .bad _ => [] | .ok a _ => if (a.2 && !isDot s && !isUp s) = true then [(a.1, s, 0, false)] else []
/-- What is asked for the first k parts. -/
def asked (F : Dr) (p : List ByteArray) : Nat → List Ed
  | 0 => []
  | k + 1 => asked F p k ++ ask1 (lead F (p.take k)) (p.getD k bz)
theorem ask1_len (o : Wy) (s : ByteArray) : (ask1 o s).length ≤ 1 := by
  unfold ask1
  cases o with
  | bad e => simp
  | ok a r => simp only; split <;> simp
theorem asked_len (F : Dr) (p : List ByteArray) : ∀ k, (asked F p k).length ≤ k
  | 0 => Nat.le_refl _
  | k + 1 => by
    have h1 := asked_len F p k
    have h2 := ask1_len (lead F (p.take k)) (p.getD k bz)
    show (asked F p k ++ _).length ≤ k + 1
    rw [List.length_append]; omega
theorem asked_bad {F : Dr} {p : List ByteArray} {k : Nat} {e : Int} (h : lead F (p.take k) = .bad e) : ∀ j, asked F p (k + j) = asked F p k
  | 0 => rfl
  | j + 1 => by
    have h1 : lead F (p.take (k + j)) = .bad e := lead_bad_take (k := k) (by rw [List.take_take, Nat.min_eq_left (by omega)]; exact h)
    show asked F p (k + j) ++ ask1 (lead F (p.take (k + j))) (p.getD (k + j) bz) = _
    rw [h1, asked_bad h j]
    show asked F p k ++ [] = _
    rw [List.append_nil]
theorem asked_end {F : Dr} {p : List ByteArray} {k : Nat} {e : Int} (h : lead F (p.take k) = .bad e) (hk : k ≤ p.length) : asked F p p.length = asked F p k := by
  have := asked_bad h (p.length - k)
  rwa [Nat.add_sub_cancel' hk] at this
theorem asked_take (F : Dr) (p : List ByteArray) (m : Nat) : ∀ k, k ≤ m → asked F (p.take m) k = asked F p k
  | 0, _ => rfl
  | k + 1, hk => by
    show asked F (p.take m) k ++ ask1 (lead F ((p.take m).take k)) ((p.take m).getD k bz) = asked F p k ++ ask1 (lead F (p.take k)) (p.getD k bz)
    rw [asked_take F p m k (by omega), List.take_take, Nat.min_eq_left (by omega)]
    congr 2
    rw [List.getD_eq_getElem?_getD, List.getD_eq_getElem?_getD, List.getElem?_take, if_pos (by omega)]
theorem asked_next {F : Dr} {p : List ByteArray} {k : Nat} {a : En} {r : List En} (h : lead F (p.take k) = .ok a r) (s : ByteArray) (hs : p.getD k bz = s) : asked F p (k + 1) = asked F p k ++ (if (a.2 && !isDot s && !isUp s) = true then [(a.1, s, 0, false)] else []) := by
  show asked F p k ++ ask1 (lead F (p.take k)) (p.getD k bz) = _
  rw [h, hs]; rfl

theorem EA.keepX {X : Nat → Prop} {W W' : World} {x base : Nat} {ve va : Value} {l qs9 : List Ed} (h : EA W x base ve va l qs9) (hve : ∀ g, ve.ownBlock = some g → 0 < l.length → g < x) (k : Keeps X W W') (hx : ∀ c, c ≤ x → ¬ X c) (ho : ∀ g, va.ownBlock = some g → ¬ X g) : EA W' x base ve va l qs9 :=
  ⟨k.at h.st (hx x (Nat.le_refl _)), h.re.keepZ k (fun g hg h0 => hx g (Nat.le_of_lt (hve g hg h0))), own_keep h.ra k ho⟩
/-- What walk's loop over Ears holds. -/
def WkE (w : World) (x : Nat) (ve : Value) (l : List Ed) (F : Dr) (p : List ByteArray) (wr : World) (k : Nat) (v : Value) : Prop :=
  ∃ va a r, lead F (p.take k) = .ok a r ∧ WayAt wr (w.heap.size + 1) v a r ∧ EA wr x w.heap.size ve va l (asked F p k) ∧ wr.heap[w.heap.size]? = some (.cells #[.int .i64 0, .bool false] 61 (0, 0)) ∧ Keeps (fun k => k = x) w wr

set_option maxHeartbeats 4000000 in
set_option maxRecDepth 100000 in
theorem walk_ears (w : World) (x : Nat) (ve : Value) (l : List Ed) (F : Dr) (hFl : tabF l = F) (hE : EA w x w.heap.size ve (.slice none 0 0) l []) (hve : ∀ g, ve.ownBlock = some g → 0 < l.length → g < x) (hl : l.length ≤ 3518437208780) (hF : wfF F) (v : Value) (p : List ByteArray) (h : Row w v p.length (strs p)) (hvx : ∀ g, v.ownBlock = some g → 0 < p.length → g < x) (hn : p.length ≤ 1000) (hz : ∀ s ∈ p, s.size ≤ 281474976710656) :
    Calls Try.prog 28 #[.iface 69 (.pointer (some ⟨x, 0, none⟩)), v] w fun e w' => e = .returned (.tuple #[.agg #[.int .i64 (wkR F p).1.1, .bool (wkR F p).1.2], .int .i64 (wkR F p).2]) ∧ Hid (∃ va, EA w' x w.heap.size ve va l (asked F p p.length) ∧ Keeps (fun k => k = x) w w') := by
  obtain ⟨i0, hi, hz0, hz1, hz2⟩ := info_parts info61
  have HR : Hid (Row w v p.length (strs p) ∧ ∀ g, v.ownBlock = some g → 0 < p.length → g < x) := ⟨h, hvx⟩
  obtain ⟨ao, cap, rfl, _⟩ := h
  have hxw : x < w.heap.size := heap_lt hE.st
  have HZ : Hid ((∀ s ∈ p, s.size ≤ 281474976710656) ∧ wfF F ∧ tabF l = F ∧ (∀ g, ve.ownBlock = some g → 0 < l.length → g < x)) := ⟨hz, hF, hFl, hve⟩
  have HN : Hid (WkE w x ve l F p ((w.alloc (.cells #[.int .i64 0, .bool false] 61)).alloc (.cells #[.int .i64 1, .bool true] 61)) 0 (.slice (some ⟨w.heap.size + 1, 0, none⟩) 1 1)) := by
    have hS0 : (w.alloc (.cells #[.int .i64 0, .bool false] 61)).heap.size = w.heap.size + 1 := World.size_alloc ..
    have k0 : Keeps (fun _ => False) w ((w.alloc (.cells #[.int .i64 0, .bool false] 61)).alloc (.cells #[.int .i64 1, .bool true] 61)) := ((Keeps.refl _ w).alloc _).alloc _
    refine ⟨.slice none 0 0, (1, true), [], rfl, ?_, hE.keep k0, ((Keeps.refl (fun _ => False) _).alloc _).at (heap_last _ _) id, k0.mono (fun _ _ h => h.elim)⟩
    have := World.ownsRow_lit (base := w.heap.size + 1) (e := 61) (size := 2) (w.alloc (.cells #[.int .i64 0, .bool false] 61)) #[.int .i64 1, .bool true] 1 (by rw [hS0]; omega) (by unfold maxLen; omega) rfl
    rw [hS0] at this
    exact this
  clear hz hF hFl hve hE hvx
  go_enter Try.func28, Try.ntmps28
  go_wp2
  go_step3
  go_wp2
  go_step3
  go_wp2
  go_loopw [6, 7, 17] (fun v7 e i wr => e = .int .i64 0 ∧ ∃ k : Nat, k ≤ p.length ∧ i = .int .i64 k ∧ Hid (WkE w x ve l F p wr k v7)) (fun _ _ i _ => p.length - (intOf i).toNat)
  case atStart => exact ⟨rfl, 0, Nat.zero_le _, rfl, HN⟩
  case round =>
    obtain ⟨rfl, k, hk, rfl, HI⟩ := hrel
    clear HN
    obtain ⟨va, a, r, hld, hw, hea, hbx, hkp⟩ := HI.out
    have hrl := lead_len hld
    rw [List.length_take] at hrl
    obtain ⟨g, gc, e6, hg, hgc, g0, g1⟩ := hw.shape
    subst e6
    have HL : Hid (lead F (p.take k) = .ok a r ∧ w.heap.size + 1 ≤ g) := ⟨hld, hg⟩
    have HWF : Hid ((Lit.int .i64 a.1).wf = true) := lead_wf HZ.out.2.1 hld
    clear HI hld hg
    obtain ⟨an, ab⟩ := a
    simp only at g0 g1
    by_cases h1 : k < p.length
    · obtain ⟨b, o, cap', e, hb, hc⟩ := HR.out.1.pos (by omega)
      cases e
      have h1' : (k : Int) < (p.length : Int) := by omega
      have c2 := hkp.cell (hc k _ (strs_get h1)) (by have := HR.out.2 b rfl (by omega); show ¬ b = x; omega)
      have HS : Hid (lead F (p.take (k + 1)) = step1 F (an, ab) r (p.getD k bz)) := by
        show _ = _
        rw [take_getD bz h1, lead_snoc, HL.out.1]
      have HQ : Hid (asked F p (k + 1) = asked F p k ++ (if (ab && !isDot (p.getD k bz) && !isUp (p.getD k bz)) = true then [(an, p.getD k bz, 0, false)] else [])) := asked_next HL.out.1 _ rfl
      have hsz := HZ.out.1 _ (getD_mem bz h1)
      generalize p.getD k bz = s at c2 HS HQ hsz
      have HM : Hid (s.size ≤ maxLen) := by show s.size ≤ maxLen; unfold maxLen; omega
      clear hc hsz
      have hA := (Keeps.refl (fun _ => False) wr).alloc (.cells #[.int .i64 an, .bool ab] 61)
      have HK2 : Hid (WayAt (wr.alloc (.cells #[.int .i64 an, .bool ab] 61)) (w.heap.size + 1) (.slice (some ⟨g, 0, none⟩) (r.length + 1) gc) (an, ab) r ∧ EA (wr.alloc (.cells #[.int .i64 an, .bool ab] 61)) x w.heap.size ve va l (asked F p k) ∧ (wr.alloc (.cells #[.int .i64 an, .bool ab] 61)).heap[w.heap.size]? = some (.cells #[.int .i64 0, .bool false] 61 (0, 0)) ∧ Keeps (fun k => k = x) w (wr.alloc (.cells #[.int .i64 an, .bool ab] 61))) := ⟨own_grow hw hA, hea.keep hA, hA.at hbx id, hkp.alloc _⟩
      clear hA hw hea hbx hkp
      cases ab with
      | false =>
        have hB : lead F (p.take (k + 1)) = .bad 144 := HS.out.trans (by simp [step1])
        have eR : wkR F p = ((0, false), 144) := by
          have h2 : lead F p = .bad 144 := lead_bad_take hB
          unfold wkR; rw [h2]
        have HQ2 : Hid (asked F p p.length = asked F p k) := by
          have h2 := asked_end hB (by omega)
          have h3 := HQ.out
          rw [if_neg (by simp), List.append_nil] at h3
          exact h2.trans h3
        obtain ⟨q0, q1, qf⟩ := cells2 HK2.out.2.2.1
        have f0 := qf 0
        have f1 := qf 1
        obtain ⟨d0, d1⟩ := set2c HK2.out.2.2.1 (.int .i64 0) (.bool false)
        obtain ⟨_, s2⟩ := set2 HK2.out.2.2.1 (.int .i64 0) (.bool false)
        have HE := Hid.mk' (show ∃ va, EA _ x w.heap.size ve va l (asked F p p.length) ∧ Keeps (fun k => k = x) w _ from ⟨va, by rw [HQ2.out]; exact HK2.out.2.1.keepX HZ.out.2.2.2 s2 (fun c hc e => by omega) (fun g hg e => by subst e; exact own_nx HK2.out.2.1.ra HK2.out.2.2.1 (by decide) hg), HK2.out.2.2.2.then s2 (fun k hk => Or.inr (Nat.le_of_eq hk.symm))⟩)
        clear qf s2 hB
        go_wp2
        try rw [Exit.noGoto_ret]
        refine bodyPost_ret (v := .tuple #[.agg #[.int .i64 0, .bool false], .int .i64 144]) (by simp [results, Try.results28, go_sem, d0, d1]) rfl ?_
        exact ⟨by rw [eR], HE.out⟩
      | true =>
        rcases Bool.eq_false_or_eq_true (isDot s) with hD | hD
        · have hD' : s.toList = [46] := by simpa [isDot] using hD
          have HN : Hid (WkE w x ve l F p (wr.alloc (.cells #[.int .i64 an, .bool true] 61)) (k + 1) (.slice (some ⟨g, 0, none⟩) (r.length + 1) gc)) :=
            ⟨va, (an, true), r, HS.out.trans (by simp [step1, hD]), HK2.out.1, by have h3 := HQ.out; rw [if_neg (by simp [hD]), List.append_nil] at h3; rw [h3]; exact HK2.out.2.1, HK2.out.2.2⟩
          clear hD
          go_wp2
          go_roundw
          case rel => exact ⟨rfl, k + 1, by omega, by go_num, HN⟩
          case measure => simp [intOf]; omega
        · have hD' : (s.toList == [46]) = false := hD
          rcases Bool.eq_false_or_eq_true (isUp s) with hU | hU
          · have hU' : s.toList = [46, 46] := by simpa [isUp] using hU
            have HQ3 : Hid (asked F p (k + 1) = asked F p k) := by have h3 := HQ.out; rw [if_neg (by simp [hU]), List.append_nil] at h3; exact h3
            cases r with
            | nil =>
              have HN : Hid (WkE w x ve l F p (wr.alloc (.cells #[.int .i64 an, .bool true] 61)) (k + 1) (.slice (some ⟨g, 0, none⟩) 1 gc)) :=
                ⟨va, (an, true), [], HS.out.trans (by simp [step1, hD, hU]), HK2.out.1, by rw [HQ3.out]; exact HK2.out.2.1, HK2.out.2.2⟩
              clear hD hU
              simp only [List.length_nil, Nat.zero_add, Nat.zero_mul] at g0 g1 hgc
              have hgc' : (1 : Int) ≤ (gc : Int) := by omega
              go_wp2
              go_roundw
              case rel => exact ⟨rfl, k + 1, by omega, by go_num, HN⟩
              case measure => simp [intOf]; omega
            | cons bb r =>
              have HN : Hid (WkE w x ve l F p (wr.alloc (.cells #[.int .i64 an, .bool true] 61)) (k + 1) (.slice (some ⟨g, 0, none⟩) (r.length + 1) gc)) :=
                ⟨va, bb, r, HS.out.trans (by simp [step1, hD, hU]), HK2.out.1.cut, by rw [HQ3.out]; exact HK2.out.2.1, HK2.out.2.2⟩
              clear hD hU
              simp only [List.length_cons] at g0 g1 hgc
              have hgc' : ((r.length : Int) + 1) ≤ (gc : Int) := by omega
              have hrl2 : r.length + 1 < 8796093022000 := by simp only [List.length_cons] at hrl; omega
              clear hrl
              go_wp2
              go_roundw
              case rel =>
                have e : (max ((r.length : Int) + 1) 1).toNat = r.length + 1 := by omega
                exact ⟨rfl, k + 1, by omega, by go_num, by rw [e]; exact HN⟩
              case measure => simp [intOf]; omega
          · have hU' : (s.toList == [46, 46]) = false := hU
            have HS2 : Hid (lead F (p.take (k + 1)) = if (F an s).1 < 1 then .bad 143 else .ok (F an s) ((an, true) :: r)) := HS.out.trans (by simp [step1, hD, hU])
            have HQ3 : Hid (asked F p (k + 1) = asked F p k ++ [(an, s, 0, false)]) := by have h3 := HQ.out; rw [if_pos (by simp [hD, hU])] at h3; exact h3
            have h16 := ears_any (wr.alloc (.cells #[.int .i64 an, .bool true] 61)) x w.heap.size ve va l (asked F p k) HK2.out.2.1 hxw (Nat.le_of_lt (heap_lt HK2.out.2.2.1)) HZ.out.2.2.2 hl (by have := asked_len F p k; omega) an s
            rw [← HQ3.out, HZ.out.2.2.1] at h16
            clear hD hU
            have hmt := method69
            have e16 : ∀ args w, (callFunc 71 args).run Try.prog w = .ok (.enter 71 args) w := enters_of Try.func71 (by kernel_rfl) rfl
            generalize F an s = y at HS2 h16
            obtain ⟨yn, yb⟩ := y
            simp only at h16
            have H2 : Hid (∀ w2 va2, EA w2 x w.heap.size ve va2 l (asked F p (k + 1)) → Keeps (fun k => k = x ∨ va.ownBlock = some k) (wr.alloc (.cells #[.int .i64 an, .bool true] 61)) w2 → WayAt w2 (w.heap.size + 1) (.slice (some ⟨g, 0, none⟩) (r.length + 1) gc) (an, true) r ∧ EA w2 x w.heap.size ve va2 l (asked F p (k + 1)) ∧ w2.heap[w.heap.size]? = some (.cells #[.int .i64 0, .bool false] 61 (0, 0)) ∧ Keeps (fun k => k = x) w w2) := by
              intro w2 va2 he hk2
              refine ⟨own_keep HK2.out.1 hk2 ?_, he, hk2.at HK2.out.2.2.1 ?_, HK2.out.2.2.2.then hk2 ?_⟩
              · rintro g' hg' (e | e)
                · cases hg'; have e' : g = x := e; have := HL.out.2; omega
                · exact own_ne HK2.out.1 HK2.out.2.1.ra (by decide) g' hg' e
              · rintro (e | e)
                · omega
                · exact own_nx HK2.out.2.1.ra HK2.out.2.2.1 (by decide) e
              · rintro c (e | e)
                · exact Or.inl e
                · exact Or.inr (HK2.out.2.1.ra.lt c e).1
            by_cases h3 : yn < 1
            · have hB : lead F (p.take (k + 1)) = .bad 143 := HS2.out.trans (by simp [h3])
              have eR : wkR F p = ((0, false), 143) := by
                have h2 : lead F p = .bad 143 := lead_bad_take hB
                unfold wkR; rw [h2]
              have HQ2 : Hid (asked F p p.length = asked F p (k + 1)) := asked_end hB (by omega)
              clear hB
              go_wp2_with (first
                | (go_at_call 71; refine h16.mono ?_; clear h16; rintro e w2 ⟨rfl, HY⟩
                   obtain ⟨va2, hy1, hy2⟩ := HY.out
                   have HW := Hid.mk' (H2.out w2 va2 hy1 hy2)
                   clear HY hy1 hy2
                   have hR3 := HW.out.2.2.1
                   obtain ⟨q0, q1, qf⟩ := cells2 hR3
                   have f0 := qf 0
                   have f1 := qf 1
                   obtain ⟨d0, d1⟩ := set2c hR3 (.int .i64 0) (.bool false)
                   obtain ⟨_, s2⟩ := set2 hR3 (.int .i64 0) (.bool false)
                   have HE := Hid.mk' (show ∃ va, EA _ x w.heap.size ve va l (asked F p p.length) ∧ Keeps (fun k => k = x) w _ from ⟨va2, by rw [HQ2.out]; exact HW.out.2.1.keepX HZ.out.2.2.2 s2 (fun c hc e => by omega) (fun g hg e => by subst e; exact own_nx HW.out.2.1.ra HW.out.2.2.1 (by decide) hg), HW.out.2.2.2.then s2 (fun k hk => Or.inr (Nat.le_of_eq hk.symm))⟩)
                   clear qf s2 hR3))
              try rw [Exit.noGoto_ret]
              refine bodyPost_ret (v := .tuple #[.agg #[.int .i64 0, .bool false], .int .i64 143]) (by simp [results, Try.results28, go_sem, d0, d1]) rfl ?_
              exact ⟨by rw [eR], HE.out⟩
            · have HS3 : Hid (lead F (p.take (k + 1)) = .ok (yn, yb) ((an, true) :: r)) := HS2.out.trans (by simp [h3])
              clear HS2
              go_wp2_with (first
                | (go_at_call 71; refine h16.mono ?_; clear h16; rintro e w2 ⟨rfl, HY⟩
                   obtain ⟨va2, hy1, hy2⟩ := HY.out
                   have HW := Hid.mk' (H2.out w2 va2 hy1 hy2)
                   clear HY hy1 hy2)
                | (at_builtin; go_must (refine wpList_append_own_at _ rfl _ _ 87 rfl (w.heap.size + 1) 61 i0 (.agg #[.int .i64 0, .bool false]) 2 16 Try.underlying87 hi hz0 hz1 hz2 rfl (by decide) _ (r.length + 1) (encells (wayL (an, true) r)) rfl (World.ownsRow.alloc HW.out.1 _) ⟨w2.heap.size, 0, none⟩ 1 1 [.int .i64 yn, .bool yb] rfl rfl (World.news_of_block (heap_last _ _)) (by simp [Value.oneCell']) (by unfold maxLen; omega) (by omega) (by rw [World.size_alloc]; have := heap_lt HW.out.2.2.1; omega) ?_); intro v' w3 hown hgr _ _))
              go_roundw
              case rel =>
                have hA2 := (Keeps.refl (fun _ => False) w2).alloc (.cells #[.int .i64 yn, .bool yb] 61)
                have hwy := own_grow HW.out.1 hA2
                have hk3 : Keeps (fun k => (Value.slice (some ⟨g, 0, none⟩) (r.length + 1) gc).ownBlock = some k) (w2.alloc (.cells #[.int .i64 yn, .bool yb] 61)) w3 := Keeps.of hgr (fun k hk => Or.inl hk)
                have he2 := HW.out.2.1.keep hA2
                have hgg := HL.out.2
                refine ⟨rfl, k + 1, by omega, by go_num, va2, (yn, yb), (an, true) :: r, HS3.out, ?_, he2.keepX HZ.out.2.2.2 hk3 (fun c hc e => by cases e; have hc' : g ≤ x := hc; omega) (fun g' hg' e => own_ne he2.ra hwy (by decide) g' hg' e), hk3.at (hA2.at HW.out.2.2.1 id) (fun e => by have e' : g = w.heap.size := Option.some.inj e; omega), (HW.out.2.2.2.alloc _).then hk3 (fun c hc => Or.inr (by cases hc; show w.heap.size ≤ g; omega))⟩
                unfold WayAt
                rw [wayL_push, encells_snoc]; exact hown
              case measure => simp [intOf]; omega
    · have h1' : ¬ (k : Int) < (p.length : Int) := by omega
      have eR : wkR F p = ((an, ab), 0) := by
        have := HL.out.1
        rw [List.take_of_length_le (by omega)] at this
        unfold wkR; rw [this]
      have ek : p.length = k := by omega
      obtain ⟨q0, q1, qf⟩ := cells2 hbx
      have f0 := qf 0
      have f1 := qf 1
      obtain ⟨d0, d1⟩ := set2c hbx (.int .i64 an) (.bool ab)
      obtain ⟨_, s2⟩ := set2 hbx (.int .i64 an) (.bool ab)
      have HE := Hid.mk' (show ∃ va, EA _ x w.heap.size ve va l (asked F p p.length) ∧ Keeps (fun k => k = x) w _ from ⟨va, by rw [ek]; exact hea.keepX HZ.out.2.2.2 s2 (fun c hc e => by omega) (fun g hg e => by subst e; exact own_nx hea.ra hbx (by decide) hg), hkp.then s2 (fun k hk => Or.inr (Nat.le_of_eq hk.symm))⟩)
      clear qf s2 hea hkp hw ek
      go_wp2
      try rw [Exit.noGoto_ret]
      refine bodyPost_ret (v := .tuple #[.agg #[.int .i64 an, .bool ab], .int .i64 0]) (by simp [results, Try.results28, go_sem, d0, d1]) rfl ?_
      exact ⟨by rw [eR], HE.out⟩
end Go.Proofs.Ytfekgfimbkgkfab
