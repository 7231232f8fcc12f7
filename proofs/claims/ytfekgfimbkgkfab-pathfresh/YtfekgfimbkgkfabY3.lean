import Derived.Test.YtfekgfimbkgkfabY1
import Derived.Test.YtfekgfimbkgkfabY2
namespace Go.Proofs.Ytfekgfimbkgkfab
open Go.RowKit Go.Maps

/-- What the document's walk answers. -/
def RwP (B : Nat) (w' : World) (e : Ending) (y : Wy) : Prop := match y with
  | .bad er => e = .returned (.tuple #[.pointer none, .int .i64 er])
  | .ok a r => ∃ x va vb, e = .returned (.tuple #[.pointer (some ⟨x, 0, none⟩), .int .i64 0]) ∧ RW w' B x va vb a r

set_option maxHeartbeats 4000000 in
set_option maxRecDepth 100000 in
theorem rwalk_any (w : World) (ve : Value) (l : List Ed) (he : Row w ve l.length (ecells l)) (hl : l.length ≤ 3518437208780) (v : Value) (p : List ByteArray) (h : Row w v p.length (strs p)) (hn : p.length < 8796093022000) :
    Calls Try.prog 52 #[ve, v] w fun e w' => Hid (Keeps (fun _ => False) w w') ∧ RwP w.heap.size w' e (lead (tabF l) p) := by
  have HE := Hid.mk' he
  have HR := Hid.mk' h
  obtain ⟨ea, ecp, rfl, _⟩ := he
  obtain ⟨pa, pcp, rfl, _⟩ := h
  obtain ⟨i3, h3i, h3a, h3b, h3c⟩ := info_parts info3
  obtain ⟨i4, h4i, h4a, h4b, h4c⟩ := info_parts info4
  have HN := Hid.mk' (RW.start w)
  go_enter Try.func52, Try.ntmps52
  go_wp2
  go_loopw [7] (fun i wr => ∃ k : Nat, k ≤ p.length ∧ i = .int .i64 k ∧ Hid (∃ va vb a r, lead (tabF l) (p.take k) = .ok a r ∧ RW wr w.heap.size (w.heap.size + 1 + 1) va vb a r ∧ Keeps (fun _ => False) w wr)) (fun i _ => p.length - (intOf i).toNat)
  case atStart => exact ⟨0, Nat.zero_le _, rfl, _, _, _, _, rfl, HN.out.1, HN.out.2⟩
  case round =>
    obtain ⟨k, hk, rfl, HI⟩ := hrel
    clear HN
    obtain ⟨va, vb, a, r, hL, hW, hK⟩ := HI.out
    have hrl := lead_len hL
    rw [List.length_take] at hrl
    obtain ⟨c0, c1, cf⟩ := cells2 hW.st
    obtain ⟨g, gc, rfl, _, hgc, g0⟩ := own_last hW.ri (ints_last a r)
    obtain ⟨g', gc', rfl, _, hgc', g1⟩ := own_last hW.rs (bools_last a r)
    have h53 := rlast_any wr w.heap.size (w.heap.size + 1 + 1) _ _ a r hW (by omega)
    have HL := Hid.mk' hL
    have HW := Hid.mk' hW
    have HK := Hid.mk' hK
    have f0 := cf 0
    have f1 := cf 1
    clear HI hL hW hK cf
    obtain ⟨an, ab⟩ := a
    dsimp only at g0 g1 h53
    by_cases h1 : k < p.length
    · obtain ⟨b, o, cap', e, hb, hc⟩ := HR.out.pos (by omega)
      cases e
      have h1' : (k : Int) < (p.length : Int) := by omega
      have c2 := HK.out.cell (hc k _ (strs_get h1)) id
      have HS : Hid (lead (tabF l) (p.take (k + 1)) = step1 (tabF l) (an, ab) r (p.getD k bz)) := by
        show _ = _
        rw [take_getD bz h1, lead_snoc, HL.out]
      generalize hsd : p.getD k bz = s at c2 HS
      clear hc
      cases ab with
      | false =>
        have HB : Hid (lead (tabF l) p = .bad 144) := lead_bad_take (k := k + 1) (HS.out.trans (by simp [step1]))
        go_wp2_with (first
          | (go_at_call 53; refine h53.mono ?_; clear h53; rintro e w2 ⟨rfl, hk2⟩; have HK2 := Hid.mk' (HK.out.trans hk2); clear hk2))
        refine bodyPost_ret (v := .tuple #[.pointer none, .int .i64 144]) (by simp [results, Try.results52, go_sem]) rfl ?_
        exact ⟨HK2.out, by rw [HB.out]; rfl⟩
      | true =>
        rcases Bool.eq_false_or_eq_true (isDot s) with hD | hD
        · have hD' : (s.toList == [46]) = true := hD
          have HX : Hid (lead (tabF l) (p.take (k + 1)) = .ok (an, true) r) := HS.out.trans (by simp [step1, hD])
          clear hD
          go_wp2_with (first
            | (go_at_call 53; refine h53.mono ?_; clear h53; rintro e w2 ⟨rfl, hk2⟩
               have HW2 := Hid.mk' (HW.out.keep hk2)
               have HK2 := Hid.mk' (HK.out.trans hk2)
               obtain ⟨c0, c1, cf⟩ := cells2 HW2.out.st
               have f0 := cf 0
               have f1 := cf 1
               have g0 := hk2.cell g0 id
               have g1 := hk2.cell g1 id
               have c2 := hk2.cell c2 id
               clear hk2 cf))
          go_roundw
          case rel => exact ⟨k + 1, by omega, by go_num, _, _, _, _, HX.out, HW2.out, HK2.out⟩
          case measure => simp [intOf]; omega
        · have hD' : (s.toList == [46]) = false := hD
          rcases Bool.eq_false_or_eq_true (isUp s) with hU | hU
          · have hU' : (s.toList == [46, 46]) = true := hU
            cases r with
            | nil =>
              have HX : Hid (lead (tabF l) (p.take (k + 1)) = .ok (an, true) []) := HS.out.trans (by simp [step1, hD, hU])
              clear hD hU
              simp only [List.length_nil, Nat.zero_add] at *
              go_wp2_with (first
                | (go_at_call 53; refine h53.mono ?_; clear h53; rintro e w2 ⟨rfl, hk2⟩
                   have HW2 := Hid.mk' (HW.out.keep hk2)
                   have HK2 := Hid.mk' (HK.out.trans hk2)
                   obtain ⟨c0, c1, cf⟩ := cells2 HW2.out.st
                   have f0 := cf 0
                   have f1 := cf 1
                   have g0 := hk2.cell g0 id
                   have g1 := hk2.cell g1 id
                   have c2 := hk2.cell c2 id
                   clear hk2 cf))
              go_roundw
              case rel => exact ⟨k + 1, by omega, by go_num, _, _, _, _, HX.out, HW2.out, HK2.out⟩
              case measure => simp [intOf]; omega
            | cons bb r =>
              have HX : Hid (lead (tabF l) (p.take (k + 1)) = .ok bb r) := HS.out.trans (by simp [step1, hD, hU])
              clear hD hU
              simp only [List.length_cons] at g0 g1 hgc hgc' hrl c0 c1 h53 HW
              have hg2 : ((r.length : Int) + 1) ≤ (gc : Int) := by omega
              have hg3 : ((r.length : Int) + 1) ≤ (gc' : Int) := by omega
              have hr2 : r.length + 1 < 8796093022000 := by omega
              have hgt : (1 : Int) < (r.length : Int) + 1 + 1 := by omega
              clear hrl
              go_wp2_with (first
                | (go_at_call 53; refine h53.mono ?_; clear h53; rintro e w2 ⟨rfl, hk2⟩
                   have hW2 := HW.out.keep hk2
                   have HK2 := Hid.mk' (HK.out.trans hk2)
                   obtain ⟨c0, c1, cf⟩ := cells2 hW2.st
                   have f0 := cf 0
                   have c2 := hk2.cell c2 id
                   have hri := hW2.ri
                   have hrs := hW2.rs
                   rw [ints_push] at hri
                   rw [bools_push] at hrs
                   have hP1 := RG.puti hW2.st (own_cut1 (by rw [ints_len, wayL_len]) hri) hrs
                   obtain ⟨d0, d1, df⟩ := cells2 hP1.st
                   have f1 := df 1
                   have hP2 := RG.putb hP1.st hP1.ri (own_cut1 (by rw [bools_len, wayL_len]) hP1.rs)
                   have HW3 := Hid.mk' (RW.mk (a := bb) (r := r) hP2.st hP2.ri hP2.rs)
                   have HK3 := Hid.mk' ((HK2.out.then (set1k w2 (w.heap.size + 1 + 1) 0 (.slice (some ⟨g, 0, none⟩) (r.length + 1) gc)) (fun k hk => Or.inr (by omega))).then (set1k _ (w.heap.size + 1 + 1) 1 (.slice (some ⟨g', 0, none⟩) (r.length + 1) gc')) (fun k hk => Or.inr (by omega)))
                   clear hk2 cf df hW2 hri hrs hP1 hP2))
              go_roundw
              case rel => exact ⟨k + 1, by omega, by go_num, _, _, _, _, HX.out, HW3.out, HK3.out⟩
              case measure => simp [intOf]; omega
          · have hU' : (s.toList == [46, 46]) = false := hU
            have HX : Hid (lead (tabF l) (p.take (k + 1)) = if (tabF l an s).1 < 1 then .bad 143 else .ok (tabF l an s) ((an, true) :: r)) := HS.out.trans (by simp [step1, hD, hU])
            clear hD hU
            go_wp2_with (first
              | (go_at_call 53; refine h53.mono ?_; clear h53; rintro e w2 ⟨rfl, hk2⟩
                 have HW2 := Hid.mk' (HW.out.keep hk2)
                 have HK2 := Hid.mk' (HK.out.trans hk2)
                 obtain ⟨c0, c1, cf⟩ := cells2 HW2.out.st
                 have f0 := cf 0
                 have f1 := cf 1
                 have g0 := hk2.cell g0 id
                 have g1 := hk2.cell g1 id
                 have c2 := hk2.cell c2 id
                 clear hk2 cf))
            have h40 : ∀ n, Calls Try.prog 40 #[.slice ea l.length ecp, .int .i64 an, .string s] (w2.drewN n) fun e w' => e = .returned (.tuple #[.int .i64 (tabF l an s).1, .bool (tabF l an s).2]) ∧ ∃ m, w' = (w2.drewN n).drewN m := fun n => rlook_quiet _ _ l (HE.out.keep (HK2.out.trans (Keeps.drewN _ _ _))) hl an s
            generalize tabF l an s = y at HX h40
            obtain ⟨yn, yb⟩ := y
            dsimp only at HX h40
            have hr1 : (r.length : Int) < (r.length : Int) + 1 := by omega
            go_quiet (first | (go_at_call 40; exact Calls.quiet_of (h40 _)))
            clear h40
            have hdr := Keeps.drewN (fun _ => False) w2 nq
            have HW3 := Hid.mk' (HW2.out.keep hdr)
            have HK3 := Hid.mk' (HK2.out.trans hdr)
            have x0 := hdr.cell c0 id
            have x1 := hdr.cell c1 id
            clear hdr
            by_cases h3 : yn < 1
            · have HB : Hid (lead (tabF l) p = .bad 143) := lead_bad_take (k := k + 1) (HX.out.trans (by simp [h3]))
              go_wp2
              refine bodyPost_ret (v := .tuple #[.pointer none, .int .i64 143]) (by simp [results, Try.results52, go_sem]) rfl ?_
              exact ⟨HK3.out, by rw [HB.out]; rfl⟩
            · have HY : Hid (lead (tabF l) (p.take (k + 1)) = .ok (yn, yb) ((an, true) :: r)) := HX.out.trans (by simp [h3])
              clear HX
              go_wp2_with (first
                | (at_builtin; refine wpList_append_own_at _ rfl _ _ 99 rfl w.heap.size 3 i3 (.int .i64 0) 1 8 Try.underlying99 h3i h3a h3b h3c rfl (by decide) _ (r.length + 1) (ints (wayL (an, true) r)) rfl (HW3.out.ri.alloc _) ⟨(w2.drewN nq).heap.size, 0, none⟩ 1 1 [.int .i64 yn] rfl rfl (cell_one_new _ _ _) (by simp [Value.oneCell']) (by unfold maxLen; omega) (by omega) (by rw [World.size_alloc]; have := HK3.out.size; omega) ?_; intro v' w4 hown hgr _ _
                   have hRa := HW3.out.g.keep ((Keeps.refl _ _).alloc (.cells #[.int .i64 yn] 3))
                   obtain ⟨a1, a2, a3⟩ := hRa.ai hgr
                   obtain ⟨ra, rc, er, _⟩ := Row.of_own hown
                   subst er
                   obtain ⟨y0, y1, yf⟩ := cells2 a1
                   have f0 := yf 0
                   have hP1 := RG.puti a1 hown a2
                   obtain ⟨z0, z1, zf⟩ := cells2 hP1.st
                   have f1 := zf 1
                   have HP1 := Hid.mk' hP1
                   have HK4 := Hid.mk' (((HK3.out.alloc (.cells #[.int .i64 yn] 3)).then a3 (fun k hk => Or.inr hk)).then (set1k w4 (w.heap.size + 1 + 1) 0 (.slice ra (r.length + 1 + 1) rc)) (fun k hk => Or.inr (by omega)))
                   clear hRa a1 a2 a3 yf zf hP1 hown hgr)
                | (at_builtin
                   have hsz : (w4.setCell ⟨w.heap.size + 1 + 1, 0, none⟩ (.slice ra (r.length + 1 + 1) rc)).heap.size = w4.heap.size := by simp [World.setCell]
                   refine wpList_append_own_at _ rfl _ _ 100 rfl w.heap.size 4 i4 (.bool false) 1 1 Try.underlying100 h4i h4a h4b h4c rfl (by decide) _ (r.length + 1) (bools (wayL (an, true) r)) rfl (HP1.out.rs.alloc _) ⟨w4.heap.size, 0, none⟩ 1 1 [.bool yb] rfl rfl (by have := cell_one_new (w4.setCell ⟨w.heap.size + 1 + 1, 0, none⟩ (.slice ra (r.length + 1 + 1) rc)) (.bool yb) 4; rw [hsz] at this; exact this) (by simp [Value.oneCell']) (by unfold maxLen; omega) (by omega) (by rw [World.size_alloc]; have := HK4.out.size; omega) ?_; intro v'' w5 hown hgr _ _
                   have hRa := HP1.out.keep ((Keeps.refl _ _).alloc (.cells #[.bool yb] 4))
                   obtain ⟨a1, a2, a3⟩ := hRa.ab hgr
                   obtain ⟨rb, rd, er, _⟩ := Row.of_own hown
                   subst er
                   obtain ⟨y0, y1, yf⟩ := cells2 a1
                   have f1 := yf 1
                   have hP2 := RG.putb a1 a2 hown
                   have HW5 : Hid (RW (w5.setCell ⟨w.heap.size + 1 + 1, 1, none⟩ (.slice rb (r.length + 1 + 1) rd)) w.heap.size (w.heap.size + 1 + 1) (.slice ra (r.length + 1 + 1) rc) (.slice rb (r.length + 1 + 1) rd) (yn, yb) ((an, true) :: r)) := by
                     refine ⟨hP2.st, ?_, ?_⟩
                     · rw [ints_push]; exact hP2.ri
                     · rw [bools_push]; exact hP2.rs
                   have HK5 := Hid.mk' (((HK4.out.alloc (.cells #[.bool yb] 4)).then a3 (fun k hk => Or.inr hk)).then (set1k w5 (w.heap.size + 1 + 1) 1 (.slice rb (r.length + 1 + 1) rd)) (fun k hk => Or.inr (by omega)))
                   clear hRa a1 a2 a3 yf hP2 hown hgr hsz))
              go_roundw
              case rel => exact ⟨k + 1, by omega, by go_num, _, _, _, _, HY.out, HW5.out, HK5.out⟩
              case measure => simp [intOf]; omega
    · have h1' : ¬ (k : Int) < (p.length : Int) := by omega
      have HE : Hid (lead (tabF l) p = .ok (an, ab) r) := by
        have := HL.out
        rw [List.take_of_length_le (by omega)] at this
        exact this
      go_wp2
      refine bodyPost_ret (v := .tuple #[.pointer (some ⟨w.heap.size + 1 + 1, 0, none⟩), .int .i64 0]) (by simp [results, Try.results52, go_sem]) rfl ?_
      exact ⟨HK.out, by rw [HE.out]; exact ⟨_, _, _, rfl, HW.out⟩⟩
end Go.Proofs.Ytfekgfimbkgkfab
