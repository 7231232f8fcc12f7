import Derived.Test.YtfekgfimbkgkfabC7
namespace Go.Proofs.Ytfekgfimbkgkfab
open Go.RowKit Go.Maps

theorem own_cut {w : World} {base cap : Nat} {a : Option Addr} {l : List ByteArray} {s : ByteArray} (h : w.ownsRow base 9 1 (.slice a (l.length + 1) cap) (l.length + 1) (strs (l ++ [s]))) : w.ownsRow base 9 1 (.slice a l.length cap) l.length (strs l) := by
  refine ⟨by rw [strs_len, Nat.mul_one], Or.inr ?_⟩
  rcases h.2 with ⟨h0, _⟩ | ⟨g, cap', cur, e, hg, hb, hc, hm, hs, ht⟩
  · cases h0
  · cases e
    refine ⟨g, cap, cur, rfl, hg, hb, by omega, hm, hs, ?_⟩
    have h3 := congrArg (List.take (l.length * 1)) ht
    have e2 : strs (l ++ [s]) = strs l ++ [.string s] := by simp [strs]
    rw [List.take_take, e2, List.take_append_of_le_length (by rw [strs_len]; omega), List.take_of_length_le (l := strs l) (by rw [strs_len]; omega)] at h3
    rw [← h3]
    congr 1
    omega

/-- What Clean's loop holds. -/
def ClI (W0 wr : World) (base : Nat) (p : List ByteArray) (k : Nat) (v : Value) : Prop :=
  wr.ownsRow base 9 1 v (clR (p.take k)).length (strs (clR (p.take k)).reverse) ∧ Keeps (fun _ => False) W0 wr

theorem two_blocks (w : World) (o1 o2 : Obj) : ((w.alloc o1).alloc o2).heap[w.heap.size]? = some o1 ∧ ((w.alloc o1).alloc o2).heap[w.heap.size + 1]? = some o2 ∧ Keeps (fun _ => False) w ((w.alloc o1).alloc o2) ∧ ((w.alloc o1).alloc o2).heap.size = w.heap.size + 2 := by
  have b1 := heap_last w o1
  have b2 := heap_last (w.alloc o1) o2
  rw [World.size_alloc] at b2
  exact ⟨((Keeps.refl (fun _ => False) (w.alloc o1)).alloc o2).at b1 id, b2, ((Keeps.refl _ w).alloc _).alloc _, by rw [World.size_alloc, World.size_alloc]⟩

set_option maxHeartbeats 4000000 in
set_option maxRecDepth 100000 in
theorem clean_any (w : World) (v : Value) (p : List ByteArray) (sl : Bool) (h : Row w v p.length (strs p)) (hn : p.length < 8796093022000) (hz : ∀ s ∈ p, s.size ≤ 281474976710656) :
    Calls Try.prog 11 #[.agg #[v, .bool sl]] w fun e w' => ∃ r, e = .returned (.agg #[r, .bool (clS p sl)]) ∧ Hid (w'.ownsRow w.heap.size 9 1 r (clP p).length (strs (clP p)) ∧ Keeps (fun _ => False) w w') := by
  obtain ⟨i0, hi, hz0, hz1, hz2⟩ := info_parts info9
  obtain ⟨n1, n2, n3, n4⟩ := two_blocks w (.cells #[v, .bool sl] 25) (.cells #[.slice none 0 0, .bool false] 25)
  have HR : Hid (Row w v p.length (strs p) ∧ ∀ s ∈ p, s.size ≤ 281474976710656) := ⟨h, hz⟩
  obtain ⟨ao, cap, rfl, _⟩ := h
  clear hz
  go_enter Try.func11, Try.ntmps11
  go_wp2
  have HN : Hid (ClI ((w.alloc (.cells #[.slice ao p.length cap, .bool sl] 25)).alloc (.cells #[.slice none 0 0, .bool false] 25)) ((w.alloc (.cells #[.slice ao p.length cap, .bool sl] 25)).alloc (.cells #[.slice none 0 0, .bool false] 25)) (w.heap.size + 2) p 0 (.slice none 0 0)) := ⟨World.ownsRow_nil _ _ _ _, Keeps.refl _ _⟩
  obtain ⟨W0, hW0⟩ : ∃ W0, W0 = (w.alloc (.cells #[.slice ao p.length cap, .bool sl] 25)).alloc (.cells #[.slice none 0 0, .bool false] 25) := ⟨_, rfl⟩
  rw [← hW0] at HN n1 n2 n3 n4
  have H0 : Hid (W0.heap[w.heap.size]? = some (.cells #[.slice ao p.length cap, .bool sl] 25) ∧ W0.heap[w.heap.size + 1]? = some (.cells #[.slice none 0 0, .bool false] 25) ∧ Keeps (fun _ => False) w W0 ∧ W0.heap.size = w.heap.size + 2) := ⟨n1, n2, n3, n4⟩
  clear n1 n2 n3 n4
  go_loopw [3, 9] (fun v3 i wr => ∃ k : Nat, k ≤ p.length ∧ i = .int .i64 k ∧ Hid (ClI W0 wr (w.heap.size + 2) p k v3)) (fun _ i _ => p.length - (intOf i).toNat)
  case atStart => exact ⟨0, Nat.zero_le _, rfl, by rw [← hW0]; exact HN⟩
  case round =>
    obtain ⟨k, hk, rfl, HI⟩ := hrel
    clear hW0 HN
    have hrl := clR_len (p.take k)
    rw [List.length_take] at hrl
    by_cases h1 : k < p.length
    · obtain ⟨b, o, cap', e, hb, hc⟩ := HR.out.1.pos (by omega)
      cases e
      have h1' : (k : Int) < (p.length : Int) := by omega
      have c2 := (H0.out.2.2.1.trans HI.out.2).cell (hc k _ (strs_get h1)) id
      have HS : Hid (clR (p.take (k + 1)) = cl1 (clR (p.take k)) (p.getD k bz)) := by
        show _ = _
        rw [take_getD bz h1, clR_snoc]
      have hsz := HR.out.2 _ (getD_mem bz h1)
      have hI := HI.out
      unfold ClI at hI
      generalize p.getD k bz = s at c2 HS hsz
      generalize clR (p.take k) = acc at hI HS hrl
      have h26 := clone_any s wr hsz
      have HJ : Hid (wr.ownsRow (w.heap.size + 2) 9 1 u3 acc.length (strs acc.reverse) ∧ Keeps (fun _ => False) W0 wr) := hI
      clear hc hsz HI hI
      rcases Bool.eq_false_or_eq_true (isDot s) with hD | hD
      · have hD' : (s.toList == [46]) = true := hD
        have HN : Hid (ClI W0 wr (w.heap.size + 2) p (k + 1) u3) := by
          unfold ClI
          rw [HS.out, cl1, if_pos hD]; exact HJ.out
        clear hD
        go_wp2
        go_roundw
        case rel => exact ⟨k + 1, by omega, by go_num, HN⟩
        case measure => simp [intOf]; omega
      · have hD' : (s.toList == [46]) = false := hD
        rcases Bool.eq_false_or_eq_true (isUp s) with hU | hU
        · have hU' : (s.toList == [46, 46]) = true := hU
          have HE : Hid (clR (p.take (k + 1)) = acc.tail) := HS.out.trans (by unfold cl1; rw [if_neg (by simp [hD]), if_pos hU])
          clear hD hU
          obtain ⟨va, vc, e3, hvc, _⟩ := Row.of_own HJ.out.1
          subst e3
          cases acc with
          | nil =>
            simp only [List.length_nil] at *
            go_wp2
            go_roundw
            case rel =>
              refine ⟨k + 1, by omega, by go_num, ?_⟩
              unfold ClI
              rw [HE.out]
              exact HJ.out
            case measure => simp [intOf]; omega
          | cons q acc =>
            simp only [List.length_cons] at hvc hrl HJ ⊢
            have hvc' : ((acc.length : Int) + 1) ≤ (vc : Int) := by omega
            have hvc2 : (acc.length : Int) ≤ (vc : Int) := by omega
            have hal : acc.length < 8796093022000 := by omega
            clear hrl
            go_wp2
            go_roundw
            case rel =>
              refine ⟨k + 1, by omega, by go_num, ?_⟩
              unfold ClI
              rw [HE.out]
              have h3 := HJ.out.1
              rw [List.reverse_cons, show acc.length + 1 = acc.reverse.length + 1 by simp] at h3
              have h4 := own_cut h3
              rw [List.length_reverse] at h4
              exact ⟨by simpa using h4, HJ.out.2⟩
            case measure => simp [intOf]; omega
        · have hU' : (s.toList == [46, 46]) = false := hU
          have HE : Hid (clR (p.take (k + 1)) = s :: acc) := HS.out.trans (by unfold cl1; rw [if_neg (by simp [hD]), if_neg (by simp [hU])])
          clear hD hU
          go_wp2_with (first
            | (go_at_call 26; refine h26.mono ?_; clear h26; rintro e w2 ⟨rfl, hk2⟩
               have HK3 : Hid (w2.ownsRow (w.heap.size + 2) 9 1 u3 acc.length (strs acc.reverse) ∧ Keeps (fun _ => False) W0 w2 ∧ w.heap.size + 2 ≤ w2.heap.size) := ⟨own_grow HJ.out.1 hk2, HJ.out.2.trans hk2, Nat.le_trans (by have := HJ.out.2.size; rw [H0.out.2.2.2] at this; exact this) hk2.size⟩
               clear hk2)
            | (at_builtin; go_must (refine wpList_append_own_at _ rfl _ _ 23 rfl (w.heap.size + 2) 9 i0 (.string ⟨#[]⟩) 1 16 Try.underlying23 hi hz0 hz1 hz2 rfl (by decide) _ acc.length (strs acc.reverse) rfl (HK3.out.1.alloc _) ⟨w2.heap.size, 0, none⟩ 1 1 [.string s] rfl rfl (cell_one_new _ _ _) (by simp [Value.oneCell']) (by unfold maxLen; omega) (by omega) (by rw [World.size_alloc]; have := HK3.out.2.2; omega) ?_); intro v' w3 hown hgr _ _))
          go_roundw
          case rel =>
            refine ⟨k + 1, by omega, by go_num, ?_⟩
            unfold ClI
            rw [HE.out]
            refine ⟨?_, ?_⟩
            · have e : strs (s :: acc).reverse = strs acc.reverse ++ [.string s] := by simp [strs]
              rw [e]; exact hown
            · refine (HK3.out.2.1.alloc _).step hgr ?_
              intro k' hk'
              have := (HK3.out.1.lt k' hk').1
              rw [H0.out.2.2.2]
              exact Or.inr this
          case measure => simp [intOf]; omega
    · have h1' : ¬ (k : Int) < (p.length : Int) := by omega
      have hI := HI.out
      unfold ClI at hI
      have eP : p.take k = p := List.take_of_length_le (by omega)
      rw [eP] at hI hrl
      have HP : Hid (clP p = (clR p).reverse ∧ clS p sl = (!(clR p).isEmpty && (sl || !named p))) := ⟨rfl, by unfold clS clP; rw [List.isEmpty_reverse]⟩
      have h27 := ends_any wr (.slice ao p.length cap) p sl (HR.out.1.keep (H0.out.2.2.1.trans hI.2)) hn
      generalize clR p = acc at hI HP hrl
      obtain ⟨va, vc, e3, hvc, _⟩ := Row.of_own hI.1
      subst e3
      have hKW : Keeps (fun _ => False) w wr := H0.out.2.2.1.trans hI.2
      have hOW := hI.1
      have hBR := hI.2.at H0.out.2.1 id
      obtain ⟨x0, x1, _⟩ := cells2 (hI.2.at H0.out.1 id)
      have HB0 : Hid (wr.heap[w.heap.size + 1]? = some (.cells #[.slice none 0 0, .bool false] 25)) := hBR
      clear hI HI eP
      cases acc with
      | nil =>
        simp only [List.length_nil, List.reverse_nil] at hvc hOW hrl
        obtain ⟨q0, q1, qf⟩ := cells2 hBR
        have f0 := qf 0
        have f1 := qf 1
        obtain ⟨d0, d1⟩ := set2c hBR (.slice va 0 vc) (.bool false)
        obtain ⟨_, s2⟩ := set2 hBR (.slice va 0 vc) (.bool false)
        have HE : Hid (((wr.setCell ⟨w.heap.size + 1, 0, none⟩ (.slice va 0 vc)).setCell ⟨w.heap.size + 1, 1, none⟩ (.bool false)).ownsRow w.heap.size 9 1 (.slice va 0 vc) 0 (strs []) ∧ Keeps (fun _ => False) w ((wr.setCell ⟨w.heap.size + 1, 0, none⟩ (.slice va 0 vc)).setCell ⟨w.heap.size + 1, 1, none⟩ (.bool false))) :=
          ⟨own_base (own_keep hOW s2 (fun g hg hk => by have := (hOW.lt g hg).1; omega)) (by omega), hKW.then s2 (fun k hk => Or.inr (by omega))⟩
        clear qf s2 hOW hKW hBR h27
        go_wp2
        refine bodyPost_ret (v := .agg #[.slice va 0 vc, .bool false]) (by simp [results, Try.results11, go_sem, d0, d1]) rfl ?_
        obtain ⟨eP, eS⟩ := HP.out
        refine ⟨_, by rw [eS]; rfl, ?_⟩
        rw [eP]; exact HE.out
      | cons q acc =>
        simp only [List.length_cons] at hvc hOW hrl ⊢
        have hpos : (0 : Int) < (acc.length : Int) + 1 := by omega
        cases sl with
        | true =>
          obtain ⟨q0, q1, qf⟩ := cells2 hBR
          have f0 := qf 0
          have f1 := qf 1
          obtain ⟨d0, d1⟩ := set2c hBR (.slice va (acc.length + 1) vc) (.bool true)
          obtain ⟨_, s2⟩ := set2 hBR (.slice va (acc.length + 1) vc) (.bool true)
          have HE : Hid (((wr.setCell ⟨w.heap.size + 1, 0, none⟩ (.slice va (acc.length + 1) vc)).setCell ⟨w.heap.size + 1, 1, none⟩ (.bool true)).ownsRow w.heap.size 9 1 (.slice va (acc.length + 1) vc) (acc.length + 1) (strs (q :: acc).reverse) ∧ Keeps (fun _ => False) w ((wr.setCell ⟨w.heap.size + 1, 0, none⟩ (.slice va (acc.length + 1) vc)).setCell ⟨w.heap.size + 1, 1, none⟩ (.bool true))) :=
            ⟨own_base (own_keep hOW s2 (fun g hg hk => by have := (hOW.lt g hg).1; omega)) (by omega), hKW.then s2 (fun k hk => Or.inr (by omega))⟩
          clear qf s2 hOW hKW hBR h27
          go_wp2
          refine bodyPost_ret (v := .agg #[.slice va (acc.length + 1) vc, .bool true]) (by simp [results, Try.results11, go_sem, d0, d1]) rfl ?_
          obtain ⟨eP, eS⟩ := HP.out
          refine ⟨_, by rw [eS]; rfl, ?_⟩
          rw [eP, List.length_reverse]; exact HE.out
        | false =>
          go_wp2_with (first
            | (go_at_call 27; refine h27.mono ?_; clear h27; rintro e w2 ⟨rfl, hk2⟩
               have hOW := own_grow hOW hk2
               have hKW := hKW.trans hk2
               have hBR := hk2.at HB0.out id
               obtain ⟨q0, q1, qf⟩ := cells2 hBR
               have f0 := qf 0
               have f1 := qf 1
               obtain ⟨d0, d1⟩ := set2c hBR (.slice va (acc.length + 1) vc) (.bool !named p)
               obtain ⟨_, s2⟩ := set2 hBR (.slice va (acc.length + 1) vc) (.bool !named p)
               have HE : Hid (((w2.setCell ⟨w.heap.size + 1, 0, none⟩ (.slice va (acc.length + 1) vc)).setCell ⟨w.heap.size + 1, 1, none⟩ (.bool !named p)).ownsRow w.heap.size 9 1 (.slice va (acc.length + 1) vc) (acc.length + 1) (strs (q :: acc).reverse) ∧ Keeps (fun _ => False) w ((w2.setCell ⟨w.heap.size + 1, 0, none⟩ (.slice va (acc.length + 1) vc)).setCell ⟨w.heap.size + 1, 1, none⟩ (.bool !named p))) :=
                 ⟨own_base (own_keep hOW s2 (fun g hg hk => by have := (hOW.lt g hg).1; omega)) (by omega), hKW.then s2 (fun k hk => Or.inr (by omega))⟩
               clear qf s2 hOW hKW hBR hk2))
          refine bodyPost_ret (v := .agg #[.slice va (acc.length + 1) vc, .bool (!named p)]) (by simp [results, Try.results11, go_sem, d0, d1]) rfl ?_
          obtain ⟨eP, eS⟩ := HP.out
          refine ⟨_, by rw [eS]; rfl, ?_⟩
          rw [eP, List.length_reverse]; exact HE.out
end Go.Proofs.Ytfekgfimbkgkfab
