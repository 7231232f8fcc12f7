import Derived.Test.YtfiekdgpdboolabY13
namespace Go.Proofs.Ytfiekdgpdboolab
open Go.RowKit Go.Maps

theorem ap_start {w w2 : World} {n d u : Nat} {F1 F2 : Nat → Prop} {S U : St} {L1 L2 : Lay} (h : Duo w w.heap.size n d u F1 F2 S U L1 L2 w2) :
    AP w w.heap.size n d u F1 F2 S U L1 L2 (fun _ => False) (.slice none 0 0) (.slice none 0 0) [] [] [] w2 :=
  ⟨h, World.ownsRow_nil _ _ _ _, World.ownsRow_nil _ _ _ _, by simp, by simp, by simp, (fun b hb => by cases hb), (fun b hb => by cases hb), by simp, by simp⟩

theorem news5 (w : World) (x y z u v : Value) (t : TypeId) (b : Nat) (hb : w.heap.size = b) : ∀ j e, [x, y, z, u, v][j]? = some e → (w.alloc (.cells #[x, y, z, u, v] t)).cell? ((⟨b, 0, none⟩ : Addr).add j) = some e := by
  intro j e hj
  have h1 := (MapKept.heap_alloc w (.cells #[x, y, z, u, v] t)).1
  rw [hb] at h1
  by_cases h0 : j = 0
  · subst h0; simpa [World.cell?, Addr.add, h1] using hj
  · simpa [World.cell?, Addr.add, h0, h1] using hj

section
variable {w0 : World} {B n d u : Nat} {F1 F2 : Nat → Prop} {S U : St} {L1 L2 : Lay} {Z : Nat → Prop} {vl vt : Value} {ls : List Lent1} {ts : List Told1} {lo : List (Nat × Nat)} {wr : World}

theorem AP.lend1 {b m g c : Nat} {mk : Int} {w3 w5 : World} {o : Obj} {g5 c5 : Nat} (h : AP w0 B n d u F1 F2 S U L1 L2 Z vl vt ls ts ((b, m) :: lo) wr) (hm : m ≤ 10000) (ho : LentOut B vl ls b m g mk wr w3)
    (hrow : w5.ownsRow B 55 3 (.slice (some ⟨g5, 0, none⟩) (ls.length + 1 : Nat) c5) (ls.length + 1) (lentCells ls ++ [.slice (some ⟨b, 0, none⟩) m m, .slice (some ⟨g, 0, none⟩) (m + 9 : Nat) c, .int .u8 mk]))
    (hgr : (w3.alloc o).grownBy w5 vl.ownBlock) (hloc : vl.ownBlock = some g5 ∨ (g5 = w3.heap.size + 1 ∧ (w3.alloc o).grownBy w5 none)) :
    ∃ Z' ls', AP w0 B n d u F1 F2 S U L1 L2 Z' (.slice (some ⟨g5, 0, none⟩) (ls.length + 1 : Nat) c5) vt ls' ts lo w5 ∧ ls'.length = ls.length + 1 :=
  ⟨_, _, h.lend hm ho.cb ho.cg ho.hg ho.hgl ho.k3 hrow hgr (by rcases hloc with h | ⟨h, _⟩; exact Or.inl h; exact Or.inr h), by simp⟩

theorem AP.tell1 {t : Told1} {w1 w3 w5 : World} {o : Obj} {g5 c5 : Nat} (h : AP w0 B n d u F1 F2 S U L1 L2 Z vl vt ls ts [] wr) (k1 : Keeps (fun _ => False) wr w1) (ht : t.Ok w3 (fun b => wr.heap.size ≤ b ∧ b < w3.heap.size)) (k3 : Keeps (fun b => wr.heap.size ≤ b) w1 w3)
    (hrow : w5.ownsRow B 60 5 (.slice (some ⟨g5, 0, none⟩) (ts.length + 1 : Nat) c5) (ts.length + 1) (toldCells ts ++ t.five))
    (hgr : (w3.alloc o).grownBy w5 vt.ownBlock) (hloc : vt.ownBlock = some g5 ∨ (g5 = w3.heap.size + 1 ∧ (w3.alloc o).grownBy w5 none)) :
    ∃ Z' ts', AP w0 B n d u F1 F2 S U L1 L2 Z' vl (.slice (some ⟨g5, 0, none⟩) (ts.length + 1 : Nat) c5) ls ts' [] w5 ∧ ts'.length = ts.length + 1 :=
  ⟨_, _, h.tell k1 ht k3 hrow hgr (by rcases hloc with h | ⟨h, _⟩; exact Or.inl h; exact Or.inr h), by simp⟩
end

set_option maxHeartbeats 4000000 in
set_option maxRecDepth 20000 in
theorem apart_walk (w : World) (pages : Int) (p : Option Addr) (cap : Nat) (l : List Note3) (hN : NotesAt w p l) (hl1 : l.length ≤ maxLen) (pc : Option Addr) (cc : Nat) (cs : List Int) (hcl : cs.length ≤ 17592186043904)
    (hpc : 0 < cs.length → ∃ cb co, pc = some ⟨cb, co, none⟩ ∧ cb < w.heap.size ∧ ∀ i, i < cs.length → w.cell? ⟨cb, co + i, none⟩ = some (.int .i64 (cs.getD i 0))) :
    Calls Try.prog 4 #[.int .i64 pages, .slice p l.length cap, .slice pc cs.length cc] w fun e w' => e = .returned (.bool true) ∧ Below w.heap.size w w' := by
  obtain ⟨n, hn⟩ : ∃ n, n = sizeOf8 pages := ⟨_, rfl⟩
  have hsz := sizeOf8_le pages
  have hsize := size_any pages
  rw [← hn] at hsz hsize
  have HN := Hid.mk' hN
  have HPC : Hid (∀ wx, Keeps (fun k => w.heap.size ≤ k) w wx → 0 < cs.length → ∃ cb co, pc = some ⟨cb, co, none⟩ ∧ cb < wx.heap.size ∧ ∀ i, i < cs.length → wx.cell? ⟨cb, co + i, none⟩ = some (.int .i64 (cs.getD i 0))) := fun wx hk h0 => by
    obtain ⟨cb, co, e1, e2, e3⟩ := hpc h0
    exact ⟨cb, co, e1, Nat.lt_of_lt_of_le e2 hk.size, fun i hi => hk.cell (e3 i hi) (by simp; omega)⟩
  have HCL := Hid.mk' hcl
  obtain ⟨N, hNN⟩ : ∃ N, N = cs.length := ⟨_, rfl⟩
  rw [← hNN]
  have HNN := Hid.mk' hNN
  unfold maxLen at hl1
  clear hn hN hpc hNN hcl
  obtain ⟨s1, s2, s3⟩ := hsz
  go_enter Try.func4, Try.ntmps4
  go_wp2_with (first
    | (go_at_call 9; refine (hsize _).mono ?_; rintro e w' ⟨rfl, hw⟩; subst w')
    | (go_at_call 10; have hg0 := HG1.out; refine (made_yes n _ s2 (by omega) s3).mono ?_; rintro e w2 ⟨rfl, hw2⟩
       obtain ⟨F1, L1, F2, L2, hduo⟩ := duo_made HG1.out (going_made _ _ n s1 hw2)
       have HA0 := Hid.mk' (ap_start hduo)
       clear hg0 hw2 HG1 hduo)
    | (go_at_call 10; refine (made_yes n _ s2 (by omega) s3).mono ?_; rintro e w1 ⟨rfl, hw1⟩
       have HG1 := Hid.mk' (going_made _ _ n s1 hw1)
       clear hw1))
  clear hsize
  go_loopw [12, 13, 14] (fun vl vt i wr => ∃ k : Nat, k ≤ l.length ∧ k ≤ 50 ∧ i = .int .i64 k ∧ Hid (∃ F1 F2 S U L1 L2 Z ls ts, AP w w.heap.size n (w.heap.size + 2) (w1.heap.size + 2) F1 F2 S U L1 L2 Z vl vt ls ts [] wr ∧ ls.length = 3 * k ∧ ts.length = k ∧ Twin S U ∧ S.armed = false ∧ U.armed = false ∧ S.steps = k))
    (fun _ _ i _ => 50 - (intOf i).toNat)
  case atStart => exact ⟨0, by omega, by omega, rfl, _, _, _, _, _, _, _, [], [], HA0.out, rfl, rfl, ⟨rfl, rfl, rfl, rfl⟩, rfl, rfl, rfl⟩
  case round =>
    obtain ⟨k, hk1, hk2, rfl, hrel⟩ := hrel
    obtain ⟨F1, F2, S, U, L1, L2, Z, ls, ts, hap, hll, htl, htw, hsa, hua, hst⟩ := hrel
    clear HA0
    by_cases hlt : k < l.length ∧ k < 50
    · obtain ⟨hlt1, hlt2⟩ := hlt
      have hi1 : (k : Int) < (l.length : Int) := by omega
      have hi2 : (k : Int) < 50 := by omega
      have hi0 : (0 : Int) ≤ (k : Int) := by omega
      obtain ⟨b, o, rfl, hb, hc⟩ := HN.out (by omega)
      have HNT : Hid (∀ wx, Keeps (fun k => w.heap.size ≤ k) w wx → wx.cell? ⟨b, o + k * 3, none⟩ = some (.int .i64 (l.getD k (0, 0, 0)).1) ∧ wx.cell? ⟨b, o + k * 3 + 1, none⟩ = some (.int .i64 (l.getD k (0, 0, 0)).2.1) ∧ wx.cell? ⟨b, o + k * 3 + 2, none⟩ = some (.int .u64 (l.getD k (0, 0, 0)).2.2)) := fun wx hk => by
        obtain ⟨e1, e2, e3, _⟩ := hc k hlt1
        exact ⟨hk.cell e1 (by simp; omega), hk.cell e2 (by simp; omega), hk.cell e3 (by simp; omega)⟩
      have e4 := (hc k hlt1).2.2.2
      generalize l.getD k (0, 0, 0) = nt at *
      obtain ⟨e1, e2, e3⟩ := HNT.out wr hap.duo.keeps
      have hnote := ap_note hap nt.1 nt.2.1 nt.2.2 e4 s3 s2 hsa (by omega)
      have HV : Hid (0 ≤ nt.2.2 ∧ nt.2.2 < 18446744073709551616) := e4
      have HT := Hid.mk' (show Twin S U ∧ S.armed = false ∧ U.armed = false ∧ S.steps = k ∧ ls.length = 3 * k ∧ ts.length = k from ⟨htw, hsa, hua, hst, hll, htl⟩)
      have hwd := fun w => word_any nt.2.1 n w (by omega) (by omega)
      obtain ⟨i5, hi5, hz0, hz1, hz2⟩ := info_parts info55
      obtain ⟨i6, hi6, hy0, hy1, hy2⟩ := info_parts info60
      have hw1 : IntKind.u8.wrap (3 * (k : Int) + 1) = 3 * (k : Int) + 1 := by simp [IntKind.wrap, IntKind.signed, IntKind.bits]; omega
      have hw2' : IntKind.u8.wrap (3 * (k : Int) + 2) = 3 * (k : Int) + 2 := by simp [IntKind.wrap, IntKind.signed, IntKind.bits]; omega
      have hw3 : IntKind.u8.wrap (3 * (k : Int) + 3) = 3 * (k : Int) + 3 := by simp [IntKind.wrap, IntKind.signed, IntKind.bits]; omega
      clear hc e4 htw hsa hua hst hll htl hap
      go_upto_region 21 with (first
        | (go_at_call 21; refine hnote2.mono ?_; rintro e w5 ⟨rfl, F4, L4, hx⟩
           have H5 := Hid.mk' hx.swap
           obtain ⟨_, m2, _⟩ := HNT.out w5 hx.duo.keeps
           have hrd := ap_read H5.out nt.2.1 s2 (by rw [note_steps, HT.out.2.2.2.1]; omega)
           clear hnote2 hx g1 g2 g3)
        | (go_at_call 21; refine hnote.mono ?_; rintro e w4 ⟨rfl, F3, L3, hx⟩
           obtain ⟨g1, g2, g3⟩ := HNT.out w4 hx.duo.keeps
           have hnote2 := ap_note hx.swap nt.1 nt.2.1 nt.2.2 HV.out s3 s2 HT.out.2.2.1 (by have := HT.out.1.2.2.2; have := HT.out.2.2.2.1; omega)
           clear hnote hx e1 e2 e3)
        | (go_at_call 11; refine (hwd _).mono ?_; rintro e w' ⟨rfl, hw⟩; subst w')
        | (go_at_call 22; refine hrd.mono ?_; rintro e w6 ⟨rfl, hx⟩
           have H6 := Hid.mk' hx
           have hcr := ap_crash hx s2 (by rw [note_steps, HT.out.2.2.2.1]; omega) pc cc cs HCL.out (HPC.out w6 hx.duo.keeps)
           rw [← HNN.out] at hcr
           clear hrd hx m2)
        | (go_at_call 23; refine hcr.mono ?_; rintro e w7 ⟨rfl, hx, _⟩
           have H7 := Hid.mk' hx
           have hvw := ap_view hx (by rw [note_steps, HT.out.2.2.2.1]; omega)
           clear hcr hx)
        | (go_at_call 24; refine hvw.mono ?_; rintro e w8 ⟨rfl, hx, _⟩
           have H8 := Hid.mk' (show AP _ _ _ _ _ _ _ _ _ _ _ _ _ _ _ _ [(w5.heap.size, 8), (w6.heap.size, n), (w7.heap.size, n)] w8 from hx)
           clear hvw hx))
      have hlb : ls.length ≤ 150 := by have := HT.out.2.2.2.2.1; omega
      have htb : ts.length ≤ 50 := by have := HT.out.2.2.2.2.2; omega
      clear H5 H6 H7 hwd HV HNT
      go_upto_region 24 with (first
        | (at_builtin; refine wpList_append_stay _ rfl _ _ 44 rfl w.heap.size 55 i5 (.agg #[.slice none 0 0, .slice none 0 0, .int .u8 0]) 3 56 Try.underlying44 hi5 hz0 hz1 hz2 rfl (by decide) (.slice (some ⟨gl2, 0, none⟩) (ls1.length + 1 : Nat) cl2) ls2.length (lentCells ls2) rfl (hr3.alloc _) ⟨w13.heap.size, 0, none⟩ 1 1 [.slice (some ⟨w7.heap.size, 0, none⟩) n n, .slice (some ⟨ga3, 0, none⟩) (n + 9 : Nat) ca3, .int .u8 (3 * (k : Int) + 3)] rfl rfl (news3 w13 _ _ _ 55 _ rfl) (by simp [Value.oneCell']) (by decide) (by unfold maxLen; omega) (by omega) (by simp; omega) (w13.heap.size + 1) (by simp) ?_; intro gl3 cl3 w14 hrow hgr hloc hlt
           obtain ⟨Z3, ls3, H14', hl3⟩ := H12.out.lend1 (by omega) HO3.out hrow hgr hloc
           have H14 := Hid.mk' H14'
           have HL3 := Hid.mk' hl3
           clear hrow hgr hloc hlt H14' hr3 hb3 HO3 hl3)
        | (go_at_call 25; refine (ap_lend H12.out (3 * (k : Int) + 3) (by omega) (by omega)).mono ?_; rintro e w13 ⟨ga3, ca3, rfl, ho⟩; have HO3 := Hid.mk' ho; have hr3 := ho.lr; have hb3 := ho.bs; clear ho)
        | (at_builtin; refine wpList_append_stay _ rfl _ _ 44 rfl w.heap.size 55 i5 (.agg #[.slice none 0 0, .slice none 0 0, .int .u8 0]) 3 56 Try.underlying44 hi5 hz0 hz1 hz2 rfl (by decide) (.slice (some ⟨gl1, 0, none⟩) (ls.length + 1 : Nat) cl1) ls1.length (lentCells ls1) rfl (hr2.alloc _) ⟨w11.heap.size, 0, none⟩ 1 1 [.slice (some ⟨w6.heap.size, 0, none⟩) n n, .slice (some ⟨ga2, 0, none⟩) (n + 9 : Nat) ca2, .int .u8 (3 * (k : Int) + 2)] rfl rfl (news3 w11 _ _ _ 55 _ rfl) (by simp [Value.oneCell']) (by decide) (by unfold maxLen; omega) (by omega) (by simp; omega) (w11.heap.size + 1) (by simp) ?_; intro gl2 cl2 w12 hrow hgr hloc hlt
           obtain ⟨Z2, ls2, H12', hl2⟩ := H10.out.lend1 (by omega) HO2.out hrow hgr hloc
           have H12 := Hid.mk' H12'
           have HL2 := Hid.mk' hl2
           have hlb2 : ls2.length ≤ 152 := by omega
           clear hrow hgr hloc hlt H12' hr2 hb2 HO2 hl2)
        | (go_at_call 25; refine (ap_lend H10.out (3 * (k : Int) + 2) (by omega) (by omega)).mono ?_; rintro e w11 ⟨ga2, ca2, rfl, ho⟩; have HO2 := Hid.mk' ho; have hr2 := ho.lr; have hb2 := ho.bs; clear ho)
        | (at_builtin; refine wpList_append_stay _ rfl _ _ 44 rfl w.heap.size 55 i5 (.agg #[.slice none 0 0, .slice none 0 0, .int .u8 0]) 3 56 Try.underlying44 hi5 hz0 hz1 hz2 rfl (by decide) u12 ls.length (lentCells ls) rfl (hr1.alloc _) ⟨w9.heap.size, 0, none⟩ 1 1 [.slice (some ⟨w5.heap.size, 0, none⟩) 8 8, .slice (some ⟨ga1, 0, none⟩) (8 + 9 : Nat) ca1, .int .u8 (3 * (k : Int) + 1)] rfl rfl (news3 w9 _ _ _ 55 _ rfl) (by simp [Value.oneCell']) (by decide) (by unfold maxLen; omega) (by omega) (by simp; omega) (w9.heap.size + 1) (by simp) ?_; intro gl1 cl1 w10 hrow hgr hloc hlt
           obtain ⟨Z1, ls1, H10', hl1'⟩ := H8.out.lend1 (by omega) HO1.out hrow hgr hloc
           have H10 := Hid.mk' H10'
           have HL1 := Hid.mk' hl1'
           have hlb1 : ls1.length ≤ 151 := by omega
           clear hrow hgr hloc hlt H10' hr1 hb1 HO1 hl1')
        | (go_at_call 25; refine (ap_lend H8.out (3 * (k : Int) + 1) (by omega) (by omega)).mono ?_; rintro e w9 ⟨ga1, ca1, rfl, ho⟩; have HO1 := Hid.mk' ho; have hr1 := ho.lr; have hb1 := ho.bs; clear ho))
      have hsk : (S.note nt.1 nt.2.1 nt.2.2 n).steps = (k : Int) + 1 := by rw [note_steps, HT.out.2.2.2.1]
      have HSK := Hid.mk' hsk
      have HTW := Hid.mk' (note_twin nt.1 nt.2.1 nt.2.2 n HT.out.1)
      have HLL : Hid (ls3.length = 3 * (k + 1)) := by have h1 := HL1.out; have h2 := HL2.out; have h3 := HL3.out; have h4 := HT.out.2.2.2.2.1; show ls3.length = 3 * (k + 1); omega
      have hlb3 : ls3.length ≤ 153 := by have h3 := HL3.out; omega
      clear hsk H8 H10 H12 HL1 HL2 HL3 hlb hlb1 hw1 hw2' hw3 hz0 hz1 hz2 hi5
      go_wp2_with (first
        | (go_at_call 27; refine (ap_doubts H14.out s1 k (by omega) (by rw [HSK.out]; omega)).mono ?_; rintro e w15 ⟨v15, rfl, hk15, hld⟩; have K15 := Hid.mk' hk15; clear hk15)
        | (go_at_call 26; refine hld.mono ?_; rintro e w16 ⟨t, he, ht1, ht2, ht3, ht4⟩
           have he' : e = .returned (.agg #[.slice t.pL t.n t.cL, .slice (some ⟨t.gG, 0, none⟩) (t.n + 3 : Nat) t.cG, .slice t.pN t.n t.cN, .slice t.pA t.n t.cA, .int .i64 t.m]) := he
           clear he
           subst he'
           have HTT := Hid.mk' (show t.Ok w16 (fun b => w14.heap.size ≤ b ∧ b < w16.heap.size) ∧ Keeps (fun b => w14.heap.size ≤ b) w15 w16 from ⟨ht1, ht2⟩)
           clear ht1 ht2 hld)
        | (at_builtin; refine wpList_append_stay _ rfl _ _ 45 rfl w.heap.size 60 i6 (.agg #[.slice none 0 0, .slice none 0 0, .slice none 0 0, .slice none 0 0, .int .i64 0]) 5 104 Try.underlying45 hi6 hy0 hy1 hy2 rfl (by decide) u13 ts.length (toldCells ts) rfl (ht3.alloc _) ⟨w16.heap.size, 0, none⟩ 1 1 [.slice t.pL t.n t.cL, .slice (some ⟨t.gG, 0, none⟩) (t.n + 3 : Nat) t.cG, .slice t.pN t.n t.cN, .slice t.pA t.n t.cA, .int .i64 t.m] rfl rfl (news5 w16 _ _ _ _ _ 60 _ rfl) (by simp [Value.oneCell']) (by decide) (by unfold maxLen; omega) (by omega) (by simp; omega) (w16.heap.size + 1) (by simp) ?_; intro gt ct w17 hrow hgr hloc hlt
           obtain ⟨Z4, ts1, H17', hl4⟩ := H14.out.tell1 K15.out HTT.out.1 HTT.out.2 hrow hgr hloc
           have hkp := ap_kept H17' (by omega)
           have HL4 := Hid.mk' hl4
           have htb1 : ts1.length ≤ 51 := by omega
           clear hrow hgr hloc hlt H17' ht3 ht4 HTT hl4)
        | (go_at_call 28; refine hkp.mono ?_; rintro e w18 ⟨rfl, hx⟩; have hkd := ap_keptD hx (by omega); clear hkp hx)
        | (go_at_call 29; refine hkd.mono ?_; rintro e w19 ⟨rfl, hx⟩; have hal := ap_alike hx HTW.out s2 (by rw [HSK.out]; omega); clear hkd hx)
        | (go_at_call 19; refine hal.mono ?_; rintro e w20 ⟨rfl, hx⟩; have H20 := Hid.mk' hx; clear hal hx))
      go_roundw
      case rel =>
        obtain ⟨t1, t2, t3, t4, t5, t6⟩ := HT.out
        exact ⟨k + 1, by omega, by omega, by go_num, _, _, _, _, _, _, _, _, _, H20.out, HLL.out, by rw [HL4.out, t6], HTW.out, by rw [note_armed]; exact t2, by rw [note_armed]; exact t3, HSK.out⟩
      case measure => simp [intOf]; omega
    · have hcut : ((k : Int) < (l.length : Int) ∧ ¬ (k : Int) < 50) ∨ ¬ (k : Int) < (l.length : Int) := by omega
      have hkp := ap_kept hap (by omega)
      have HTW := Hid.mk' htw
      have hstb : S.steps ≤ 1000 := by omega
      have htb : ts.length ≤ 1000 := by omega
      clear hap hll htl htw hsa hua hst hlt
      rcases hcut with ⟨hi1, hi2⟩ | hi1
      all_goals
        go_wp2_with (first
          | (go_at_call 28; refine hkp.mono ?_; rintro e w3 ⟨rfl, hx⟩; have hkd := ap_keptD hx htb; clear hkp hx)
          | (go_at_call 29; refine hkd.mono ?_; rintro e w4 ⟨rfl, hx⟩; have hal := ap_alike hx HTW.out s2 hstb; clear hkd hx)
          | (go_at_call 19; refine hal.mono ?_; rintro e w5 ⟨rfl, hx⟩; have hvw := ap_view hx hstb; clear hal hx)
          | (go_at_call 24; refine hvw.mono ?_; rintro e w6 ⟨rfl, hx, bs, hb1, hb2, hb3, hb4⟩
             have hcr := ap_crash hx s2 hstb pc cc cs HCL.out (HPC.out w6 hx.duo.keeps)
             rw [← HNN.out] at hcr
             have HB := Hid.mk' (show bs.length = n ∧ (∀ b ∈ bs, 0 ≤ b ∧ b ≤ 255) ∧ (∀ i, i < n → w6.cell? ⟨w5.heap.size, i, none⟩ = some (.int .u8 (bs.getD i 0))) from ⟨hb1, hb2, hb3⟩)
             clear hvw hx hb1 hb2 hb3 hb4)
          | (go_at_call 23; refine hcr.mono ?_; rintro e w7 ⟨rfl, hx, ws, hb1, hb2, hb3, hb4⟩
             have hli := lentIn_any w7 w5.heap.size n w6.heap.size n n bs ws pc cc cs HB.out.1 hb1 s2 (by omega) s3 HB.out.2.1 hb2 (fun i hi => hb4.cell (HB.out.2.2 i hi) (by simp)) hb3 HCL.out (HPC.out w7 hx.duo.keeps)
             rw [← HNN.out] at hli
             have HK := Hid.mk' hx.duo.keeps
             clear hcr hx hb1 hb2 hb3 hb4 HB)
          | (go_at_call 30; refine hli.mono ?_; rintro e w8 ⟨rfl, hk8⟩; have K8 := Hid.mk' hk8; clear hli hk8))
        go_ret
        exact ⟨rfl, (HK.out.trans (K8.out.mono (by simp))).below (Nat.le_refl _) (fun k hk => hk)⟩

end Go.Proofs.Ytfiekdgpdboolab
