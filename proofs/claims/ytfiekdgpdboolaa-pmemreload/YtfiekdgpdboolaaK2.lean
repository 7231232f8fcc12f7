import Derived.Test.YtfiekdgpdboolaaK1
namespace Go.Proofs.Ytfiekdgpdboolaa
open Go.RowKit Go.Maps

/-- Both devices, the kept bytes and the view, behind the load. -/
def ReloadAt (w0 : World) (B d n : Nat) (F : Nat → Prop) (T : St) (L : Lay) (KB VB : Nat) (img : List Int) (de : Nat) (Fe : Nat → Prop) (Le : Lay) (wx : World) : Prop :=
  Keeps (fun k => B ≤ k) w0 wx ∧ DevAt wx F d T L ∧ DevAt wx Fe de (St.fresh img) Le ∧ (∀ i, i < n → wx.cell? ⟨KB, i, none⟩ = some (.int .u8 (img.getD i 0))) ∧ (∀ i, i < n → wx.cell? ⟨VB, i, none⟩ = some (.int .u8 (T.view.getD i 0)))

theorem ReloadAt.kept {w0 : World} {B d n : Nat} {F : Nat → Prop} {T : St} {L : Lay} {KB VB : Nat} {img : List Int} {de : Nat} {Fe : Nat → Prop} {Le : Lay} {a b : World} {IB : Nat}
    (h : ReloadAt w0 B d n F T L KB VB img de Fe Le a) (hk : Keeps (fun i => i = IB) a b) (h1 : ¬ F IB) (h2 : ¬ Fe IB) (h3 : KB ≠ IB) (h4 : VB ≠ IB) (h5 : B ≤ IB) : ReloadAt w0 B d n F T L KB VB img de Fe Le b := by
  obtain ⟨a1, a2, a3, a4, a5⟩ := h
  refine ⟨a1.trans (hk.mono (fun k _ e => by subst e; exact h5)), a2.kept hk (fun i hi e => h1 (e ▸ hi)), a3.kept hk (fun i hi e => h2 (e ▸ hi)), fun i hi => hk.cell (a4 i hi) h3, fun i hi => hk.cell (a5 i hi) h4⟩

theorem ReloadAt.still {w0 : World} {B d n : Nat} {F : Nat → Prop} {T : St} {L : Lay} {KB VB : Nat} {img : List Int} {de : Nat} {Fe : Nat → Prop} {Le : Lay} {a b : World}
    (h : ReloadAt w0 B d n F T L KB VB img de Fe Le a) (hk : Keeps (fun _ => False) a b) : ReloadAt w0 B d n F T L KB VB img de Fe Le b := by
  obtain ⟨a1, a2, a3, a4, a5⟩ := h
  exact ⟨a1.trans (hk.mono (by simp)), a2.kept hk (by simp), a3.kept hk (by simp), fun i hi => hk.cell (a4 i hi) (by simp), fun i hi => hk.cell (a5 i hi) (by simp)⟩

theorem keeps_drewN (X : Nat → Prop) (w w' : World) (q : Nat) (h : w' = w.drewN q) : Keeps X w w' := by
  subst h
  exact ⟨rfl, rfl, rfl, Nat.le_refl _, fun _ _ _ => rfl⟩

set_option maxHeartbeats 1000000 in
set_option maxRecDepth 20000 in
theorem reload_walk (w : World) (pages : Int) (p cp mp : Option Addr) (cap ccap mcap : Nat) (l : List Note3) (cs ms : List Int) (hN : NotesAt w p l)
    (hcs : 0 < cs.length → ∃ cb co, cp = some ⟨cb, co, none⟩ ∧ cb < w.heap.size ∧ ∀ i, i < cs.length → w.cell? ⟨cb, co + i, none⟩ = some (.int .i64 (cs.getD i 0)))
    (hms : 0 < ms.length → ∃ cb co, mp = some ⟨cb, co, none⟩ ∧ cb < w.heap.size ∧ ∀ i, i < ms.length → w.cell? ⟨cb, co + i, none⟩ = some (.int .i64 (ms.getD i 0)))
    (hl1 : l.length ≤ maxLen) (hl2 : cs.length ≤ maxLen) (hl3 : ms.length ≤ maxLen) :
    Calls Try.prog 8 #[.agg #[.int .i64 pages, .slice p l.length cap, .slice cp cs.length ccap, .slice mp ms.length mcap]] w fun e w' => e = .returned (.bool true) ∧ Below w.heap.size w w' := by
  obtain ⟨n, hn⟩ : ∃ n, n = sizeOf8 pages := ⟨_, rfl⟩
  have hsz := sizeOf8_le pages
  have hsize := size_any pages
  rw [← hn] at hsz hsize
  have HL1 := Hid.mk' hl1
  have HL2 := Hid.mk' hl2
  have HL3 := Hid.mk' hl3
  have gB := World.grownBy_alloc w (.cells #[.int .i64 pages, .slice p l.length cap, .slice cp cs.length ccap, .slice mp ms.length mcap] 65) none
  have HKB : Hid (Keeps (fun _ => False) w (w.alloc (.cells #[.int .i64 pages, .slice p l.length cap, .slice cp cs.length ccap, .slice mp ms.length mcap] 65))) := Keeps.of gB (by simp)
  have HN : Hid (NotesAt (w.alloc (.cells #[.int .i64 pages, .slice p l.length cap, .slice cp cs.length ccap, .slice mp ms.length mcap] 65)) p l) := hN.kept (Keeps.of (X := fun _ => False) gB (by simp)) (by simp)
  have HCS := Hid.mk' hcs
  have HMS := Hid.mk' hms
  have HBX : Hid (∀ wr, Keeps (fun k => w.heap.size + 1 ≤ k) (w.alloc (.cells #[.int .i64 pages, .slice p l.length cap, .slice cp cs.length ccap, .slice mp ms.length mcap] 65)) wr →
      (wr.cell? ⟨w.heap.size, 1, none⟩ = some (.slice p l.length cap) ∧ wr.cell? ⟨w.heap.size, 2, none⟩ = some (.slice cp cs.length ccap) ∧ wr.cell? ⟨w.heap.size, 3, none⟩ = some (.slice mp ms.length mcap)) ∧
      Keeps (fun k => w.heap.size + 1 ≤ k) w wr) := by
    intro wr hk
    have hb := (MapKept.heap_alloc w (.cells #[.int .i64 pages, .slice p l.length cap, .slice cp cs.length ccap, .slice mp ms.length mcap] 65)).1
    have hb2 := (hk.block _ (heap_lt hb) (by omega)).trans hb
    refine ⟨by simp [World.cell?, hb2], ?_⟩
    exact (Keeps.of gB (by simp)).trans hk
  obtain ⟨w0, hw0⟩ : ∃ w0, w0 = w.alloc (.cells #[.int .i64 pages, .slice p l.length cap, .slice cp cs.length ccap, .slice mp ms.length mcap] 65) := ⟨_, rfl⟩
  have HS0 : Hid (w0.heap.size = w.heap.size + 1) := by simp [Hid, hw0]
  rw [← hw0] at HKB HN HBX
  have HW0 := Hid.mk' hw0
  clear hn hN hcs hms hl1 hl2 hl3 gB hw0
  go_enter Try.func8, Try.ntmps8
  go_wp2_with (first
    | (go_at_call 9; refine (hsize _).mono ?_; rintro e w' ⟨rfl, hw⟩; subst w')
    | (go_at_call 10; refine (made_yes n _ hsz.2.1 (by omega) hsz.2.2).mono ?_; rintro e w1 ⟨rfl, hw1⟩
       rw [← HW0.out] at hw1
       have hg1 := going_made _ _ n hsz.1 hw1
       rw [HS0.out] at hg1
       have HG1 := Hid.mk' hg1
       obtain ⟨⟨z1, z2, z3⟩, _⟩ := HBX.out w1 hg1.2.1
       clear hw1 hg1)
    | (go_at_call 22; refine (notes_going w0 w1 (w.heap.size + 1) (w.heap.size + 1 + 2) n _ p cap l HG1.out HN.out (by have := HS0.out; omega) HL1.out hsz.2.2 hsz.2.1 (by simp [St.fresh]) (by simp [St.fresh])).mono ?_; rintro e w2 ⟨rfl, T, hg2, hst1, hst2⟩
       simp only [St.fresh] at hst1 hst2
       obtain ⟨⟨F, L, hdev, hF⟩, hkp, hlen, harm, hBs⟩ := hg2
       have hvw := view_dev w2 F (w.heap.size + 1 + 2) T L hdev (by omega)
       rw [hlen] at hvw
       have HD2 := Hid.mk' (show DevAt w2 F (w.heap.size + 1 + 2) T L ∧ (∀ k, F k → w.heap.size + 1 ≤ k) ∧ T.old.length = n ∧ T.armed = false from ⟨hdev, hF, hlen, harm⟩)
       have HK2 := Hid.mk' (show Keeps (fun k => w.heap.size + 1 ≤ k) w0 w2 ∧ w.heap.size + 1 ≤ w2.heap.size from ⟨hkp, hBs⟩)
       clear hdev hF hkp hlen harm hBs HG1 z1 z2 z3)
    | (go_at_call 13; refine hvw.mono ?_; rintro e w3 ⟨rfl, hb3, hk3⟩
       clear hvw
       have HB3 := Hid.mk' hb3
       have hd3 := HD2.out.1.kept hk3 (by simp)
       have hk03 : Keeps (fun k => w.heap.size + 1 ≤ k) w0 w3 := HK2.out.1.trans (hk3.mono (by simp))
       obtain ⟨⟨z1, z2, z3⟩, hkw⟩ := HBX.out w3 hk03
       have hcr := crash_dev w3 F (w.heap.size + 1 + 2) T L hd3 (by omega) (by have := HD2.out.2.2.1; omega) cp ccap cs HL2.out (fun h0 => by
         obtain ⟨cb, co, q1, q2, q3⟩ := HCS.out h0
         exact ⟨cb, co, q1, Nat.lt_of_lt_of_le q2 hkw.size, fun i hi => hkw.cell (q3 i hi) (by simp; omega)⟩)
       rw [HD2.out.2.2.1] at hcr
       have HD3 := Hid.mk' (show DevAt w3 F (w.heap.size + 1 + 2) T L ∧ Keeps (fun k => w.heap.size + 1 ≤ k) w0 w3 ∧ w2.heap.size < w3.heap.size from ⟨hd3, hk03, heap_lt hb3⟩)
       clear hb3 hk3 hd3 hk03 hkw z1 z3)
    | (go_at_call 12; refine hcr.mono ?_; rintro e w4 ⟨ks, hR, rfl, hb4, hk4⟩
       clear hcr z2
       obtain ⟨img, himg⟩ : ∃ img, img = T.crash ks cs := ⟨_, rfl⟩
       rw [← himg] at hb4
       have hil : img.length = n := by rw [himg, (crash_len HD3.out.1 ks cs hR).1]; exact HD2.out.2.2.1
       have hib : ∀ b ∈ img, 0 ≤ b ∧ b ≤ 255 := by rw [himg]; exact (crash_len HD3.out.1 ks cs hR).2
       have hcp := copyBytes_any w3.heap.size n n img w4 hil (by omega) (by omega) (fun i hi => cells_u8 hb4 i (by omega))
       have HI := Hid.mk' (show img = T.crash ks cs ∧ img.length = n ∧ (∀ b ∈ img, 0 ≤ b ∧ b ≤ 255) ∧ Rising T ks from ⟨himg, hil, hib, hR⟩)
       have HB4 := Hid.mk' (show w4.heap[w3.heap.size]? = some (.cells (u8s img).toArray 5 (0, 0)) ∧ Keeps (fun _ => False) w3 w4 from ⟨hb4, hk4⟩)
       clear himg hil hib hR hb4 hk4)
    | (go_at_call 32; refine hcp.mono ?_; rintro e w5 ⟨KB, kc, rfl, hKB, hkc, hkl, hk5⟩
       clear hcp
       have hb5 : w5.heap[w3.heap.size]? = some (.cells (u8s img).toArray 5 (0, 0)) := (hk5.block _ (heap_lt HB4.out.1) (by simp)).trans HB4.out.1
       have hld := loaded_yes ⟨w3.heap.size, 0, none⟩ n n (u8s img) w5 hsz.2.1 (by omega) hsz.2.2 (by have := HI.out.2.1; simp [u8s, this]) (fun j v hj => by
         by_cases h0 : j = 0
         · subst h0; simpa [World.cell?, Addr.add, hb5] using hj
         · simpa [World.cell?, Addr.add, h0, hb5] using hj) (by intro v hv; simp only [u8s, List.mem_map] at hv; obtain ⟨_, _, rfl⟩ := hv; rfl) (heap_lt hb5)
       have HB5 := Hid.mk' (show w5.heap[w3.heap.size]? = some (.cells (u8s img).toArray 5 (0, 0)) ∧ Keeps (fun _ => False) w4 w5 ∧ w4.heap.size ≤ KB ∧ KB < w5.heap.size ∧ (∀ i, i < n → w5.cell? ⟨KB, i, none⟩ = some (.int .u8 (img.getD i 0))) from ⟨hb5, hk5, hKB, hkl, hkc⟩)
       clear hKB hkc hkl hk5 hb5)
    | (go_at_call 20; refine hld.mono ?_; rintro e w6 ⟨rfl, hl1', hl2', hl3', hl4', hl5'⟩
       clear hld
       obtain ⟨b1, b2, b3, b4, b5⟩ := HB5.out
       obtain ⟨i1, i2, i3, i4⟩ := HI.out
       have hfr := DevAt.fresh (w := w6) (ob := w5.heap.size) (bm := w5.heap.size + 1) (d := w5.heap.size + 2) (bs := img) (by rw [i2]; exact hl3') hl1' hl2' (by omega) i3
       have k6 : Keeps (fun _ => False) w5 w6 := Keeps.of hl4' (by simp)
       have hra : ReloadAt w0 (w.heap.size + 1) (w.heap.size + 1 + 2) n F T L KB w2.heap.size img (w5.heap.size + 2) (fun k => k = w5.heap.size + 2 ∨ k = w5.heap.size ∨ k = w5.heap.size + 1) ⟨w5.heap.size, w5.heap.size + 1, 0, 0, .map [], fun _ => 0, fun _ => 0, fun _ => 0⟩ w6 := by
         have kk : Keeps (fun _ => False) w3 w6 := (HB4.out.2.trans b2).trans k6
         have e1 : T.view.length = n := by rw [St.view, viewTo_len]; exact HD2.out.2.2.1
         exact ⟨HD3.out.2.1.trans (kk.mono (by simp)), HD3.out.1.kept kk (by simp), hfr, fun i hi => k6.cell (b5 i hi) (by simp), fun i hi => kk.cell (cells_u8 HB3.out i (by omega)) (by simp)⟩
       have hb6 : w6.heap[w3.heap.size]? = some (.cells (u8s img).toArray 5 (0, 0)) := (k6.block _ (heap_lt b1) (by simp)).trans b1
       have hsm := same_yes w3.heap.size KB n n kc img w6 (fun i hi => cells_u8 hb6 i (by omega)) (fun i hi => k6.cell (b5 i hi) (by simp)) (by omega)
       have HR6 := Hid.mk' (show _ ∧ w6.heap[w3.heap.size]? = some (.cells (u8s img).toArray 5 (0, 0)) ∧ w3.heap.size < w5.heap.size ∧ KB ≠ w3.heap.size ∧ w2.heap.size ≠ w3.heap.size from ⟨hra, hb6, heap_lt b1, by have := heap_lt HB4.out.1; omega, by have := HD3.out.2.2; omega⟩)
       clear hl1' hl2' hl3' hl4' hl5' b1 b2 b3 b4 b5 i1 i2 i3 i4 hfr k6 hra hb6)
    | (go_at_call 26; refine hsm.mono ?_; rintro e w7 ⟨rfl, q7, hw7⟩
       clear hsm
       have k7 := keeps_drewN (fun _ => False) _ _ _ hw7
       obtain ⟨r1, r2, r3, r4, r5⟩ := HR6.out
       have HR7 := Hid.mk' (show _ ∧ w7.heap[w3.heap.size]? = some (.cells (u8s img).toArray 5 (0, 0)) from ⟨r1.still k7, (k7.block _ (heap_lt r2) (by simp)).trans r2⟩)
       have HNE := Hid.mk' (show w3.heap.size < w5.heap.size ∧ KB ≠ w3.heap.size ∧ w2.heap.size ≠ w3.heap.size from ⟨r3, r4, r5⟩)
       clear k7 r1 r2 r3 r4 r5 hw7))
  have HFR : Hid (¬ F w3.heap.size ∧ ¬ (w3.heap.size = w5.heap.size + 2 ∨ w3.heap.size = w5.heap.size ∨ w3.heap.size = w5.heap.size + 1) ∧ w.heap.size + 1 ≤ w3.heap.size) := by
    refine ⟨fun hf => ?_, ?_, ?_⟩
    · have h1 := HD2.out.1.fsz _ hf
      have h2 := HD3.out.2.2
      omega
    · have := HNE.out.1; omega
    · have := HK2.out.2; have h2 := HD3.out.2.2; omega
  go_loopw [10] (fun i wr => ∃ k : Nat, k ≤ n ∧ i = .int .i64 k ∧ Hid (∃ cur : List Value, wr.heap[w3.heap.size]? = some (.cells cur.toArray 5 (0, 0)) ∧ cur.length = n ∧ (∀ i, k ≤ i → i < n → cur[i]? = some (.int .u8 (img.getD i 0))) ∧
      ReloadAt w0 (w.heap.size + 1) (w.heap.size + 1 + 2) n F T L KB w2.heap.size img (w5.heap.size + 2) (fun k => k = w5.heap.size + 2 ∨ k = w5.heap.size ∨ k = w5.heap.size + 1) ⟨w5.heap.size, w5.heap.size + 1, 0, 0, .map [], fun _ => 0, fun _ => 0, fun _ => 0⟩ wr))
    (fun i _ => n - (intOf i).toNat)
  case atStart => exact ⟨0, by omega, rfl, u8s img, HR7.out.2, by simp [u8s, HI.out.2.1], fun i _ hi => by simp [u8s, List.getD_eq_getElem?_getD, show i < img.length by have := HI.out.2.1; omega], HR7.out.1⟩
  case round =>
    obtain ⟨k, hk, rfl, hrel⟩ := hrel
    obtain ⟨cur, hcb, hcl, hcc, hra⟩ := hrel
    have hnx : n ≤ 4096 := hsz.1
    by_cases hlt : k < n
    · have hcell : wr.cell? ⟨w3.heap.size, k, none⟩ = some (.int .u8 (img.getD k 0)) := by simp [World.cell?, hcb, hcc k (Nat.le_refl _) hlt]
      have hfz : wr.frozen? ⟨w3.heap.size, k, none⟩ = false := by simp [World.frozen?, hcb]
      have HCU := Hid.mk' (show wr.heap[w3.heap.size]? = some (.cells cur.toArray 5 (0, 0)) ∧ cur.length = n ∧ (∀ i, k ≤ i → i < n → cur[i]? = some (.int .u8 (img.getD i 0))) ∧ ReloadAt w0 (w.heap.size + 1) (w.heap.size + 1 + 2) n F T L KB w2.heap.size img (w5.heap.size + 2) (fun k => k = w5.heap.size + 2 ∨ k = w5.heap.size ∨ k = w5.heap.size + 1) ⟨w5.heap.size, w5.heap.size + 1, 0, 0, .map [], fun _ => 0, fun _ => 0, fun _ => 0⟩ wr from ⟨hcb, hcl, hcc, hra⟩)
      generalize img.getD k 0 = x at hcell
      have h3 : (0 : Int) ≤ (k : Int) := by omega
      have h4 : (k : Int) < (n : Int) := by omega
      clear hcb hcl hcc hra HR7 HR6
      go_wp2
      go_roundw
      case rel =>
        obtain ⟨u1, u2, u3, u4⟩ := HCU.out
        obtain ⟨f1, f2, f3⟩ := HFR.out
        refine ⟨k + 1, by omega, by go_num, cur.set k (.int .u8 ((x + 1) % 256)), ?_, by simpa using u2, fun i h5 h6 => ?_, u4.kept (Keeps.of (grownBy_setCell wr ⟨w3.heap.size, k, none⟩ _) (by simp)) f1 f2 HNE.out.2.1 HNE.out.2.2 f3⟩
        · have := setCell_block (a := ⟨w3.heap.size, k, none⟩) (v := .int .u8 ((x + 1) % 256)) u1 rfl
          simpa using this
        · rw [List.getElem?_set_ne (by omega)]
          exact u3 i (by omega) h6
      case measure => simp [intOf]; omega
    · have h4 : ¬ (k : Int) < (n : Int) := by omega
      have HRA := Hid.mk' hra
      clear hcb hcl hcc HR7 HR6
      obtain ⟨ra1, ra2, ra3, ra4, ra5⟩ := hra
      have hdo := doubts_none wr _ (w5.heap.size + 2) (St.fresh img) _ ra3 (by simp [St.fresh]) (fun _ => rfl)
      clear ra1 ra2 ra3 ra4 ra5
      go_wp2_with (first
        | (go_at_call 25; refine hdo.mono ?_; rintro e w9 ⟨rfl, hk9⟩
           clear hdo
           have hr9 := HRA.out.still hk9
           have HR9 := Hid.mk' hr9
           obtain ⟨ra1, ra2, ra3, ra4, ra5⟩ := hr9
           obtain ⟨c0, c1, c2, c3, c4, c5, c6⟩ := dev_cells ra3.dev
           have hst9 := steps_any (w5.heap.size + 2) _ w9 c3
           have hde9 := dead_any (w5.heap.size + 2) _ _ w9 c4 c5
           have hsz9 := sizeDev_any (w5.heap.size + 2) _ _ _ w9 c0
           have e9 : (St.fresh img).old.length = n := HI.out.2.1
           rw [e9] at hsz9
           have hvw9 := view_dev w9 _ (w5.heap.size + 2) (St.fresh img) _ ra3 (by simp [St.fresh])
           have e10 : (St.fresh img).view = img := view_calm _ (fun _ => rfl)
           rw [e9, e10] at hvw9
           simp only [St.fresh] at hst9 hde9
           clear hk9 ra1 ra2 ra3 ra4 ra5 c0 c1 c2 c3 c4 c5 c6 e9 e10)
        | (go_at_call 23; refine hst9.mono ?_; rintro e w' ⟨rfl, hw⟩; subst w'; clear hst9)
        | (go_at_call 28; refine hde9.mono ?_; rintro e w' ⟨rfl, hw⟩; subst w'; clear hde9)
        | (go_at_call 33; refine hsz9.mono ?_; rintro e w' ⟨rfl, hw⟩; subst w'; clear hsz9)
        | (go_at_call 13; refine hvw9.mono ?_; rintro e w10 ⟨rfl, hb10, hk10⟩
           clear hvw9
           have hr10 := HR9.out.still hk10
           have HR10 := Hid.mk' hr10
           have hsm10 := same_yes w9.heap.size KB n n kc img w10 (fun i hi => cells_u8 hb10 i (by have := HI.out.2.1; omega)) hr10.2.2.2.1 (by omega)
           clear hb10 hk10 hr10)
        | (go_at_call 26; refine hsm10.mono ?_; rintro e w11 ⟨rfl, q11, hw11⟩
           clear hsm10
           have hr11 := HR10.out.still (keeps_drewN _ _ _ _ hw11)
           have HR11 := Hid.mk' hr11
           obtain ⟨⟨z1, z2, z3⟩, hkw⟩ := HBX.out w11 hr11.1
           have hcr11 := crash_dev w11 _ (w5.heap.size + 2) (St.fresh img) _ hr11.2.2.1 (by simp [St.fresh]) (by have := HI.out.2.1; simp only [St.fresh]; omega) mp mcap ms HL3.out (fun h0 => by
             obtain ⟨cb, co, q1, q2, q3⟩ := HMS.out h0
             exact ⟨cb, co, q1, Nat.lt_of_lt_of_le q2 hkw.size, fun i hi => hkw.cell (q3 i hi) (by simp; omega)⟩)
           have e9 : (St.fresh img).old.length = n := HI.out.2.1
           rw [e9] at hcr11
           clear hw11 hr11 z1 z2 hkw e9)
        | (go_at_call 12; refine hcr11.mono ?_; rintro e w12 ⟨js, hR12, rfl, hb12, hk12⟩
           clear hcr11 z3
           obtain rfl := rising_nil hR12 (fun _ => rfl)
           have hb12' : w12.heap[w11.heap.size]? = some (.cells (u8s img).toArray 5 (0, 0)) := hb12
           have hr12 := HR11.out.still hk12
           have HR12 := Hid.mk' hr12
           have hsm12 := same_yes w11.heap.size KB n n kc img w12 (fun i hi => cells_u8 hb12' i (by have := HI.out.2.1; omega)) hr12.2.2.2.1 (by omega)
           clear hb12 hb12' hk12 hr12 hR12)
        | (go_at_call 26; refine hsm12.mono ?_; rintro e w13 ⟨rfl, q13, hw13⟩
           clear hsm12
           have hr13 := HR12.out.still (keeps_drewN _ _ _ _ hw13)
           have HR13 := Hid.mk' hr13
           obtain ⟨⟨z1, z2', z3⟩, hkw⟩ := HBX.out w13 hr13.1
           have hcr13 := crash_dev w13 F (w.heap.size + 1 + 2) T L hr13.2.1 (by omega) (by have := HD2.out.2.2.1; omega) cp ccap cs HL2.out (fun h0 => by
             obtain ⟨cb, co, q1, q2, q3⟩ := HCS.out h0
             exact ⟨cb, co, q1, Nat.lt_of_lt_of_le q2 hkw.size, fun i hi => hkw.cell (q3 i hi) (by simp; omega)⟩)
           rw [HD2.out.2.2.1] at hcr13
           clear hw13 hr13 z1 z3 hkw)
        | (go_at_call 12; refine hcr13.mono ?_; rintro e w14 ⟨js, hR14, rfl, hb14, hk14⟩
           clear hcr13 z2'
           obtain rfl := rising_unique HI.out.2.2.2 hR14
           have hb14' : w14.heap[w13.heap.size]? = some (.cells (u8s img).toArray 5 (0, 0)) := by rw [HI.out.1]; exact hb14
           have hr14 := HR13.out.still hk14
           have HR14 := Hid.mk' hr14
           have hsm14 := same_yes w13.heap.size KB n n kc img w14 (fun i hi => cells_u8 hb14' i (by have := HI.out.2.1; omega)) hr14.2.2.2.1 (by omega)
           clear hb14 hb14' hk14 hr14 hR14)
        | (go_at_call 26; refine hsm14.mono ?_; rintro e w15 ⟨rfl, q15, hw15⟩
           clear hsm14
           have hr15 := HR14.out.still (keeps_drewN _ _ _ _ hw15)
           have HR15 := Hid.mk' hr15
           have hvw15 := view_dev w15 F (w.heap.size + 1 + 2) T L hr15.2.1 (by omega)
           rw [HD2.out.2.2.1] at hvw15
           clear hw15 hr15)
        | (go_at_call 13; refine hvw15.mono ?_; rintro e w16 ⟨rfl, hb16, hk16⟩
           clear hvw15
           have hr16 := HR15.out.still hk16
           have HR16 := Hid.mk' hr16
           have e1 : T.view.length = n := by rw [St.view, viewTo_len]; exact HD2.out.2.2.1
           have hsm16 := same_yes w15.heap.size w2.heap.size n n n T.view w16 (fun i hi => cells_u8 hb16 i (by omega)) hr16.2.2.2.2 (by omega)
           clear hb16 hk16 hr16 e1)
        | (go_at_call 26; refine hsm16.mono ?_; rintro e w17 ⟨rfl, q17, hw17⟩
           clear hsm16
           have HR17 := Hid.mk' (HR16.out.still (keeps_drewN _ _ _ _ hw17))
           clear hw17))
      go_ret
      have hkw := (HBX.out _ HR17.out.1).2
      exact ⟨rfl, hkw.below (Nat.le_refl _) (fun k hk => by omega)⟩

end Go.Proofs.Ytfiekdgpdboolaa
