import Derived.Test.YtfiekdgpdboolaaF1
namespace Go.Proofs.Ytfiekdgpdboolaa
open Go.RowKit Go.Maps

abbrev Note3 := Int × Int × Int

/-- A list of notes that lies in memory. -/
def NotesAt (w : World) (p : Option Addr) (l : List Note3) : Prop :=
  0 < l.length → ∃ b o, p = some ⟨b, o, none⟩ ∧ b < w.heap.size ∧ ∀ i, i < l.length →
    w.cell? ⟨b, o + i * 3, none⟩ = some (.int .i64 (l.getD i (0, 0, 0)).1) ∧ w.cell? ⟨b, o + i * 3 + 1, none⟩ = some (.int .i64 (l.getD i (0, 0, 0)).2.1) ∧
    w.cell? ⟨b, o + i * 3 + 2, none⟩ = some (.int .u64 (l.getD i (0, 0, 0)).2.2) ∧ (0 ≤ (l.getD i (0, 0, 0)).2.2 ∧ (l.getD i (0, 0, 0)).2.2 < 18446744073709551616)

theorem NotesAt.kept {w w' : World} {p : Option Addr} {l : List Note3} {X : Nat → Prop} (h : NotesAt w p l) (k : Keeps X w w') (hX : ∀ i, X i → w.heap.size ≤ i) : NotesAt w' p l := by
  intro h0
  obtain ⟨b, o, e, hb, hc⟩ := h h0
  have hn : ¬ X b := fun hx => by have := hX b hx; omega
  refine ⟨b, o, e, Nat.lt_of_lt_of_le hb k.size, fun i hi => ?_⟩
  obtain ⟨c1, c2, c3, c4⟩ := hc i hi
  exact ⟨k.cell c1 hn, k.cell c2 hn, k.cell c3 hn, c4⟩

/-- A device under way: its blocks lie from B on, nothing below B has turned since w0. -/
def Going (w0 : World) (B d n : Nat) (S : St) (w : World) : Prop :=
  (∃ F L, DevAt w F d S L ∧ ∀ k, F k → B ≤ k) ∧ Keeps (fun k => B ≤ k) w0 w ∧ S.old.length = n ∧ S.armed = false ∧ B ≤ w.heap.size

theorem Going.next {w0 : World} {B d n : Nat} {S T : St} {w w' : World} (h : Going w0 B d n S w) (F : Nat → Prop) (hF : ∀ k, F k → B ≤ k) (hx : ∃ F' L', DevAt w' F' d T L' ∧ Keeps F w w' ∧ Fresh F F' w) (hl : T.old.length = S.old.length) (ha : T.armed = S.armed) : Going w0 B d n T w' := by
  obtain ⟨_, h2, h3, h4, h5⟩ := h
  obtain ⟨F', L', d1, d2, d3⟩ := hx
  refine ⟨⟨F', L', d1, fun k hk => ?_⟩, h2.trans (d2.mono fun k _ hk => hF k hk), hl.trans h3, ha.trans h4, Nat.le_trans h5 d2.size⟩
  rcases d3 k hk with h6 | h6
  · exact hF k h6
  · omega

theorem u8s_zero (n : Nat) : u8s (List.replicate n 0) = List.replicate n (.int .u8 0) := by simp [u8s]

theorem going_made (w w1 : World) (n : Nat) (hn : n ≤ 4096)
    (h : w1 = ((w.alloc (.cells (List.replicate n (.int .u8 0)).toArray 5)).alloc (.map #[] 0)).alloc (devCells (.slice (some ⟨w.heap.size, 0, none⟩) n n) (.map (some (w.heap.size + 1))) 0 0 false 0)) :
    Going w w.heap.size (w.heap.size + 2) n (St.fresh (List.replicate n 0)) w1 := by
  have g1 := World.grownBy_alloc w (.cells (List.replicate n (.int .u8 0)).toArray 5) none
  have g2 := World.grownBy_alloc (w.alloc (.cells (List.replicate n (.int .u8 0)).toArray 5)) (.map #[] 0) none
  have g3 := World.grownBy_alloc ((w.alloc (.cells (List.replicate n (.int .u8 0)).toArray 5)).alloc (.map #[] 0)) (devCells (.slice (some ⟨w.heap.size, 0, none⟩) n n) (.map (some (w.heap.size + 1))) 0 0 false 0) none
  have b3 := (MapKept.heap_alloc ((w.alloc (.cells (List.replicate n (.int .u8 0)).toArray 5)).alloc (.map #[] 0)) (devCells (.slice (some ⟨w.heap.size, 0, none⟩) n n) (.map (some (w.heap.size + 1))) 0 0 false 0)).1
  have b2 := (MapKept.heap_alloc (w.alloc (.cells (List.replicate n (.int .u8 0)).toArray 5)) (.map #[] 0)).1
  have b1 := (MapKept.heap_alloc w (.cells (List.replicate n (.int .u8 0)).toArray 5)).1
  have b2' := (g3.block _ (heap_lt b2) (by simp)).trans b2
  have b1' := (g3.block _ (Nat.lt_of_lt_of_le (heap_lt b1) g2.size) (by simp)).trans ((g2.block _ (heap_lt b1) (by simp)).trans b1)
  rw [← h] at b3 b2' b1'
  have e1 : (w.alloc (.cells (List.replicate n (.int .u8 0)).toArray 5)).heap.size = w.heap.size + 1 := by simp
  have e2 : ((w.alloc (.cells (List.replicate n (.int .u8 0)).toArray 5)).alloc (.map #[] 0)).heap.size = w.heap.size + 2 := by simp
  rw [e2] at b3
  rw [e1] at b2'
  have hd := DevAt.fresh (w := w1) (ob := w.heap.size) (bm := w.heap.size + 1) (d := w.heap.size + 2) (bs := List.replicate n 0) (by simpa using b3) (by rw [u8s_zero]; exact b1') b2' (by simp; omega) (by
    intro b hb; rw [List.eq_of_mem_replicate hb]; omega)
  have hk : Keeps (fun k => w.heap.size ≤ k) w w1 := by
    rw [h]
    exact ((Keeps.of g1 (by simp)).step g2 (by simp)).step g3 (by simp)
  exact ⟨⟨_, _, hd, by rintro k (rfl | rfl | rfl) <;> omega⟩, hk, by simp [St.fresh], rfl, hk.size⟩

set_option maxHeartbeats 1000000 in
set_option maxRecDepth 20000 in
theorem fenced_walk (w : World) (pages at_ V : Int) (pp qp cp : Option Addr) (pcap qcap ccap : Nat) (pre post : List Note3) (cs : List Int) (hpre : NotesAt w pp pre) (hpost : NotesAt w qp post)
    (hcs : 0 < cs.length → ∃ cb co, cp = some ⟨cb, co, none⟩ ∧ cb < w.heap.size ∧ ∀ i, i < cs.length → w.cell? ⟨cb, co + i, none⟩ = some (.int .i64 (cs.getD i 0)))
    (hV : 0 ≤ V ∧ V < 18446744073709551616) (hl1 : pre.length ≤ maxLen) (hl2 : post.length ≤ maxLen) (hl3 : cs.length ≤ maxLen) :
    Calls Try.prog 4 #[.agg #[.int .i64 pages, .slice pp pre.length pcap, .int .i64 at_, .int .u64 V, .slice qp post.length qcap, .slice cp cs.length ccap]] w fun e w' => e = .returned (.bool true) ∧ Below w.heap.size w w' := by
  obtain ⟨n, hn⟩ : ∃ n, n = sizeOf8 pages := ⟨_, rfl⟩
  have hsz := sizeOf8_le pages
  have hsize := size_any pages
  rw [← hn] at hsz hsize
  have HL3 : Hid (cs.length ≤ maxLen) := hl3
  unfold maxLen at hl1 hl2 hl3
  obtain ⟨A, hA⟩ : ∃ A : Nat, wordOf at_ n = (A : Int) := Int.eq_ofNat_of_zero_le (wordOf_in at_ (show 8 ≤ n by omega)).1
  obtain ⟨a0, a1, a2⟩ := wordOf_in at_ (show 8 ≤ n by omega)
  rw [hA] at a0 a1 a2
  have hword := fun w => word_any at_ n w (by omega) (by omega)
  rw [hA] at hword
  have HPRE : Hid (NotesAt w pp pre) := hpre
  have HPOST : Hid (NotesAt w qp post) := hpost
  have HCS : Hid (0 < cs.length → ∃ cb co, cp = some ⟨cb, co, none⟩ ∧ cb < w.heap.size ∧ ∀ i, i < cs.length → w.cell? ⟨cb, co + i, none⟩ = some (.int .i64 (cs.getD i 0))) := hcs
  clear hn hA hpre hpost hcs
  have HBX : Hid (∀ wr, Keeps (fun k => w.heap.size + 1 ≤ k) (w.alloc (.cells #[.int .i64 pages, .slice pp pre.length pcap, .int .i64 at_, .int .u64 V, .slice qp post.length qcap, .slice cp cs.length ccap] 43)) wr →
      (wr.cell? ⟨w.heap.size, 1, none⟩ = some (.slice pp pre.length pcap) ∧ wr.cell? ⟨w.heap.size, 2, none⟩ = some (.int .i64 at_) ∧ wr.cell? ⟨w.heap.size, 3, none⟩ = some (.int .u64 V) ∧
       wr.cell? ⟨w.heap.size, 4, none⟩ = some (.slice qp post.length qcap) ∧ wr.cell? ⟨w.heap.size, 5, none⟩ = some (.slice cp cs.length ccap)) ∧
      Keeps (fun k => w.heap.size + 1 ≤ k) w wr) := by
    intro wr hk
    have hb := (MapKept.heap_alloc w (.cells #[.int .i64 pages, .slice pp pre.length pcap, .int .i64 at_, .int .u64 V, .slice qp post.length qcap, .slice cp cs.length ccap] 43)).1
    have hb2 := (hk.block _ (heap_lt hb) (by omega)).trans hb
    refine ⟨by simp [World.cell?, hb2], ?_⟩
    exact (Keeps.of (World.grownBy_alloc w _ none) (by simp)).trans hk
  go_enter Try.func4, Try.ntmps4
  go_wp2_with (first
    | (go_at_call 9; refine (hsize _).mono ?_; rintro e w' ⟨rfl, hw⟩; subst w')
    | (go_at_call 10; refine (made_yes n _ hsz.2.1 (by omega) hsz.2.2).mono ?_; rintro e w1 ⟨rfl, hw1⟩
       have HG1 := Hid.mk' (going_made _ _ n hsz.1 hw1)
       clear hw1))
  have HG1' : Hid (Going (w.alloc (.cells #[.int .i64 pages, .slice pp pre.length pcap, .int .i64 at_, .int .u64 V, .slice qp post.length qcap, .slice cp cs.length ccap] 43)) (w.heap.size + 1) (w.heap.size + 1 + 2) n (St.fresh (List.replicate n 0)) w1) := by
    have := HG1.out
    simpa [Hid] using this
  clear HG1
  go_loopw [6] (fun i wr => ∃ k : Nat, k ≤ pre.length ∧ k ≤ 400 ∧ i = .int .i64 k ∧ Hid (∃ S, Going (w.alloc (.cells #[.int .i64 pages, .slice pp pre.length pcap, .int .i64 at_, .int .u64 V, .slice qp post.length qcap, .slice cp cs.length ccap] 43)) (w.heap.size + 1) (w.heap.size + 1 + 2) n S wr ∧ S.steps = k))
    (fun i _ => 400 - (intOf i).toNat)
  case atStart => exact ⟨0, by omega, by omega, rfl, _, HG1'.out, rfl⟩
  case round =>
    obtain ⟨k, hk1, hk2, rfl, hrel⟩ := hrel
    obtain ⟨S, hgo, hst⟩ := hrel
    obtain ⟨⟨F, L, hdev, hF⟩, hkp, hlen, harm, hBs⟩ := hgo
    obtain ⟨⟨x1, x2, x3, x4, x5⟩, hkw⟩ := HBX.out wr hkp
    by_cases hlt : k < pre.length ∧ k < 400
    · obtain ⟨hlt1, hlt2⟩ := hlt
      obtain ⟨b, o, rfl, hb, hc⟩ := HPRE.out (by omega)
      obtain ⟨e1, e2, e3, e4⟩ := hc k hlt1
      have e1' := hkw.cell e1 (by simp; omega)
      have e2' := hkw.cell e2 (by simp; omega)
      have e3' := hkw.cell e3 (by simp; omega)
      have hi1 : (k : Int) < (pre.length : Int) := by omega
      have hi2 : (k : Int) < 400 := by omega
      have hnote := note_dev wr F (w.heap.size + 1 + 2) n S L (pre.getD k (0, 0, 0)).1 (pre.getD k (0, 0, 0)).2.1 (pre.getD k (0, 0, 0)).2.2 hdev hlen hsz.2.2 hsz.2.1 e4 (by omega) (by rw [harm]; simp)
      have HGO : Hid (Going (w.alloc (.cells #[.int .i64 pages, .slice (some ⟨b, o, none⟩) pre.length pcap, .int .i64 at_, .int .u64 V, .slice qp post.length qcap, .slice cp cs.length ccap] 43)) (w.heap.size + 1) (w.heap.size + 1 + 2) n S wr ∧ ∀ k, F k → w.heap.size + 1 ≤ k) := ⟨⟨⟨F, L, hdev, hF⟩, hkp, hlen, harm, hBs⟩, hF⟩
      have HST : Hid (S.steps = k) := hst
      generalize pre.getD k (0, 0, 0) = nt at *
      clear e1 e2 e3 hc x2 x3 x4 x5 hdev hkp hlen harm hBs hst hkw e4
      go_wp2_with (first
        | (go_at_call 11; refine hnote.mono ?_; rintro e w4 ⟨rfl, hx⟩; have HX := Hid.mk' hx; clear hx))
      go_roundw
      case rel =>
        refine ⟨k + 1, by omega, by omega, by go_num, _, HGO.out.1.next F HGO.out.2 HX.out (note_len _ _ _ _ _) (note_armed _ _ _ _ _), ?_⟩
        rw [note_steps, HST.out]; rfl
      case measure => simp [intOf]; omega
    · have HGO : Hid (Going (w.alloc (.cells #[.int .i64 pages, .slice pp pre.length pcap, .int .i64 at_, .int .u64 V, .slice qp post.length qcap, .slice cp cs.length ccap] 43)) (w.heap.size + 1) (w.heap.size + 1 + 2) n S wr ∧ ∀ k, F k → w.heap.size + 1 ≤ k) := ⟨⟨⟨F, L, hdev, hF⟩, hkp, hlen, harm, hBs⟩, hF⟩
      have hst1 := store_dev wr F (w.heap.size + 1 + 2) S L A V hdev a0 (by omega) a2 hV (by omega) (by rw [harm]; simp)
      have HST : Hid (S.steps ≤ 400) := by simp only [Hid]; omega
      have HLN : Hid (S.old.length = n ∧ S.armed = false) := ⟨hlen, harm⟩
      have HGN : Hid (∀ T U F w5 w6, Going (w.alloc (.cells #[.int .i64 pages, .slice pp pre.length pcap, .int .i64 at_, .int .u64 V, .slice qp post.length qcap, .slice cp cs.length ccap] 43)) (w.heap.size + 1) (w.heap.size + 1 + 2) n T w5 → (∀ k, F k → w.heap.size + 1 ≤ k) → (∃ F' L', DevAt w6 F' (w.heap.size + 1 + 2) U L' ∧ Keeps F w5 w6 ∧ Fresh F F' w5) → U.old.length = T.old.length → U.armed = T.armed →
          Going (w.alloc (.cells #[.int .i64 pages, .slice pp pre.length pcap, .int .i64 at_, .int .u64 V, .slice qp post.length qcap, .slice cp cs.length ccap] 43)) (w.heap.size + 1) (w.heap.size + 1 + 2) n U w6) := fun T U F w5 w6 h1 h2 h3 h4 h5 => h1.next F h2 h3 h4 h5
      have hcut : ((k : Int) < (pre.length : Int) ∧ ¬ (k : Int) < 400) ∨ ¬ (k : Int) < (pre.length : Int) := by omega
      clear hlt hdev hkp hlen harm hBs hst hkw x4 x5 hF
      rcases hcut with ⟨hi1, hi2⟩ | hi1
      all_goals
        go_wp2_with (first
          | (go_at_call 14; refine (hword _).mono ?_; rintro e w' ⟨rfl, hw⟩; subst w')
          | (go_at_call 17; refine hst1.mono ?_; rintro e w4 ⟨rfl, hx⟩
             have HG4 := Hid.mk' (HGN.out S (S.store A V) F wr w4 HGO.out.1 HGO.out.2 hx rfl rfl)
             obtain ⟨⟨F4, L4, hd4, hF4⟩, hg4⟩ := HG4.out
             have hfl := flush_dev w4 F4 (w.heap.size + 1 + 2) (S.store A V) L4 A hd4 a0 (by have := HLN.out.1; show (A : Int) < (S.old.length : Int); omega) (by have := HLN.out.1; show S.old.length % 512 = 0; omega) (by have := HST.out; show S.steps + 1 ≤ 1000000000; omega) (by have := HLN.out.2; show ¬ (S.armed = true ∧ _); rw [this]; simp)
             have HF4 := Hid.mk' hF4
             clear hx hd4 hF4 hg4)
          | (go_at_call 18; refine hfl.mono ?_; rintro e w5 ⟨rfl, hx1, hx2⟩
             have HG5 := Hid.mk' (HGN.out (S.store A V) ((S.store A V).flush A) F4 w4 w5 HG4.out HF4.out ⟨F4, L4, hx1, hx2, fun k hk => Or.inl hk⟩ rfl rfl)
             obtain ⟨⟨F5, L5, hd5, hF5⟩, hg5⟩ := HG5.out
             have hfe := fence_dev w5 F5 (w.heap.size + 1 + 2) ((S.store A V).flush A) L5 hd5 (by have := HST.out; show S.steps + 1 + 1 ≤ 1000000000; omega) (by have := HLN.out.2; show ¬ (S.armed = true ∧ _); rw [this]; simp)
             have HF5 := Hid.mk' hF5
             clear hx1 hx2 hd5 hF5 hg5)
          | (go_at_call 19; refine hfe.mono ?_; rintro e w6 ⟨rfl, hx⟩
             have HG6 := Hid.mk' (HGN.out ((S.store A V).flush A) ((S.store A V).flush A).fence F5 w5 w6 HG5.out HF5.out hx (by simp [St.fence, fenced_len, St.tick]) rfl)
             clear hx))
        have HH6 : Hid (Holds ((S.store A V).flush A).fence A V ∧ ((S.store A V).flush A).fence.steps ≤ 403) := ⟨fenced_holds S A V (by have := HLN.out.1; omega) (by omega) hV, by have := HST.out; show S.steps + 1 + 1 + 1 ≤ 403; omega⟩
        go_loopw [12] (fun i wr => ∃ k : Nat, k ≤ post.length ∧ k ≤ 400 ∧ i = .int .i64 k ∧ Hid (∃ S, Going (w.alloc (.cells #[.int .i64 pages, .slice pp pre.length pcap, .int .i64 at_, .int .u64 V, .slice qp post.length qcap, .slice cp cs.length ccap] 43)) (w.heap.size + 1) (w.heap.size + 1 + 2) n S wr ∧ S.steps ≤ 403 + k ∧ Holds S A V))
          (fun i _ => 400 - (intOf i).toNat)
        case atStart => exact ⟨0, by omega, by omega, rfl, _, HG6.out, by have := HH6.out.2; omega, HH6.out.1⟩
        case round =>
          obtain ⟨k2, hk1', hk2', rfl, hrel⟩ := hrel
          obtain ⟨S2, hgo, hst2, hho⟩ := hrel
          obtain ⟨⟨F2, L2, hdev, hF2⟩, hkp, hlen, harm, hBs⟩ := hgo
          obtain ⟨⟨y1, y2, y3, y4, y5⟩, hkw⟩ := HBX.out wr hkp
          have hms := hdev.marks (A : Int)
          by_cases hlt : k2 < post.length ∧ k2 < 400
          · obtain ⟨hlt1, hlt2⟩ := hlt
            obtain ⟨b, o, rfl, hb, hc⟩ := HPOST.out (by omega)
            obtain ⟨e1, e2, e3, e4⟩ := hc k2 hlt1
            have e1' := hkw.cell e1 (by simp; omega)
            have e2' := hkw.cell e2 (by simp; omega)
            have e3' := hkw.cell e3 (by simp; omega)
            have j1 : (k2 : Int) < (post.length : Int) := by omega
            have j2 : (k2 : Int) < 400 := by omega
            have hnote := note_dev wr F2 (w.heap.size + 1 + 2) n S2 L2 (post.getD k2 (0, 0, 0)).1 (post.getD k2 (0, 0, 0)).2.1 (post.getD k2 (0, 0, 0)).2.2 hdev hlen hsz.2.2 hsz.2.1 e4 (by omega) (by rw [harm]; simp)
            have hwrd := word_any (post.getD k2 (0, 0, 0)).2.1 n wr (by omega) (by omega)
            have HGO : Hid (Going (w.alloc (.cells #[.int .i64 pages, .slice pp pre.length pcap, .int .i64 at_, .int .u64 V, .slice (some ⟨b, o, none⟩) post.length qcap, .slice cp cs.length ccap] 43)) (w.heap.size + 1) (w.heap.size + 1 + 2) n S2 wr ∧ ∀ k, F2 k → w.heap.size + 1 ≤ k) := ⟨⟨⟨F2, L2, hdev, hF2⟩, hkp, hlen, harm, hBs⟩, hF2⟩
            have HST2 : Hid (S2.steps ≤ 403 + k2 ∧ Holds S2 A V ∧ S2.ms A ≤ (S2.pd A).length ∧ S2.old.length = n) := ⟨hst2, hho, hms, hlen⟩
            generalize post.getD k2 (0, 0, 0) = nt at *
            clear e1 e2 e3 hc y1 y2 y3 y5 hdev hkp hlen harm hBs hst2 hkw e4 hho hms HG6 HG5 HG4
            by_cases hkd : nt.1 = 1
            · have hkb : (nt.1 != 1) = false := by simp [hkd]
              have HKD := Hid.mk' hkd
              clear hkd
              by_cases hwd : wordOf nt.2.1 n = (A : Int)
              · have hwb : (wordOf nt.2.1 n != (A : Int)) = false := by simp [hwd]
                clear hwd hnote
                go_wp2_with (first | (go_at_call 14; refine hwrd.mono ?_; rintro e w' ⟨rfl, hw⟩; subst w'))
                go_roundw
                case rel => exact ⟨k2 + 1, by omega, by omega, by go_num, S2, HGO.out.1, by have := HST2.out.1; omega, HST2.out.2.1⟩
                case measure => simp [intOf]; omega
              · have hwb : (wordOf nt.2.1 n != (A : Int)) = true := by simp [hwd]
                have HWD := Hid.mk' hwd
                clear hwd
                go_wp2_with (first
                  | (go_at_call 14; refine hwrd.mono ?_; rintro e w' ⟨rfl, hw⟩; subst w')
                  | (go_at_call 11; refine hnote.mono ?_; rintro e w7 ⟨rfl, hx⟩; have HX := Hid.mk' hx; clear hx))
                go_roundw
                case rel =>
                  obtain ⟨s1, s2, s3, s4⟩ := HST2.out
                  exact ⟨k2 + 1, by omega, by omega, by go_num, _, HGO.out.1.next F2 HGO.out.2 HX.out (note_len _ _ _ _ _) (note_armed _ _ _ _ _), by rw [note_steps]; omega, note_holds S2 _ _ _ n A V (by omega) (by omega) s3 (fun h => HWD.out h.2) s2⟩
                case measure => simp [intOf]; omega
            · have hkb : (nt.1 != 1) = true := by simp [hkd]
              have HKD := Hid.mk' hkd
              clear hkd hwrd
              go_wp2_with (first
                | (go_at_call 11; refine hnote.mono ?_; rintro e w7 ⟨rfl, hx⟩; have HX := Hid.mk' hx; clear hx))
              go_roundw
              case rel =>
                obtain ⟨s1, s2, s3, s4⟩ := HST2.out
                exact ⟨k2 + 1, by omega, by omega, by go_num, _, HGO.out.1.next F2 HGO.out.2 HX.out (note_len _ _ _ _ _) (note_armed _ _ _ _ _), by rw [note_steps]; omega, note_holds S2 _ _ _ n A V (by omega) (by omega) s3 (fun h => HKD.out h.1) s2⟩
              case measure => simp [intOf]; omega
          · have hcr := crash_dev wr F2 (w.heap.size + 1 + 2) S2 L2 hdev (by omega) (by omega) cp ccap cs HL3.out (fun h0 => by
              obtain ⟨cb, co, q1, q2, q3⟩ := HCS.out h0
              exact ⟨cb, co, q1, Nat.lt_of_lt_of_le q2 hkw.size, fun i hi => hkw.cell (q3 i hi) (by simp; omega)⟩)
            rw [hlen] at hcr
            have HAL : Hid (∀ ks, Rising S2 ks → wordAt (S2.crash ks cs) A = V ∧ (S2.crash ks cs).length = n ∧ ∀ b ∈ S2.crash ks cs, 0 ≤ b ∧ b ≤ 255) := fun ks hR =>
              ⟨crash_word hdev A V (by omega) hho ks cs hR, by rw [(crash_len hdev ks cs hR).1]; exact hlen, (crash_len hdev ks cs hR).2⟩
            have HKP : Hid (Keeps (fun k => w.heap.size + 1 ≤ k) (w.alloc (.cells #[.int .i64 pages, .slice pp pre.length pcap, .int .i64 at_, .int .u64 V, .slice qp post.length qcap, .slice cp cs.length ccap] 43)) wr) := hkp
            have hcut2 : ((k2 : Int) < (post.length : Int) ∧ ¬ (k2 : Int) < 400) ∨ ¬ (k2 : Int) < (post.length : Int) := by omega
            clear hlt hdev hF2 hkp hlen harm hBs hho hkw hms hst2 y1 y2 y3 HG6 HG5 HG4
            rcases hcut2 with ⟨j1, j2⟩ | j1
            all_goals
              go_wp2_with (first
                | (go_at_call 12; refine hcr.mono ?_; rintro e w7 ⟨ks, hR, rfl, hb7, hk7⟩
                   obtain ⟨q1, q2, q3⟩ := HAL.out ks hR
                   have hkk7 : Keeps (fun k => w.heap.size + 1 ≤ k) (w.alloc (.cells #[.int .i64 pages, .slice pp pre.length pcap, .int .i64 at_, .int .u64 V, .slice qp post.length qcap, .slice cp cs.length ccap] 43)) w7 := HKP.out.trans (hk7.mono (by simp))
                   have HK7 := Hid.mk' hkk7
                   obtain ⟨⟨z1, z2, z3, z4, z5⟩, hkw7⟩ := HBX.out w7 hkk7
                   have hat8 := at8_any wr.heap.size n A (S2.crash ks cs) w7 (fun i hi => by simp [World.cell?, hb7, u8s, List.getD_eq_getElem?_getD, show i < (S2.crash ks cs).length by omega]) q3 (by omega) (by omega)
                   have hld := loaded_yes ⟨wr.heap.size, 0, none⟩ n n (u8s (S2.crash ks cs)) w7 hsz.2.1 (by omega) hsz.2.2 (by simp [u8s, q2]) (fun j v hj => by
                     by_cases h0 : j = 0
                     · subst h0; simpa [World.cell?, Addr.add, hb7] using hj
                     · simpa [World.cell?, Addr.add, h0, hb7] using hj) (by intro v hv; simp only [u8s, List.mem_map] at hv; obtain ⟨_, _, rfl⟩ := hv; rfl) (heap_lt hb7)
                   rw [q1] at hat8
                   have HQ := Hid.mk' (show wordAt (S2.crash ks cs) A = V ∧ (S2.crash ks cs).length = n ∧ ∀ b ∈ S2.crash ks cs, 0 ≤ b ∧ b ≤ 255 from ⟨q1, q2, q3⟩)
                   clear hR hb7 hk7 q1 q2 q3 z1 z2 z4 z5 hkw7 hkk7)
                | (go_at_call 15; refine hat8.mono ?_; rintro e w' ⟨rfl, hw⟩; subst w')
                | (go_at_call 20; refine hld.mono ?_; rintro e w8 ⟨rfl, hl1', hl2', hl3', hl4', hl5'⟩
                   have hkk8 : Keeps (fun k => w.heap.size + 1 ≤ k) (w.alloc (.cells #[.int .i64 pages, .slice pp pre.length pcap, .int .i64 at_, .int .u64 V, .slice qp post.length qcap, .slice cp cs.length ccap] 43)) w8 := HK7.out.step hl4' (by simp)
                   obtain ⟨⟨z1, z2, z3', z4, z5⟩, hkw8⟩ := HBX.out w8 hkk8
                   have HK8 := Hid.mk' hkw8
                   obtain ⟨q1, q2, q3⟩ := HQ.out
                   have hfr := DevAt.fresh (w := w8) (ob := w7.heap.size) (bm := w7.heap.size + 1) (d := w7.heap.size + 2) (bs := S2.crash ks cs) (by rw [q2]; exact hl3') hl1' hl2' (by omega) q3
                   have hwd8 := word_dev w8 _ (w7.heap.size + 2) A _ _ hfr (by show A + 8 ≤ (S2.crash ks cs).length; omega) (by omega) rfl
                   have hwd9 : Calls Try.prog 21 #[.pointer (some ⟨w7.heap.size + 2, 0, none⟩), .int .i64 A] w8 fun e w' => e = .returned (.tuple #[.int .u64 V, .int .i64 0]) ∧ w' = w8 := by
                     have e9 : wordAt (St.fresh (S2.crash ks cs)).old A = V := q1
                     rw [e9] at hwd8
                     exact hwd8
                   clear hl1' hl2' hl3' hl4' hl5' hkk8 z1 z2 z4 z5 hkw8 q1 q2 q3 hfr hwd8)
                | (go_at_call 21; refine hwd9.mono ?_; rintro e w' ⟨rfl, hw⟩; subst w'))
              go_ret
              exact ⟨rfl, HK8.out.below (Nat.le_refl _) (fun k hk => by omega)⟩

end Go.Proofs.Ytfiekdgpdboolaa
