import Derived.Test.YtfiekdgpdboolabY12
import Derived.Test.YtfiekdgpdboolabY7
import Derived.Test.YtfiekdgpdboolabY1
import Derived.Test.YtfiekdgpdboolabY11
namespace Go.Proofs.Ytfiekdgpdboolab
open Go.RowKit Go.Maps

theorem info55 : (Try.prog.info? 55).map (fun i => (i.zero, i.size, i.bytes)) = some (some (.agg #[.slice none 0 0, .slice none 0 0, .int .u8 0]), 3, 56) := by kernel_rfl
theorem info60 : (Try.prog.info? 60).map (fun i => (i.zero, i.size, i.bytes)) = some (some (.agg #[.slice none 0 0, .slice none 0 0, .slice none 0 0, .slice none 0 0, .int .i64 0]), 5, 104) := by kernel_rfl

section
variable {w0 : World} {B n d u : Nat} {F1 F2 : Nat → Prop} {S U : St} {L1 L2 : Lay} {Z : Nat → Prop} {vl vt : Value} {ls : List Lent1} {ts : List Told1} {lo : List (Nat × Nat)} {wr : World}

theorem ap_note (h : AP w0 B n d u F1 F2 S U L1 L2 Z vl vt ls ts lo wr) (k a v : Int) (hv : 0 ≤ v ∧ v < 18446744073709551616) (h8 : n % 512 = 0) (hn0 : 512 ≤ n) (ha : S.armed = false) (hs : S.steps ≤ 1000) :
    Calls Try.prog 21 #[.pointer (some ⟨d, 0, none⟩), .agg #[.int .i64 k, .int .i64 a, .int .u64 v], .int .i64 n] wr fun e w' => e = .returned (.int .i64 0) ∧ ∃ F' L', AP w0 B n d u F' F2 (S.note k a v n) U L' L2 Z vl vt ls ts lo w' := by
  refine (note_dev wr F1 d n S L1 k a v h.duo.one h.duo.n1 h8 hn0 hv (by omega) (by rw [ha]; simp)).mono ?_
  rintro e w' ⟨rfl, hx⟩
  exact ⟨rfl, h.noted hx (note_len _ _ _ _ _)⟩

theorem ap_read (h : AP w0 B n d u F1 F2 S U L1 L2 Z vl vt ls ts lo wr) (a : Int) (hn0 : 512 ≤ n) (hs : S.steps ≤ 1000) :
    Calls Try.prog 22 #[.pointer (some ⟨d, 0, none⟩), .int .i64 (wordOf a n), .int .i64 8] wr fun e w' => e = .returned (.tuple #[.slice (some ⟨wr.heap.size, 0, none⟩) 8 8, .int .i64 0]) ∧ AP w0 B n d u F1 F2 S U L1 L2 Z vl vt ls ts (lo ++ [(wr.heap.size, 8)]) w' := by
  obtain ⟨q1, q2, q3⟩ := wordOf_in a (n := n) (by omega)
  obtain ⟨b, hb⟩ := Int.eq_ofNat_of_zero_le q1
  rw [hb] at q2 q3 ⊢
  have hn := h.duo.n1
  refine (read8_dev wr F1 d S L1 b h.duo.one (by omega) (by omega) (by omega)).mono ?_
  rintro e w' ⟨cs, e1, rfl, e2, e3⟩
  exact ⟨rfl, h.more e3 e1 e2⟩

theorem ap_crash (h : AP w0 B n d u F1 F2 S U L1 L2 Z vl vt ls ts lo wr) (hn0 : 512 ≤ n) (hs : S.steps ≤ 1000) (pc : Option Addr) (cc : Nat) (cs : List Int) (hcl : cs.length ≤ 17592186043904)
    (hpc : 0 < cs.length → ∃ cb co, pc = some ⟨cb, co, none⟩ ∧ cb < wr.heap.size ∧ ∀ i, i < cs.length → wr.cell? ⟨cb, co + i, none⟩ = some (.int .i64 (cs.getD i 0))) :
    Calls Try.prog 23 #[.pointer (some ⟨d, 0, none⟩), .slice pc cs.length cc] wr fun e w' => e = .returned (.slice (some ⟨wr.heap.size, 0, none⟩) n n) ∧ AP w0 B n d u F1 F2 S U L1 L2 Z vl vt ls ts (lo ++ [(wr.heap.size, n)]) w' ∧
      ∃ bs : List Int, bs.length = n ∧ (∀ b ∈ bs, 0 ≤ b ∧ b ≤ 255) ∧ (∀ i, i < n → w'.cell? ⟨wr.heap.size, i, none⟩ = some (.int .u8 (bs.getD i 0))) ∧ Keeps (fun _ => False) wr w' := by
  have hn := h.duo.n1
  refine (crash_dev wr F1 d S L1 h.duo.one (by omega) (by omega) pc cc cs (by unfold maxLen; omega) hpc).mono ?_
  rintro e w' ⟨ks, hR, rfl, e2, e3⟩
  obtain ⟨l1, l2⟩ := crash_len h.duo.one ks cs hR
  have hlen : (u8s (S.crash ks cs)).length = n := by simp [u8s, l1, hn]
  refine ⟨by rw [hn], h.more e3 hlen e2, _, l1.trans hn, l2, fun i hi => cells_u8 e2 i (by omega), e3⟩

theorem ap_view (h : AP w0 B n d u F1 F2 S U L1 L2 Z vl vt ls ts lo wr) (hs : S.steps ≤ 1000) :
    Calls Try.prog 24 #[.pointer (some ⟨d, 0, none⟩)] wr fun e w' => e = .returned (.slice (some ⟨wr.heap.size, 0, none⟩) n n) ∧ AP w0 B n d u F1 F2 S U L1 L2 Z vl vt ls ts (lo ++ [(wr.heap.size, n)]) w' ∧
      ∃ bs : List Int, bs.length = n ∧ (∀ b ∈ bs, 0 ≤ b ∧ b ≤ 255) ∧ (∀ i, i < n → w'.cell? ⟨wr.heap.size, i, none⟩ = some (.int .u8 (bs.getD i 0))) ∧ Keeps (fun _ => False) wr w' := by
  have hn := h.duo.n1
  refine (view_dev wr F1 d S L1 h.duo.one (by omega)).mono ?_
  rintro e w' ⟨rfl, e2, e3⟩
  have l1 : S.view.length = S.old.length := viewTo_len S _
  have hlen : (u8s S.view).length = n := by simp [u8s, l1, hn]
  refine ⟨by rw [hn], h.more e3 hlen e2, _, l1.trans hn, viewTo_byts h.duo.one _, fun i hi => cells_u8 e2 i (by omega), e3⟩

/-- What lend leaves. -/
structure LentOut (B : Nat) (vl : Value) (ls : List Lent1) (b m g : Nat) (mk : Int) (wr w3 : World) : Prop where
  cb : ∀ i, i < m → w3.cell? ⟨b, i, none⟩ = some (.int .u8 mk)
  cg : ∀ i, i < m + 9 → w3.cell? ⟨g, i, none⟩ = some (.int .u8 mk)
  hg : g = b ∨ wr.heap.size ≤ g
  hgl : g < w3.heap.size
  k3 : Keeps (fun k => k = b) wr w3
  lr : w3.ownsRow B 55 3 vl ls.length (lentCells ls)
  bs : B ≤ w3.heap.size

theorem ap_lend {b m : Nat} (h : AP w0 B n d u F1 F2 S U L1 L2 Z vl vt ls ts ((b, m) :: lo) wr) (mk : Int) (hm0 : 0 < m) (hm : m ≤ 10000) :
    Calls Try.prog 25 #[.slice (some ⟨b, 0, none⟩) m m, .int .u8 mk] wr fun e w' => ∃ g c, e = .returned (.agg #[.slice (some ⟨b, 0, none⟩) m m, .slice (some ⟨g, 0, none⟩) (m + 9 : Nat) c, .int .u8 mk]) ∧ LentOut B vl ls b m g mk wr w' := by
  obtain ⟨b1, b2, b3, b4, b5, b6, b7, cs, b8, b9⟩ := h.wait (b, m) (by simp)
  simp only at b1 b2 b3 b4 b5 b6 b7 b8 b9
  refine (lend_any wr b m mk cs b9 b8 hm0 hm).mono ?_
  rintro e w' ⟨g, c, rfl, e1, e2, e3, e4, e5⟩
  exact ⟨g, c, rfl, e1, e2, e3, e4, e5, e5.row h.lr (fun x hx e => by subst e; exact b6 hx), Nat.le_trans h.duo.size e5.size⟩

/-- Doubts, and what lendDoubts makes of them. -/
theorem ap_doubts (h : AP w0 B n d u F1 F2 S U L1 L2 Z vl vt ls ts [] wr) (hn : n ≤ 4096) (m : Nat) (hm : m ≤ 100) (hs : S.steps ≤ 1000) :
    Calls Try.prog 27 #[.pointer (some ⟨d, 0, none⟩)] wr fun e w1 => ∃ v, e = .returned v ∧ Keeps (fun _ => False) wr w1 ∧ Calls Try.prog 26 #[v, .int .i64 m] w1 fun e w3 => ∃ t : Told1, e = .returned (.agg t.five.toArray) ∧ t.Ok w3 (fun b => wr.heap.size ≤ b ∧ b < w3.heap.size) ∧
      Keeps (fun b => wr.heap.size ≤ b) w1 w3 ∧ w3.ownsRow B 60 5 vt ts.length (toldCells ts) ∧ B ≤ w3.heap.size := by
  refine (doubts_dev2 wr F1 d S L1 h.duo.one (by omega)).mono ?_
  rintro e w1 ⟨v, ks, ng, rfl, hR, hrow, hng, hk, _, hinj⟩
  refine ⟨v, rfl, hk, ?_⟩
  obtain ⟨ds, hds⟩ : ∃ ds : List Dbt, ds = ks.map fun a => ⟨a, wordAt S.old a.toNat, ng a, (S.pd a).length⟩ := ⟨_, rfl⟩
  have hdl : ds.length = ks.length := by rw [hds]; simp
  have hcells : dCells ds = doubtCells S ng ks := by rw [hds]; simp [dCells, doubtCells, Dbt.three, List.flatMap_map]
  have hkl : 8 * (ks.length : Int) ≤ (n : Int) - 0 := rise_len n ks 0 (by decide) (by omega) hR.1 (fun a ha => by
    have := h.duo.one.dom a ((hR.2 a).1 ha)
    rw [h.duo.n1] at this
    exact this)
  have hget : ∀ (j : Nat) (x : Dbt), ds[j]? = some x → ∃ a, ks[j]? = some a ∧ a ∈ ks ∧ x = ⟨a, wordAt S.old a.toNat, ng a, (S.pd a).length⟩ := fun j x hx => by
    rw [hds, List.getElem?_map, Option.map_eq_some_iff] at hx
    obtain ⟨a, ha, rfl⟩ := hx
    exact ⟨a, ha, List.mem_of_getElem? ha, rfl⟩
  refine (lendDoubts_any w1 wr.heap.size v m ds (by rw [hdl, hcells]; exact hrow) (fun j x hx => ?_) (fun i i' y y' hy hy' e => ?_) hk.size hm (by omega)).mono ?_
  · obtain ⟨a, _, ha, rfl⟩ := hget j x hx
    have hp := (hR.2 a).1 ha
    have hl := h.duo.one.lens a
    have hl0 : 0 < (S.pd a).length := List.length_pos_iff.2 hp
    refine ⟨(hng a ha).1, hl0, by show (S.pd a).length ≤ 1000; omega, fun i => (u64s (S.pd a)).getD i (.int .u64 0), _, (hng a ha).2, by simp [u64s], fun i hi => ?_⟩
    have hi' : i < (u64s (S.pd a)).length := by simpa [u64s] using hi
    simp [List.getD_eq_getElem?_getD, hi']
  · obtain ⟨a, ka, ha, rfl⟩ := hget i y hy
    obtain ⟨a', ka', ha', rfl⟩ := hget i' y' hy'
    have haa : a = a' := hinj a ha a' ha' e
    subst haa
    obtain ⟨li, hi⟩ := List.getElem?_eq_some_iff.1 ka
    obtain ⟨li', hi'⟩ := List.getElem?_eq_some_iff.1 ka'
    have hp := List.pairwise_iff_getElem.1 hR.1
    rcases Nat.lt_trichotomy i i' with h1 | h1 | h1
    · have := hp i i' li li' h1; omega
    · exact h1
    · have := hp i' i li' li h1; omega
  · rintro e w3 ⟨t, rfl, t1, t2⟩
    have k03 : Keeps (fun _ => False) wr w3 := ((hk.mono (fun _ _ h => h.elim)).trans t2).mono (fun x hx (h : wr.heap.size ≤ x) => by omega)
    exact ⟨t, rfl, t1, t2, k03.row h.tr (by simp), Nat.le_trans h.duo.size k03.size⟩

theorem ap_kept (h : AP w0 B n d u F1 F2 S U L1 L2 Z vl vt ls ts lo wr) (hl : ls.length ≤ 1000) :
    Calls Try.prog 28 #[vl] wr fun e w' => e = .returned (.bool true) ∧ AP w0 B n d u F1 F2 S U L1 L2 Z vl vt ls ts lo w' := by
  refine (kept_any wr Z B vl ls h.lr h.lok hl).mono ?_
  rintro e w' ⟨rfl, q, hq⟩
  exact ⟨rfl, h.kept (keeps_drewN' _ _ _ q hq)⟩

theorem ap_keptD (h : AP w0 B n d u F1 F2 S U L1 L2 Z vl vt ls ts lo wr) (hl : ts.length ≤ 1000) :
    Calls Try.prog 29 #[vt] wr fun e w' => e = .returned (.bool true) ∧ AP w0 B n d u F1 F2 S U L1 L2 Z vl vt ls ts lo w' := by
  refine (keptDoubts_any wr Z B vt ts h.tr h.tok hl).mono ?_
  rintro e w' ⟨rfl, hq⟩
  exact ⟨rfl, h.kept hq⟩

theorem ap_alike (h : AP w0 B n d u F1 F2 S U L1 L2 Z vl vt ls ts lo wr) (ht : Twin S U) (hn0 : 512 ≤ n) (hs : S.steps ≤ 1000) :
    Calls Try.prog 19 #[.pointer (some ⟨d, 0, none⟩), .pointer (some ⟨u, 0, none⟩)] wr fun e w' => e = .returned (.bool true) ∧ AP w0 B n d u F1 F2 S U L1 L2 Z vl vt ls ts lo w' := by
  refine (alike_yes wr F1 F2 d u n S U L1 L2 h.duo.one h.duo.two ht.1.symm ht.2.1.symm h.duo.n1 (by omega) (by omega) (by have := ht.2.2.2; omega)).mono ?_
  rintro e w' ⟨rfl, hq⟩
  exact ⟨rfl, h.kept hq⟩
end

end Go.Proofs.Ytfiekdgpdboolab
