import Derived.Test.YtfiekdgpdboolabY8
import Derived.Test.YtfiekdgpdboolabY3
namespace Go.Proofs.Ytfiekdgpdboolab
open Go.RowKit Go.Maps

/-- Words that rise are no more than there is room for. -/
theorem rise_len (hi : Int) (ks : List Int) : ∀ lo : Int, lo % 8 = 0 → lo ≤ hi → ks.Pairwise (· < ·) → (∀ a ∈ ks, lo ≤ a ∧ a + 8 ≤ hi ∧ a % 8 = 0) → 8 * (ks.length : Int) ≤ hi - lo := by
  induction ks with
  | nil => intro lo _ h _ _; simp; omega
  | cons a ks ih =>
    intro lo h8 hlo hp hm
    rw [List.pairwise_cons] at hp
    have ha := hm a (by simp)
    have := ih (a + 8) (by omega) (by omega) hp.2 (fun b hb => by
      have h1 := hp.1 b hb
      have h2 := hm b (by simp [hb])
      omega)
    simp only [List.length_cons]
    omega

theorem Lent1.Ok.kept {w w' : World} {Z X : Nat → Prop} {t : Lent1} (h : t.Ok w Z) (k : Keeps X w w') (hx : ∀ b, Z b → ¬ X b) : t.Ok w' Z :=
  ⟨h.nb, h.ng, h.zb, h.zg, fun i hi => k.cell (h.cb i hi) (hx _ h.zb), fun i hi => k.cell (h.cg i hi) (hx _ h.zg)⟩
theorem Lent1.Ok.zmono {w : World} {Z Z' : Nat → Prop} {t : Lent1} (h : t.Ok w Z) (hz : ∀ b, Z b → Z' b) : t.Ok w Z' := ⟨h.nb, h.ng, hz _ h.zb, hz _ h.zg, h.cb, h.cg⟩

/-- All that PmemApart holds: two devices, the lists that were lent, and those that wait to be. -/
structure AP (w0 : World) (B n d u : Nat) (F1 F2 : Nat → Prop) (S U : St) (L1 L2 : Lay) (Z : Nat → Prop) (vl vt : Value) (ls : List Lent1) (ts : List Told1) (lo : List (Nat × Nat)) (wr : World) : Prop where
  duo : Duo w0 B n d u F1 F2 S U L1 L2 wr
  lr : wr.ownsRow B 55 3 vl ls.length (lentCells ls)
  tr : wr.ownsRow B 60 5 vt ts.length (toldCells ts)
  lok : ∀ t ∈ ls, t.Ok wr Z
  tok : ∀ t ∈ ts, t.Ok wr Z
  z : ∀ b, Z b → b < wr.heap.size ∧ ¬ F1 b ∧ ¬ F2 b ∧ vl.ownBlock ≠ some b ∧ vt.ownBlock ≠ some b
  zl : ∀ b, vl.ownBlock = some b → ¬ F1 b ∧ ¬ F2 b ∧ vt.ownBlock ≠ some b
  zt : ∀ b, vt.ownBlock = some b → ¬ F1 b ∧ ¬ F2 b
  wait : ∀ x ∈ lo, B ≤ x.1 ∧ x.1 < wr.heap.size ∧ ¬ Z x.1 ∧ ¬ F1 x.1 ∧ ¬ F2 x.1 ∧ vl.ownBlock ≠ some x.1 ∧ vt.ownBlock ≠ some x.1 ∧ ∃ cs : List Value, cs.length = x.2 ∧ wr.heap[x.1]? = some (.cells cs.toArray 5 (0, 0))
  nd : (lo.map Prod.fst).Nodup

section
variable {w0 : World} {B n d u : Nat} {F1 F2 : Nat → Prop} {S U : St} {L1 L2 : Lay} {Z : Nat → Prop} {vl vt : Value} {ls : List Lent1} {ts : List Told1} {lo : List (Nat × Nat)} {wr : World}

theorem AP.swap (h : AP w0 B n d u F1 F2 S U L1 L2 Z vl vt ls ts lo wr) : AP w0 B n u d F2 F1 U S L2 L1 Z vl vt ls ts lo wr :=
  ⟨h.duo.swap, h.lr, h.tr, h.lok, h.tok, fun b hb => by obtain ⟨q1, q2, q3, q4⟩ := h.z b hb; exact ⟨q1, q3, q2, q4⟩, fun b hb => by obtain ⟨q1, q2, q3⟩ := h.zl b hb; exact ⟨q2, q1, q3⟩, fun b hb => (h.zt b hb).symm,
   fun x hx => by obtain ⟨q1, q2, q3, q4, q5, q6⟩ := h.wait x hx; exact ⟨q1, q2, q3, q5, q4, q6⟩, h.nd⟩

theorem AP.kept {w' : World} (h : AP w0 B n d u F1 F2 S U L1 L2 Z vl vt ls ts lo wr) (k : Keeps (fun _ => False) wr w') : AP w0 B n d u F1 F2 S U L1 L2 Z vl vt ls ts lo w' :=
  ⟨h.duo.kept k, k.row h.lr (by simp), k.row h.tr (by simp), fun t ht => (h.lok t ht).kept k (by simp), fun t ht => (h.tok t ht).kept k (by simp), fun b hb => by
    obtain ⟨q1, q2⟩ := h.z b hb; exact ⟨Nat.lt_of_lt_of_le q1 k.size, q2⟩, h.zl, h.zt,
   fun x hx => by
    obtain ⟨q1, q2, q3, q4, q5, q6, q7, cs, q8, q9⟩ := h.wait x hx
    exact ⟨q1, Nat.lt_of_lt_of_le q2 k.size, q3, q4, q5, q6, q7, cs, q8, (k.block _ q2 (by simp)).trans q9⟩, h.nd⟩

theorem AP.noted {w' : World} {T : St} (h : AP w0 B n d u F1 F2 S U L1 L2 Z vl vt ls ts lo wr) (hx : ∃ F' L', DevAt w' F' d T L' ∧ Keeps F1 wr w' ∧ Fresh F1 F' wr) (hl : T.old.length = S.old.length) :
    ∃ F' L', AP w0 B n d u F' F2 T U L' L2 Z vl vt ls ts lo w' := by
  obtain ⟨F', L', d1, d2, d3⟩ := hx
  have hnew : ∀ b, b < wr.heap.size → ¬ F1 b → ¬ F' b := fun b hb h1 h2 => by
    rcases d3 b h2 with h6 | h6
    · exact h1 h6
    · omega
  obtain ⟨F'', L'', hd⟩ : ∃ F'' L'', F'' = F' ∧ L'' = L' ∧ Duo w0 B n d u F' F2 T U L' L2 w' := by
    refine ⟨F', L', rfl, rfl, d1, h.duo.two.kept d2 (fun i hi h1 => h.duo.apart i h1 hi), fun k hk => ?_, h.duo.b2, fun k hk h2 => ?_, h.duo.keeps.trans (d2.mono fun k _ hk => h.duo.b1 k hk), hl.trans h.duo.n1, h.duo.n2, Nat.le_trans h.duo.size d2.size⟩
    · rcases d3 k hk with h6 | h6
      · exact h.duo.b1 k h6
      · have := h.duo.size; omega
    · rcases d3 k hk with h6 | h6
      · exact h.duo.apart k h6 h2
      · have := h.duo.two.fsz k h2; omega
  refine ⟨F', L', hd.2.2, d2.row h.lr (fun g hg => (h.zl g hg).1), d2.row h.tr (fun g hg => (h.zt g hg).1), fun t ht => (h.lok t ht).kept d2 (fun b hb => (h.z b hb).2.1), fun t ht => (h.tok t ht).kept d2 (fun b hb => (h.z b hb).2.1), fun b hb => ?_, fun b hb => ?_, fun b hb => ?_, fun x hx => ?_, h.nd⟩
  · obtain ⟨q1, q2, q3⟩ := h.z b hb
    exact ⟨Nat.lt_of_lt_of_le q1 d2.size, hnew b q1 q2, q3⟩
  · obtain ⟨q1, q2⟩ := h.zl b hb
    exact ⟨hnew b (h.lr.lt b hb).2 q1, q2⟩
  · obtain ⟨q1, q2⟩ := h.zt b hb
    exact ⟨hnew b (h.tr.lt b hb).2 q1, q2⟩
  · obtain ⟨q1, q2, q3, q4, q5, q6, q7, cs, q8, q9⟩ := h.wait x hx
    exact ⟨q1, Nat.lt_of_lt_of_le q2 d2.size, q3, hnew _ q2 q4, q5, q6, q7, cs, q8, (d2.block _ q2 q4).trans q9⟩

/-- A new list waits to be lent. -/
theorem AP.more {w' : World} {m : Nat} {cs : List Value} (h : AP w0 B n d u F1 F2 S U L1 L2 Z vl vt ls ts lo wr) (k : Keeps (fun _ => False) wr w') (hl : cs.length = m) (hb : w'.heap[wr.heap.size]? = some (.cells cs.toArray 5 (0, 0))) :
    AP w0 B n d u F1 F2 S U L1 L2 Z vl vt ls ts (lo ++ [(wr.heap.size, m)]) w' := by
  have h' := h.kept k
  refine ⟨h'.duo, h'.lr, h'.tr, h'.lok, h'.tok, h'.z, h'.zl, h'.zt, fun x hx => ?_, ?_⟩
  · rw [List.mem_append] at hx
    rcases hx with hx | hx
    · exact h'.wait x hx
    · simp at hx
      subst hx
      exact ⟨h.duo.size, heap_lt hb, fun hz => by have := (h.z _ hz).1; omega, fun hf => by have := h.duo.one.fsz _ hf; omega, fun hf => by have := h.duo.two.fsz _ hf; omega,
        fun e => by have := (h.lr.lt _ e).2; omega, fun e => by have := (h.tr.lt _ e).2; omega, cs, hl, hb⟩
  · rw [List.map_append, List.nodup_append]
    refine ⟨h.nd, by simp, fun a ha b hb => ?_⟩
    simp at hb
    rw [List.mem_map] at ha
    obtain ⟨x, hx, rfl⟩ := ha
    have := (h.wait x hx).2.1
    omega

/-- A list is lent, and taken in. -/
theorem AP.lend {b m g c : Nat} {mk : Int} {w3 w5 : World} {o : Obj} {g5 c5 : Nat} (h : AP w0 B n d u F1 F2 S U L1 L2 Z vl vt ls ts ((b, m) :: lo) wr) (hm : m ≤ 10000)
    (cb : ∀ i, i < m → w3.cell? ⟨b, i, none⟩ = some (.int .u8 mk)) (cg : ∀ i, i < m + 9 → w3.cell? ⟨g, i, none⟩ = some (.int .u8 mk)) (hg : g = b ∨ wr.heap.size ≤ g) (hgl : g < w3.heap.size) (k3 : Keeps (fun k => k = b) wr w3)
    (hrow : w5.ownsRow B 55 3 (.slice (some ⟨g5, 0, none⟩) (ls.length + 1 : Nat) c5) (ls.length + 1) (lentCells ls ++ [.slice (some ⟨b, 0, none⟩) m m, .slice (some ⟨g, 0, none⟩) (m + 9 : Nat) c, .int .u8 mk]))
    (hgr : (w3.alloc o).grownBy w5 vl.ownBlock) (hloc : vl.ownBlock = some g5 ∨ g5 = w3.heap.size + 1) :
    AP w0 B n d u F1 F2 S U L1 L2 (fun x => Z x ∨ x = b ∨ x = g) (.slice (some ⟨g5, 0, none⟩) (ls.length + 1 : Nat) c5) vt (ls ++ [⟨b, m, m, g, m + 9, c, mk⟩]) ts lo w5 := by
  obtain ⟨b1, b2, b3, b4, b5, b6, b7, _⟩ := h.wait (b, m) (by simp)
  simp only at b1 b2 b3 b4 b5 b6 b7
  have k5 : Keeps (fun k => k = b ∨ vl.ownBlock = some k) wr w5 := ((k3.mono (fun _ _ h => Or.inl h)).step (World.grownBy_alloc w3 o none) (by simp)).step hgr (fun i hi => Or.inl (Or.inr hi))
  have hs3 := k3.size
  have hs5 := hgr.size
  rw [World.size_alloc] at hs5
  have hvl : ∀ i, vl.ownBlock = some i → i < wr.heap.size := fun i hi => (h.lr.lt i hi).2
  have hvt : ∀ i, vt.ownBlock = some i → i < wr.heap.size := fun i hi => (h.tr.lt i hi).2
  have hgv : vl.ownBlock ≠ some g := fun e => by
    rcases hg with hg | hg
    · rw [hg] at e; exact b6 e
    · have := hvl _ e; omega
  have hg5 : ∀ x, x < wr.heap.size → vl.ownBlock ≠ some x → x ≠ g5 := fun x hx hv e => by
    subst e
    rcases hloc with hl | hl
    · exact hv hl
    · omega
  have hgF : ¬ F1 g ∧ ¬ F2 g ∧ vt.ownBlock ≠ some g := by
    rcases hg with hg | hg
    · rw [hg]; exact ⟨b4, b5, b7⟩
    · exact ⟨fun hf => by have := h.duo.one.fsz _ hf; omega, fun hf => by have := h.duo.two.fsz _ hf; omega, fun e => by have := hvt _ e; omega⟩
  have hgg5 : g ≠ g5 := fun e => by
    subst e
    rcases hloc with hl | hl
    · exact hgv hl
    · omega
  have hz5 : ∀ x, Z x → ¬ (x = b ∨ vl.ownBlock = some x) := fun x hx e => by
    rcases e with e | e
    · subst e; exact b3 hx
    · exact (h.z x hx).2.2.2.1 e
  have cell5 : ∀ (x i : Nat) (v : Value), w3.cell? ⟨x, i, none⟩ = some v → vl.ownBlock ≠ some x → w5.cell? ⟨x, i, none⟩ = some v := fun x i v hc hv => hgr.cell ((World.grownBy_alloc w3 o none).cell hc (by simp)) (fun e => hv e.symm)
  have hF : ∀ i, (F1 i ∨ F2 i) → ¬ (i = b ∨ vl.ownBlock = some i) := fun i hi e => by
    rcases e with e | e
    · subst e; rcases hi with hi | hi
      · exact b4 hi
      · exact b5 hi
    · rcases hi with hi | hi
      · exact (h.zl i e).1 hi
      · exact (h.zl i e).2.1 hi
  refine ⟨⟨h.duo.one.kept k5 (fun i hi => hF i (Or.inl hi)), h.duo.two.kept k5 (fun i hi => hF i (Or.inr hi)), h.duo.b1, h.duo.b2, h.duo.apart, h.duo.keeps.trans (k5.mono ?_), h.duo.n1, h.duo.n2, by have := h.duo.size; have := k5.size; omega⟩, ?_, k5.row h.tr ?_, fun t ht => ?_, fun t ht => ((h.tok t ht).kept k5 hz5).zmono (fun x hx => Or.inl hx), fun x hx => ?_, fun x hx => ?_, h.zt, fun x hx => ?_, ?_⟩
  · rintro x _ (e | e)
    · subst e; exact b1
    · exact (h.lr.lt x e).1
  · have e : lentCells (ls ++ [⟨b, m, m, g, m + 9, c, mk⟩]) = lentCells ls ++ [.slice (some ⟨b, 0, none⟩) m m, .slice (some ⟨g, 0, none⟩) (m + 9 : Nat) c, .int .u8 mk] := by simp [lentCells, Lent1.cells]
    rw [e, List.length_append]
    exact hrow
  · rintro x hx (e | e)
    · subst e; exact b7 hx
    · exact (h.zl x e).2.2 hx
  · rw [List.mem_append] at ht
    rcases ht with ht | ht
    · exact ((h.lok t ht).kept k5 hz5).zmono (fun x hx => Or.inl hx)
    · simp at ht
      subst ht
      exact ⟨hm, by show m + 9 ≤ 10100; omega, Or.inr (Or.inl rfl), Or.inr (Or.inr rfl), fun i hi => cell5 b i _ (cb i hi) b6, fun i hi => cell5 g i _ (cg i hi) hgv⟩
  · rcases hx with hx | hx | hx
    · obtain ⟨q1, q2, q3, q4, q5⟩ := h.z x hx
      exact ⟨by omega, q2, q3, by simpa [Value.ownBlock] using Ne.symm (hg5 x q1 q4), q5⟩
    · subst hx
      exact ⟨by omega, b4, b5, by simpa [Value.ownBlock] using Ne.symm (hg5 x b2 b6), b7⟩
    · subst hx
      exact ⟨by omega, hgF.1, hgF.2.1, by simpa [Value.ownBlock] using Ne.symm hgg5, hgF.2.2⟩
  · have hx' : g5 = x := by simpa [Value.ownBlock] using hx
    subst hx'
    rcases hloc with hl | hl
    · exact h.zl _ hl
    · exact ⟨fun hf => by have := h.duo.one.fsz _ hf; omega, fun hf => by have := h.duo.two.fsz _ hf; omega, fun e => by have := hvt _ e; omega⟩
  · obtain ⟨q1, q2, q3, q4, q5, q6, q7, cs, q8, q9⟩ := h.wait x (by simp [hx])
    have hxb : x.1 ≠ b := fun e => by
      have := h.nd
      simp only [List.map_cons, List.nodup_cons] at this
      exact this.1 (List.mem_map.2 ⟨x, hx, e⟩)
    refine ⟨q1, by omega, ?_, q4, q5, by simpa [Value.ownBlock] using Ne.symm (hg5 x.1 q2 q6), q7, cs, q8, (k5.block _ q2 ?_).trans q9⟩
    · rintro (hz | e | e)
      · exact q3 hz
      · exact hxb e
      · rcases hg with hg | hg
        · exact hxb (e.trans hg)
        · omega
    · rintro (e | e)
      · exact hxb e
      · exact q6 e
  · have := h.nd
    simp only [List.map_cons, List.nodup_cons] at this
    exact this.2

/-- A list of doubts is lent, and taken in. -/
theorem AP.tell {t : Told1} {w1 w3 w5 : World} {o : Obj} {g5 c5 : Nat} (h : AP w0 B n d u F1 F2 S U L1 L2 Z vl vt ls ts [] wr) (k1 : Keeps (fun _ => False) wr w1) (ht : t.Ok w3 (fun b => wr.heap.size ≤ b ∧ b < w3.heap.size)) (k3 : Keeps (fun b => wr.heap.size ≤ b) w1 w3)
    (hrow : w5.ownsRow B 60 5 (.slice (some ⟨g5, 0, none⟩) (ts.length + 1 : Nat) c5) (ts.length + 1) (toldCells ts ++ t.five))
    (hgr : (w3.alloc o).grownBy w5 vt.ownBlock) (hloc : vt.ownBlock = some g5 ∨ g5 = w3.heap.size + 1) :
    AP w0 B n d u F1 F2 S U L1 L2 (fun x => Z x ∨ (wr.heap.size ≤ x ∧ x < w3.heap.size)) vl (.slice (some ⟨g5, 0, none⟩) (ts.length + 1 : Nat) c5) ls (ts ++ [t]) [] w5 := by
  have k13 : Keeps (fun b => wr.heap.size ≤ b) wr w3 := (k1.mono (fun _ _ h => h.elim)).trans k3
  have k03 : Keeps (fun _ => False) wr w3 := k13.mono (fun x hx h => by omega)
  have k5 : Keeps (fun k => vt.ownBlock = some k) wr w5 := ((k03.mono (fun _ _ h => h.elim)).step (World.grownBy_alloc w3 o none) (by simp)).step hgr (fun i hi => Or.inl hi)
  have hs3 := k03.size
  have hs5 := hgr.size
  rw [World.size_alloc] at hs5
  have hvl : ∀ i, vl.ownBlock = some i → i < wr.heap.size := fun i hi => (h.lr.lt i hi).2
  have hvt : ∀ i, vt.ownBlock = some i → i < wr.heap.size := fun i hi => (h.tr.lt i hi).2
  have hg5 : ∀ x, x < w3.heap.size → vt.ownBlock ≠ some x → x ≠ g5 := fun x hx hv e => by
    subst e
    rcases hloc with hl | hl
    · exact hv hl
    · omega
  have hF : ∀ i, (F1 i ∨ F2 i) → ¬ vt.ownBlock = some i := fun i hi e => by
    rcases hi with hi | hi
    · exact (h.zt i e).1 hi
    · exact (h.zt i e).2 hi
  have hz5 : ∀ x, Z x → ¬ vt.ownBlock = some x := fun x hx e => (h.z x hx).2.2.2.2 e
  refine ⟨⟨h.duo.one.kept k5 (fun i hi => hF i (Or.inl hi)), h.duo.two.kept k5 (fun i hi => hF i (Or.inr hi)), h.duo.b1, h.duo.b2, h.duo.apart, h.duo.keeps.trans (k5.mono (fun x _ e => (h.tr.lt x e).1)), h.duo.n1, h.duo.n2, by have := h.duo.size; have := k5.size; omega⟩, k5.row h.lr (fun x hx e => (h.zl x hx).2.2 e), ?_, fun t' ht' => ((h.lok t' ht').kept k5 hz5).zmono (fun x hx => Or.inl hx), fun t' ht' => ?_, fun x hx => ?_, fun x hx => ?_, fun x hx => ?_, by simp, by simp⟩
  · have e : toldCells (ts ++ [t]) = toldCells ts ++ t.five := by simp [toldCells]
    rw [e, List.length_append]
    exact hrow
  · rw [List.mem_append] at ht'
    rcases ht' with ht' | ht'
    · exact ((h.tok t' ht').kept k5 hz5).zmono (fun x hx => Or.inl hx)
    · simp at ht'
      subst ht'
      have k35 : Keeps (fun k => vt.ownBlock = some k) w3 w5 := ((Keeps.refl _ w3).step (World.grownBy_alloc w3 o none) (by simp)).step hgr (fun i hi => Or.inl hi)
      exact (ht.kept k35 (fun x hx e => by have := hvt x e; omega)).zmono (fun x hx => Or.inr hx)
  · rcases hx with hx | hx
    · obtain ⟨q1, q2, q3, q4, q5⟩ := h.z x hx
      exact ⟨by omega, q2, q3, q4, by simpa [Value.ownBlock] using Ne.symm (hg5 x (by omega) q5)⟩
    · refine ⟨by omega, fun hf => by have := h.duo.one.fsz _ hf; omega, fun hf => by have := h.duo.two.fsz _ hf; omega, fun e => by have := hvl _ e; omega, ?_⟩
      simpa [Value.ownBlock] using Ne.symm (hg5 x hx.2 (fun e => by have := hvt _ e; omega))
  · obtain ⟨q1, q2, q3⟩ := h.zl x hx
    refine ⟨q1, q2, ?_⟩
    simpa [Value.ownBlock] using Ne.symm (hg5 x (by have := hvl x hx; omega) q3)
  · have hx' : g5 = x := by simpa [Value.ownBlock] using hx
    subst hx'
    rcases hloc with hl | hl
    · exact h.zt _ hl
    · exact ⟨fun hf => by have := h.duo.one.fsz _ hf; omega, fun hf => by have := h.duo.two.fsz _ hf; omega⟩
end

end Go.Proofs.Ytfiekdgpdboolab
