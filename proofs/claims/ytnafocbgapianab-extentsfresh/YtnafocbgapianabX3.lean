import Derived.Test.YtnafocbgapianabX2
namespace Go.Proofs.Ytnafocbgapianab
open Go.RowKit

/-- A list that was handed out. -/
structure LI where
  p : Option Addr
  cap : Nat
  L : List (Nat × Nat)
/-- A list that was spoilt, and where what is kept of it lies. -/
structure KI where
  kb : Nat
  p : Option Addr
  cap : Nat
  q : Option Addr
  cap2 : Nat
  n : Nat
  mark : Int
def KI.cells (x : KI) : Array Value := #[.slice x.p x.n x.cap, .slice x.q (x.n + 1) x.cap2, .int .i64 x.mark]
structure KI.Ok (w : World) (x : KI) : Prop where
  at_ : w.heap[x.kb]? = some (.cells #[.slice x.p x.n x.cap, .slice x.q (x.n + 1) x.cap2, .int .i64 x.mark] 79 (0, 0))
  one : MkIn w x.p x.n x.mark
  two : TlIn w x.q x.n x.mark
  le : x.n ≤ 1024
def delSt {α : Type} (st : Nat → Option α) (a : Nat) : Nat → Option α := fun b => if b = a then none else st b
theorem delSt_some {α : Type} {st : Nat → Option α} {a b : Nat} {x : α} (h : delSt st a b = some x) : b ≠ a ∧ st b = some x := by
  unfold delSt at h
  split at h
  · cases h
  · exact ⟨‹_›, h⟩
theorem setSt_some {α : Type} {st : Nat → Option α} {a b : Nat} {x y : α} (h : setSt st a x b = some y) : (b = a ∧ x = y) ∨ (b ≠ a ∧ st b = some y) := by
  unfold setSt at h
  split at h
  · cases h; exact Or.inl ⟨‹_›, rfl⟩
  · exact Or.inr ⟨‹_›, h⟩

/-- Lists beside one another: none lies in another's memory. -/
structure Env (w0 : World) (B : Nat) (Ls : Nat → Option LI) (Ks : Nat → Option KI) (w : World) : Prop where
  ls : ∀ i x, Ls i = some x → SpAt w 0 (.slice x.p x.L.length x.cap) x.L ∧ x.L.length ≤ 1024
  ks : ∀ i x, Ks i = some x → KI.Ok w x
  kt : ∀ i x, Ks i = some x → ∀ b, x.p.map (·.block) = some b ∨ x.q.map (·.block) = some b → ∃ cur, w.heap[b]? = some (.cells cur 46 (0, 0))
  ll : ∀ i j x y, i ≠ j → Ls i = some x → Ls j = some y → ∀ b, x.p.map (·.block) = some b → y.p.map (·.block) ≠ some b
  lk : ∀ i j x y, Ls i = some x → Ks j = some y → ∀ b, x.p.map (·.block) = some b → y.p.map (·.block) ≠ some b ∧ y.q.map (·.block) ≠ some b
  low : ∀ i x, Ls i = some x → ∀ b, x.p.map (·.block) = some b → B ≤ b
  keep : Keeps (fun j => B ≤ j) w0 w
  bs : B ≤ w.heap.size

theorem SpAt.block {w : World} {B : Nat} {p : Option Addr} {cap b : Nat} {L : List (Nat × Nat)} (h : SpAt w B (.slice p L.length cap) L) (hb : p.map (·.block) = some b) : B ≤ b ∧ b < w.heap.size ∧ ∃ cur, w.heap[b]? = some (.cells cur 46 (0, 0)) := by
  have e : (Value.slice p L.length cap).ownBlock = some b := by rw [ownBlock_slice]; exact hb
  have := h.lt b e
  exact ⟨this.1, this.2, own_cells h e⟩

/-- Whatever turned that is no list's. -/
theorem Env.off {w0 : World} {B : Nat} {Ls : Nat → Option LI} {Ks : Nat → Option KI} {w w' : World} {X : Nat → Prop} (h : Env w0 B Ls Ks w) (k : Keeps X w w') (hx : ∀ j cur t, X j → w.heap[j]? = some (.cells cur t (0, 0)) → t ≠ 46 ∧ t ≠ 79) (hB : ∀ j, X j → B ≤ j) : Env w0 B Ls Ks w' := by
  have n46 : ∀ b cur, w.heap[b]? = some (.cells cur 46 (0, 0)) → ¬ X b := fun b cur hb hX => (hx b cur 46 hX hb).1 rfl
  refine ⟨?_, ?_, ?_, h.ll, h.lk, h.low, h.keep.then k (fun j hj => Or.inl (hB j hj)), by have := h.bs; have := k.size; omega⟩
  · intro i x hi
    obtain ⟨h1, h2⟩ := h.ls i x hi
    refine ⟨h1.kept k (fun g hg => ?_), h2⟩
    obtain ⟨cur, hc⟩ := own_cells h1 hg
    exact n46 g cur hc
  · intro i x hi
    have hk := h.ks i x hi
    refine ⟨k.at hk.at_ (fun hX => (hx _ _ _ hX hk.at_).2 rfl), ?_, ?_, hk.le⟩
    · refine hk.one.kept k (fun b hb e => ?_)
      obtain ⟨cur, hc⟩ := h.kt i x hi b (Or.inl e)
      exact n46 b cur hc
    · refine hk.two.kept k (fun b hb e => ?_)
      obtain ⟨cur, hc⟩ := h.kt i x hi b (Or.inr e)
      exact n46 b cur hc
  · intro i x hi b hxx
    obtain ⟨cur, hc⟩ := h.kt i x hi b hxx
    exact ⟨cur, k.at hc (n46 b cur hc)⟩
theorem Env.grown {w0 : World} {B : Nat} {Ls : Nat → Option LI} {Ks : Nat → Option KI} {w w' : World} (h : Env w0 B Ls Ks w) (k : Keeps (fun j => w.heap.size ≤ j) w w') : Env w0 B Ls Ks w' :=
  h.off k (fun j cur t hj hh => by have := heap_lt hh; omega) (fun j hj => by have := h.bs; omega)

/-- One list more. -/
theorem Env.add {w0 : World} {B : Nat} {Ls : Nat → Option LI} {Ks : Nat → Option KI} {w w' : World} (h : Env w0 B Ls Ks w) (k : Keeps (fun j => w.heap.size ≤ j) w w') (i : Nat) (x : LI) (hs : SpAt w' w.heap.size (.slice x.p x.L.length x.cap) x.L) (hl : x.L.length ≤ 1024) : Env w0 B (setSt Ls i x) Ks w' := by
  have h' := h.grown k
  have hnew : ∀ b, x.p.map (·.block) = some b → w.heap.size ≤ b := fun b hb => (hs.block hb).1
  have hold : ∀ j y, Ls j = some y → ∀ b, y.p.map (·.block) = some b → b < w.heap.size := fun j y hy b hb => ((h.ls j y hy).1.block hb).2.1
  refine ⟨?_, h'.ks, h'.kt, ?_, ?_, ?_, h'.keep, h'.bs⟩
  · intro j y hy
    rcases setSt_some hy with ⟨_, rfl⟩ | ⟨_, hy⟩
    · exact ⟨hs.mono (Nat.zero_le _), hl⟩
    · exact h'.ls j y hy
  · intro a b y z hab hy hz c hc e
    rcases setSt_some hy with ⟨ea, ex⟩ | ⟨_, hy'⟩
    · rcases setSt_some hz with ⟨eb, _⟩ | ⟨_, hz'⟩
      · exact hab (ea.trans eb.symm)
      · subst ex
        have := hold _ _ hz' c e
        have := hnew c hc
        omega
    · rcases setSt_some hz with ⟨_, ez⟩ | ⟨_, hz'⟩
      · subst ez
        have := hold _ _ hy' c hc
        have := hnew c e
        omega
      · exact h.ll a b y z hab hy' hz' c hc e
  · intro a b y z hy hz c hc
    rcases setSt_some hy with ⟨rfl, rfl⟩ | ⟨_, hy⟩
    · have := hnew c hc
      constructor
      · intro e
        obtain ⟨cur, hcc⟩ := h.kt b z hz c (Or.inl e)
        have := heap_lt hcc
        omega
      · intro e
        obtain ⟨cur, hcc⟩ := h.kt b z hz c (Or.inr e)
        have := heap_lt hcc
        omega
    · exact h.lk a b y z hy hz c hc
  · intro a y hy c hc
    rcases setSt_some hy with ⟨rfl, rfl⟩ | ⟨_, hy⟩
    · have := hnew c hc; have := h.bs; omega
    · exact h.low a y hy c hc

/-- A list spoilt: it is none of the lists any more, but one of those that are kept. -/
theorem Env.spoil {w0 : World} {B : Nat} {Ls : Nat → Option LI} {Ks : Nat → Option KI} {w w' : World} (h : Env w0 B Ls Ks w) {i : Nat} {x : LI} (hi : Ls i = some x) {mark : Int} {q : Option Addr} {cap2 : Nat}
    (h1 : MkIn w' x.p x.L.length mark) (h2 : TlIn w' q x.L.length mark) (hq : ∀ b, q.map (·.block) = some b → x.p.map (·.block) = some b ∨ w.heap.size ≤ b) (hqt : ∀ b, q.map (·.block) = some b → ∃ cur, w'.heap[b]? = some (.cells cur 46 (0, 0))) (hpt : ∀ b, x.p.map (·.block) = some b → ∃ cur, w'.heap[b]? = some (.cells cur 46 (0, 0)))
    (k : Keeps (fun j => x.p.map (·.block) = some j ∨ w.heap.size ≤ j) w w') (j : Nat) :
    Env w0 B (delSt Ls i) (setSt Ks j ⟨w'.heap.size, x.p, x.cap, q, cap2, x.L.length, mark⟩) (w'.alloc (.cells #[.slice x.p x.L.length x.cap, .slice q (x.L.length + 1) cap2, .int .i64 mark] 79)) := by
  obtain ⟨hx1, hx2⟩ := h.ls i x hi
  have ka : Keeps (fun j => w'.heap.size ≤ j) w' (w'.alloc (.cells #[.slice x.p x.L.length x.cap, .slice q (x.L.length + 1) cap2, .int .i64 mark] 79)) := Keeps.of (World.grownBy_alloc w' _ none) (by simp)
  have hnw := (MapKept.heap_alloc w' (.cells #[.slice x.p x.L.length x.cap, .slice q (x.L.length + 1) cap2, .int .i64 mark] 79)).1
  have ksz := k.size
  have kk := k.then ka (fun j hj => by left; right; omega)
  have hpx : ∀ b, x.p.map (·.block) = some b → b < w.heap.size := fun b hb => (hx1.block hb).2.1
  refine ⟨?_, ?_, ?_, ?_, ?_, ?_, h.keep.then kk (fun b hb => ?_), by have := h.bs; have := kk.size; omega⟩
  · intro a y hy
    obtain ⟨hai, hy⟩ := delSt_some hy
    obtain ⟨g1, g2⟩ := h.ls a y hy
    refine ⟨g1.kept kk (fun g hg hX => ?_), g2⟩
    rw [ownBlock_slice] at hg
    rcases hX with hX | hX
    · exact h.ll a i y x hai hy hi g hg hX
    · have := (g1.block hg).2.1; omega
  · intro a y hy
    rcases setSt_some hy with ⟨_, rfl⟩ | ⟨_, hy⟩
    · refine ⟨hnw, ?_, ?_, hx2⟩
      · exact h1.kept ka (fun b hb _ => by omega)
      · exact h2.kept ka (fun b hb _ => by omega)
    · have hk := h.ks a y hy
      have nX : ∀ b, y.p.map (·.block) = some b ∨ y.q.map (·.block) = some b → ¬ (x.p.map (·.block) = some b ∨ w.heap.size ≤ b) := by
        rintro b hb (e | e)
        · rcases hb with hb | hb
          · exact (h.lk i a x y hi hy b e).1 hb
          · exact (h.lk i a x y hi hy b e).2 hb
        · obtain ⟨cur, hc⟩ := h.kt a y hy b hb
          have := heap_lt hc
          omega
      refine ⟨kk.at hk.at_ ?_, hk.one.kept kk (fun b _ e => nX b (Or.inl e)), hk.two.kept kk (fun b _ e => nX b (Or.inr e)), hk.le⟩
      rintro (e | e)
      · obtain ⟨_, _, cur, hc⟩ := hx1.block e
        exact ne_type hk.at_ hc (by decide) rfl
      · have := heap_lt hk.at_; omega
  · intro a y hy b hb
    rcases setSt_some hy with ⟨_, rfl⟩ | ⟨_, hy⟩
    · rcases hb with hb | hb
      · obtain ⟨cur, hc⟩ := hpt b hb
        exact ⟨cur, ka.at hc (by have := heap_lt hc; omega)⟩
      · obtain ⟨cur, hc⟩ := hqt b hb
        exact ⟨cur, ka.at hc (by have := heap_lt hc; omega)⟩
    · obtain ⟨cur, hc⟩ := h.kt a y hy b hb
      refine ⟨cur, kk.at hc ?_⟩
      rintro (e | e)
      · rcases hb with hb | hb
        · exact (h.lk i a x y hi hy b e).1 hb
        · exact (h.lk i a x y hi hy b e).2 hb
      · have := heap_lt hc; omega
  · intro a b y z hab hy hz c hc
    obtain ⟨_, hy⟩ := delSt_some hy
    obtain ⟨_, hz⟩ := delSt_some hz
    exact h.ll a b y z hab hy hz c hc
  · intro a b y z hy hz c hc
    obtain ⟨hai, hy⟩ := delSt_some hy
    rcases setSt_some hz with ⟨_, rfl⟩ | ⟨_, hz⟩
    · refine ⟨h.ll a i y x hai hy hi c hc, fun e => ?_⟩
      rcases hq c e with e | e
      · exact h.ll a i y x hai hy hi c hc e
      · have := ((h.ls a y hy).1.block hc).2.1; omega
    · exact h.lk a b y z hy hz c hc
  · intro a y hy c hc
    obtain ⟨_, hy⟩ := delSt_some hy
    exact h.low a y hy c hc
  · rcases hb with e | e
    · left; exact h.low i x hi b e
    · left; have := h.bs; omega

end Go.Proofs.Ytnafocbgapianab
