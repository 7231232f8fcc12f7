import Derived.Test.YtnafocbgapianabX3
namespace Go.Proofs.Ytnafocbgapianab
open Go.RowKit

/-- A pool, the statement's book, and lists beside them. -/
structure FR (w0 : World) (B d k hb : Nat) (s : Sh) (S H : Nat → Bool) (Ls : Nat → Option LI) (Ks : Nat → Option KI) (w : World) : Prop where
  env : Env w0 B Ls Ks w
  pool : PoolAt w d s S
  book : BookAt w k hb s H (hc s H)
  low : B ≤ d

variable {w0 : World} {B d k hb : Nat} {s : Sh} {S H : Nat → Bool} {Ls : Nat → Option LI} {Ks : Nat → Option KI} {w w' : World}

theorem FR.grown (h : FR w0 B d k hb s S H Ls Ks w) (kp : Keeps (fun j => w.heap.size ≤ j) w w') : FR w0 B d k hb s S H Ls Ks w' :=
  ⟨h.env.grown kp, h.pool.kept kp (by have := heap_lt h.pool.at_; omega), h.book.kept kp (by have := heap_lt h.book.at_; omega) (by have := heap_lt h.book.held; omega), h.low⟩
theorem FR.drewN (h : FR w0 B d k hb s S H Ls Ks w) (m : Nat) : FR w0 B d k hb s S H Ls Ks (w.drewN m) := h.grown (Keeps.drewN _ _ _)
theorem FR.add (h : FR w0 B d k hb s S H Ls Ks w) (kp : Keeps (fun j => w.heap.size ≤ j) w w') (i : Nat) (x : LI) (hs : SpAt w' w.heap.size (.slice x.p x.L.length x.cap) x.L) (hl : x.L.length ≤ 1024) : FR w0 B d k hb s S H (setSt Ls i x) Ks w' :=
  ⟨h.env.add kp i x hs hl, (h.grown kp).pool, (h.grown kp).book, h.low⟩

/-- A list that lies in memory. -/
theorem LI.in_ {w : World} {x : LI} (h : SpAt w 0 (.slice x.p x.L.length x.cap) x.L) : SpIn w x.p (castL x.L) := by
  obtain ⟨p, cap, hv, hin, _⟩ := h.toIn
  cases hv
  exact hin

theorem fr_spans (h : FR w0 B d k hb s S H Ls Ks w) (i : Nat) :
    Calls Try.prog 14 #[.pointer (some ⟨d, 0, none⟩)] w fun e w' => ∃ p cap, e = .returned (.slice p (sp S 0 s.pages).length cap) ∧ FR w0 B d k hb s S H (setSt Ls i ⟨p, cap, sp S 0 s.pages⟩) Ks w' := by
  refine (pspans_any w d s S h.pool).mono ?_
  rintro e w' ⟨v, rfl, h1, h2⟩
  obtain ⟨p, cap, rfl⟩ := h1.eq_slice
  have hb := (sp_bd S 0 s.pages).2
  have := h.pool.good.2.1
  exact ⟨p, cap, rfl, h.add h2 i ⟨p, cap, _⟩ h1 (by show (sp S 0 s.pages).length ≤ 1024; omega)⟩

theorem area_len (hg : s.Good) (c : Int) : areaC s c ≤ 1024 := by
  by_cases hc : 0 ≤ c ∧ c < s.cores
  · obtain ⟨n, rfl⟩ := Int.eq_ofNat_of_zero_le hc.1
    rw [(area_in (show n < s.cores by omega)).2]
    have := bord_le hg (show n + 1 ≤ s.cores by omega)
    have := hg.2.1
    omega
  · rw [(area_out hc).2]; omega

theorem fr_core (h : FR w0 B d k hb s S H Ls Ks w) (c : Int) (i : Nat) :
    Calls Try.prog 19 #[.pointer (some ⟨d, 0, none⟩), .int .i64 c] w fun e w' => ∃ p cap, e = .returned (.slice p (sp S (areaF s c) (areaC s c)).length cap) ∧ FR w0 B d k hb s S H (setSt Ls i ⟨p, cap, sp S (areaF s c) (areaC s c)⟩) Ks w' := by
  refine (pcore_any w d s S h.pool c).mono ?_
  rintro e w' ⟨v, rfl, h1, h2⟩
  obtain ⟨p, cap, rfl⟩ := h1.eq_slice
  have hb := (sp_bd S (areaF s c) (areaC s c)).2
  have := area_len h.pool.good c
  exact ⟨p, cap, rfl, h.add h2 i ⟨p, cap, _⟩ h1 (by show (sp S (areaF s c) (areaC s c)).length ≤ 1024; omega)⟩

theorem fr_copy (h : FR w0 B d k hb s S H Ls Ks w) {i : Nat} {x : LI} (hi : Ls i = some x) (j : Nat) :
    Calls Try.prog 13 #[.slice x.p x.L.length x.cap] w fun e w' => ∃ p cap, e = .returned (.slice p x.L.length cap) ∧ FR w0 B d k hb s S H (setSt Ls j ⟨p, cap, x.L⟩) Ks w' := by
  obtain ⟨g1, g2⟩ := h.env.ls i x hi
  refine (copySpans_any w x.p x.cap x.L (LI.in_ g1) (by omega)).mono ?_
  rintro e w' ⟨v, rfl, h1, h2⟩
  obtain ⟨p, cap, rfl⟩ := h1.eq_slice
  exact ⟨p, cap, rfl, h.add h2 j ⟨p, cap, x.L⟩ h1 g2⟩

theorem fr_same (h : FR w0 B d k hb s S H Ls Ks w) {i j : Nat} {x y : LI} (hi : Ls i = some x) (hj : Ls j = some y) (he : y.L = x.L) :
    Calls Try.prog 18 #[.slice x.p x.L.length x.cap, .slice y.p x.L.length y.cap] w fun e w' => e = .returned (.bool true) ∧ FR w0 B d k hb s S H Ls Ks w' := by
  obtain ⟨g1, g2⟩ := h.env.ls i x hi
  obtain ⟨f1, f2⟩ := h.env.ls j y hj
  have f3 := LI.in_ f1
  rw [he] at f3
  refine (sameSpans_yes w x.p y.p x.cap y.cap x.L (LI.in_ g1) f3 (by omega)).mono ?_
  rintro e w' ⟨rfl, m, rfl⟩
  exact ⟨rfl, h.drewN m⟩

/-- Of a pool's list with spans that are good. -/
theorem fr_count (h : FR w0 B d k hb s S H Ls Ks w) {i : Nat} {x : LI} (hi : Ls i = some x) (hn : Neat x.L) (hbd : ∀ u ∈ x.L, u.1 + u.2 ≤ 1024) (hp : (pagesOf x.L).length ≤ 100000) :
    Calls Try.prog 15 #[.slice x.p x.L.length x.cap] w fun e w' => e = .returned (.int .i64 ((pagesOf x.L).length : Nat)) ∧ w' = w := by
  obtain ⟨g1, g2⟩ := h.env.ls i x hi
  exact count_spans w x.p x.cap x.L (LI.in_ g1) g2 (fun u hu => by
    obtain ⟨i, hi, rfl⟩ := List.getElem_of_mem hu
    exact ⟨(neat_get hn i hi).1, hbd _ hu⟩) hp

theorem fr_take (h : FR w0 B d k hb s S H Ls Ks w) (core n : Nat) (h1 : core < s.cores) (hn : n ≤ cn S s.pages) (i : Nat) :
    Calls Try.prog 17 #[.pointer (some ⟨d, 0, none⟩), .int .i64 core, .int .i64 n] w fun e w' => ∃ p cap, e = .returned (.tuple #[.slice p ((tk s core S n).2.2.foldl addP []).length cap, .int .i64 0]) ∧ FR w0 B d k hb s (tk s core S n).1 H (setSt Ls i ⟨p, cap, (tk s core S n).2.2.foldl addP []⟩) Ks w' := by
  refine (take_yes w d s S h.pool core n h1 hn).mono ?_
  rintro e w' ⟨v, rfl, q1, q2, q3⟩
  obtain ⟨p, cap, rfl⟩ := q1.eq_slice
  refine ⟨p, cap, rfl, ?_⟩
  have hdl := heap_lt h.pool.at_
  have hoff : ∀ j cur t, (j = d ∨ w.heap.size ≤ j) → w.heap[j]? = some (.cells cur t (0, 0)) → t ≠ 46 ∧ t ≠ 79 := by
    rintro j cur t (rfl | e) hh
    · rw [h.pool.at_] at hh; cases hh; decide
    · have := heap_lt hh; omega
  have henv := h.env.off q3 hoff (fun j hj => by have := h.env.bs; have := h.low; omega)
  have hlen : ((tk s core S n).2.2.foldl addP []).length ≤ 1024 := by
    obtain ⟨t1, _, t3, _⟩ := tk_all h.pool.good h.pool.sup h1 hn
    have := (fold_bd (tk s core S n).2.2 (l := []) (M := s.pages) (by simp) (fun q hq => (h.pool.sup q (t3 q hq)).2)).2
    have := cn_le S s.pages
    have := h.pool.good.2.1
    simp at *
    omega
  have hadd : Env w0 B (setSt Ls i ⟨p, cap, (tk s core S n).2.2.foldl addP []⟩) Ks w' := by
    have hnew : ∀ b, p.map (·.block) = some b → w.heap.size ≤ b := fun b hb => (q1.block hb).1
    have hold : ∀ j y, Ls j = some y → ∀ b, y.p.map (·.block) = some b → b < w.heap.size := fun j y hy b hb => ((h.env.ls j y hy).1.block hb).2.1
    refine ⟨?_, henv.ks, henv.kt, ?_, ?_, ?_, henv.keep, henv.bs⟩
    · intro j y hy
      rcases setSt_some hy with ⟨_, rfl⟩ | ⟨_, hy⟩
      · exact ⟨q1.mono (Nat.zero_le _), hlen⟩
      · exact henv.ls j y hy
    · intro a b y z hab hy hz c hc e
      rcases setSt_some hy with ⟨ea, ex⟩ | ⟨_, hy'⟩
      · rcases setSt_some hz with ⟨eb, _⟩ | ⟨_, hz'⟩
        · exact hab (ea.trans eb.symm)
        · subst ex
          have := hold _ _ hz' c e
          have := hnew c hc
          omega
      · rcases setSt_some hz with ⟨_, ez⟩ | ⟨_, hz'⟩
        · subst ez
          have := hold _ _ hy' c hc
          have := hnew c e
          omega
        · exact h.env.ll a b y z hab hy' hz' c hc e
    · intro a b y z hy hz c hc
      rcases setSt_some hy with ⟨_, ex⟩ | ⟨_, hy'⟩
      · subst ex
        have := hnew c hc
        constructor
        · intro e
          obtain ⟨cur, hcc⟩ := h.env.kt b z hz c (Or.inl e)
          have := heap_lt hcc
          omega
        · intro e
          obtain ⟨cur, hcc⟩ := h.env.kt b z hz c (Or.inr e)
          have := heap_lt hcc
          omega
      · exact h.env.lk a b y z hy' hz c hc
    · intro a y hy c hc
      rcases setSt_some hy with ⟨_, ex⟩ | ⟨_, hy'⟩
      · subst ex
        have := hnew c hc; have := h.env.bs; omega
      · exact h.env.low a y hy' c hc
  exact ⟨hadd, q2, h.book.kept q3 (fun e => by
    rcases e with e | e
    · exact ne_type h.book.at_ h.pool.at_ (by decide) e
    · have := heap_lt h.book.at_; omega) (fun e => by
    rcases e with e | e
    · exact ne_type h.book.held h.pool.at_ (by decide) e
    · have := heap_lt h.book.held; omega), h.low⟩

theorem fr_spoil (h : FR w0 B d k hb s S H Ls Ks w) {i : Nat} {x : LI} (hi : Ls i = some x) (mark : Int) (j : Nat) :
    Calls Try.prog 35 #[.slice x.p x.L.length x.cap, .int .i64 mark] w fun e w' => ∃ q cap2, e = .returned (.agg #[.slice x.p x.L.length x.cap, .slice q (x.L.length + 1) cap2, .int .i64 mark]) ∧
      FR w0 B d k hb s S H (delSt Ls i) (setSt Ks j ⟨w'.heap.size, x.p, x.cap, q, cap2, x.L.length, mark⟩) (w'.alloc (.cells #[.slice x.p x.L.length x.cap, .slice q (x.L.length + 1) cap2, .int .i64 mark] 79)) := by
  obtain ⟨g1, g2⟩ := h.env.ls i x hi
  refine (spoil_any w 0 x.p x.cap x.L mark g1 (by omega) (Nat.zero_le _)).mono ?_
  rintro e w' ⟨q, cap2, rfl, q1, q2, q3, q4, q5⟩
  refine ⟨q, cap2, rfl, h.env.spoil hi q1 q2 q3 (fun b hb => q4 b (Or.inr hb)) (fun b hb => q4 b (Or.inl hb)) q5 j, ?_, ?_, h.low⟩
  · have ka : Keeps (fun j => w'.heap.size ≤ j) w' (w'.alloc (.cells #[.slice x.p x.L.length x.cap, .slice q (x.L.length + 1) cap2, .int .i64 mark] 79)) := Keeps.of (World.grownBy_alloc w' _ none) (by simp)
    have hp := h.pool.kept q5 (fun e => by
      rcases e with e | e
      · obtain ⟨_, _, cur, hc⟩ := g1.block e
        exact ne_type h.pool.at_ hc (by decide) rfl
      · have := heap_lt h.pool.at_; omega)
    exact hp.kept ka (by have := heap_lt hp.at_; omega)
  · have ka : Keeps (fun j => w'.heap.size ≤ j) w' (w'.alloc (.cells #[.slice x.p x.L.length x.cap, .slice q (x.L.length + 1) cap2, .int .i64 mark] 79)) := Keeps.of (World.grownBy_alloc w' _ none) (by simp)
    have hp := h.book.kept q5 (fun e => by
      rcases e with e | e
      · obtain ⟨_, _, cur, hc⟩ := g1.block e
        exact ne_type h.book.at_ hc (by decide) rfl
      · have := heap_lt h.book.at_; omega) (fun e => by
      rcases e with e | e
      · obtain ⟨_, _, cur, hc⟩ := g1.block e
        exact ne_type h.book.held hc (by decide) rfl
      · have := heap_lt h.book.held; omega)
    exact hp.kept ka (by have := heap_lt hp.at_; omega) (by have := heap_lt hp.held; omega)

theorem fr_spoilt (h : FR w0 B d k hb s S H Ls Ks w) {j : Nat} {x : KI} (hj : Ks j = some x) :
    Calls Try.prog 36 #[.agg #[.slice x.p x.n x.cap, .slice x.q (x.n + 1) x.cap2, .int .i64 x.mark], .int .i64 x.n] w fun e w' => e = .returned (.bool true) ∧ FR w0 B d k hb s S H Ls Ks w' := by
  have hk := h.env.ks j x hj
  refine (spoilt_any w x.p x.q x.cap x.cap2 x.n x.mark hk.one hk.two (by have := hk.le; omega)).mono ?_
  rintro e w' ⟨rfl, h2⟩
  exact ⟨rfl, h.grown h2⟩

theorem fr_kept (h : FR w0 B d k hb s S H Ls Ks w) {j : Nat} {x : KI} (hj : Ks j = some x) :
    w.cell? ⟨x.kb, 0, none⟩ = some (.slice x.p x.n x.cap) ∧ w.cell? ⟨x.kb, 1, none⟩ = some (.slice x.q (x.n + 1) x.cap2) ∧ w.cell? ⟨x.kb, 2, none⟩ = some (.int .i64 x.mark) := by
  have := cells3 (h.env.ks j x hj).at_
  exact ⟨this.1, this.2.1, this.2.2.1⟩

/-- The pages of a list that was taken, given back. -/
theorem fr_back (h : FR w0 B d k hb s S H Ls Ks w) (p : Option Addr) (cap : Nat) (T : List Nat) (hin : IntIn w p (T.map fun q : Nat => (q : Int))) (hT : ∀ q ∈ T, S q = false ∧ s.data ≤ q ∧ q < s.pages) (hn : T.Nodup) (hl : T.length ≤ 2000) :
    Calls Try.prog 21 #[.pointer (some ⟨d, 0, none⟩), .slice p T.length cap] w fun e w' => e = .returned (.int .i64 0) ∧ FR w0 B d k hb s (setH S T) H Ls Ks w' := by
  have hall : (T.map fun q : Nat => (q : Int)).all (inD s) = true := by
    rw [List.all_eq_true]
    intro x hx
    rw [List.mem_map] at hx
    obtain ⟨q, hq, rfl⟩ := hx
    have := hT q hq
    exact inD_iff.2 ⟨by omega, by omega⟩
  have hg := give_in w d s S h.pool p cap _ hin (by simp [maxLen]; omega) hall
  rw [List.length_map, map_toNat, gv_all T S hn (fun q hq => (hT q hq).1)] at hg
  refine hg.mono ?_
  rintro e w' (⟨h0, _⟩ | ⟨S', h0, rfl, h1, h2⟩)
  · cases h0
  · cases h0
    have hoff : ∀ j cur t, (j = d ∨ w.heap.size ≤ j) → w.heap[j]? = some (.cells cur t (0, 0)) → t ≠ 46 ∧ t ≠ 79 := by
      rintro j cur t (rfl | e) hh
      · rw [h.pool.at_] at hh; cases hh; decide
      · have := heap_lt hh; omega
    refine ⟨rfl, h.env.off h2 hoff (fun j hj => by have := h.env.bs; have := h.low; omega), h1, h.book.kept h2 (fun e => by
      rcases e with e | e
      · exact ne_type h.book.at_ h.pool.at_ (by decide) e
      · have := heap_lt h.book.at_; omega) (fun e => by
      rcases e with e | e
      · exact ne_type h.book.held h.pool.at_ (by decide) e
      · have := heap_lt h.book.held; omega), h.low⟩

theorem fr_pages (h : FR w0 B d k hb s S H Ls Ks w) {i : Nat} {x : LI} (hi : Ls i = some x) (hbd : ∀ u ∈ x.L, u.1 + u.2 ≤ 1024) (hp : (pagesOf x.L).length ≤ 100000) :
    Calls Try.prog 22 #[.slice x.p x.L.length x.cap] w fun e w' => ∃ p cap, e = .returned (.slice p (pagesOf x.L).length cap) ∧ IntIn w' p ((pagesOf x.L).map fun q : Nat => (q : Int)) ∧ FR w0 B d k hb s S H Ls Ks w' := by
  obtain ⟨g1, g2⟩ := h.env.ls i x hi
  refine (pagesOf_any w x.p x.cap x.L (LI.in_ g1) g2 hbd hp).mono ?_
  rintro e w' ⟨v, rfl, h1, h2⟩
  obtain ⟨p, cap, rfl, hin, _⟩ := h1.toIn
  exact ⟨p, cap, rfl, hin, h.grown h2⟩

end Go.Proofs.Ytnafocbgapianab
