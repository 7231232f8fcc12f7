import Derived.Test.YtfiekdgpdboolabQ6
import Derived.Test.YtfiekdgpdboolabV1
namespace Go.Proofs.Ytfiekdgpdboolab
open Go.RowKit Go.Maps

/-- The last of the times. -/
def lastF (l : List Int) : Int := l.foldl (fun _ x => x) 0
theorem lastF_snoc (l : List Int) (x : Int) : lastF (l ++ [x]) = x := by simp [lastF]

theorem snoc_ind {α : Type} {P : List α → Prop} (h0 : P []) (hs : ∀ l x, P l → P (l ++ [x])) (l : List α) : P l := by
  have key : ∀ n (l : List α), l.length = n → P l := by
    intro n
    induction n with
    | zero => intro l hl; rw [List.length_eq_zero_iff.1 hl]; exact h0
    | succ n ih =>
      intro l hl
      rcases List.eq_nil_or_concat l with h | ⟨l', x, h⟩
      · rw [h] at hl; simp at hl
      · rw [h, List.concat_eq_append]; exact hs l' x (ih l' (by rw [h] at hl; simpa using hl))
  exact key l.length l rfl

theorem lastB_all (f : Int) (l : List Int) (h : ∀ x ∈ l, x < f) : lastB f l = lastF l := by
  induction l using snoc_ind with
  | h0 => rfl
  | hs l x ih => rw [lastB_snoc, lastF_snoc, if_pos (h x (by simp))]

theorem lastB_le (f m : Int) (h0 : 0 ≤ m) (l : List Int) (h : ∀ x ∈ l, x ≤ m) : lastB f l ≤ m := by
  induction l using snoc_ind with
  | h0 => exact h0
  | hs l x ih =>
    rw [lastB_snoc]
    split
    · exact h x (by simp)
    · exact ih fun y hy => h y (by simp [hy])
theorem lastF_le (m : Int) (h0 : 0 ≤ m) (l : List Int) (h : ∀ x ∈ l, x ≤ m) : lastF l ≤ m := by
  induction l using snoc_ind with
  | h0 => exact h0
  | hs l x ih => rw [lastF_snoc]; exact h x (by simp)

theorem lastB_lastF (f : Int) (l : List Int) (hs : l.Pairwise (· < ·)) (hp : ∀ x ∈ l, 0 < x) : lastB f l ≤ lastF l := by
  induction l using snoc_ind with
  | h0 => exact Int.le_refl _
  | hs l x ih =>
    rw [lastF_snoc]
    rw [List.pairwise_append] at hs
    refine lastB_le f x (by have := hp x (by simp); omega) _ fun y hy => ?_
    rcases List.mem_append.1 hy with h | h
    · have := hs.2.2 y h x (by simp); omega
    · simp at h; omega

/-- How many of a word's news lie ahead of the last flush. -/
def markOf (k st lf : Int) (l : List Note3) : Nat := (l.filter fun p => decide (p.1 = k) && !decide (p.2.2 < st) && decide (p.2.2 < lf)).length

theorem markOf_snoc (k st lf : Int) (l : List Note3) (p : Note3) : markOf k st lf (l ++ [p]) = markOf k st lf l + (if p.1 = k ∧ ¬ p.2.2 < st ∧ p.2.2 < lf then 1 else 0) := by
  unfold markOf
  rw [List.filter_append, List.length_append]
  by_cases h : p.1 = k ∧ ¬ p.2.2 < st ∧ p.2.2 < lf
  · rw [if_pos h]
    obtain ⟨h1, h2, h3⟩ := h
    have : (decide (p.1 = k) && !decide (p.2.2 < st) && decide (p.2.2 < lf)) = true := by simp [h1, h3]; omega
    simp [List.filter, this]
  · rw [if_neg h]
    have : (decide (p.1 = k) && !decide (p.2.2 < st) && decide (p.2.2 < lf)) = false := by
      by_cases h1 : p.1 = k <;> by_cases h2 : p.2.2 < st <;> by_cases h3 : p.2.2 < lf <;> simp [h1, h2, h3]
      exact h ⟨h1, h2, h3⟩
    simp [List.filter, this]

theorem newsOf_none (k st : Int) (l : List Note3) (h : ∀ p ∈ l, p.2.2 < st) : newsOf k st l = [] := by
  induction l using snoc_ind with
  | h0 => rfl
  | hs l p ih => rw [newsOf_snoc, if_neg (fun e => e.2 (h p (by simp)))]; exact ih fun q hq => h q (by simp [hq])

theorem markOf_all (k st lf : Int) (l : List Note3) (h : ∀ p ∈ l, p.2.2 < lf) : markOf k st lf l = (newsOf k st l).length := by
  induction l using snoc_ind with
  | h0 => rfl
  | hs l p ih =>
    have h1 := ih fun q hq => h q (by simp [hq])
    have h2 := h p (by simp)
    rw [markOf_snoc, newsOf_snoc]
    by_cases e : p.1 = k ∧ ¬ p.2.2 < st
    · rw [if_pos ⟨e.1, e.2, h2⟩, if_pos e, h1]; simp
    · rw [if_neg (fun e' => e ⟨e'.1, e'.2.1⟩), if_neg e, h1]; rfl

theorem markOf_zero (k st : Int) (l : List Note3) : markOf k st st l = 0 := by
  induction l using snoc_ind with
  | h0 => rfl
  | hs l p ih => rw [markOf_snoc, ih, if_neg (fun e => e.2.1 e.2.2)]

def Rises (l : List Note3) : Prop := l.Pairwise fun p q => p.2.2 < q.2.2

/-- What a fence does to a word's news and its old value. -/
theorem fence_word (k st lf f0 : Int) (hle : st ≤ lf) (l : List Note3) (hs : Rises l) :
    newsOf k lf l = (newsOf k st l).drop (markOf k st lf l) ∧ oldOf k lf f0 l = (if 0 < markOf k st lf l then (newsOf k st l).getD (markOf k st lf l - 1) 0 else oldOf k st f0 l) ∧ markOf k st lf l ≤ (newsOf k st l).length := by
  induction l using snoc_ind with
  | h0 => exact ⟨rfl, rfl, Nat.le_refl _⟩
  | hs l p ih =>
    unfold Rises at hs
    rw [List.pairwise_append] at hs
    obtain ⟨a, b, c⟩ := ih hs.1
    have hlt : ∀ q ∈ l, q.2.2 < p.2.2 := fun q hq => hs.2.2 q hq p (by simp)
    rw [newsOf_snoc k lf, newsOf_snoc k st, oldOf_snoc k lf, oldOf_snoc k st, markOf_snoc]
    by_cases hk : p.1 = k
    · by_cases h1 : p.2.2 < st
      · have hn : newsOf k st l = [] := newsOf_none k st l fun q hq => by have := hlt q hq; omega
        have hm : markOf k st lf l = 0 := by rw [hn] at c; simpa using c
        rw [if_neg (show ¬ (p.1 = k ∧ ¬ p.2.2 < lf) by omega), if_neg (show ¬ (p.1 = k ∧ ¬ p.2.2 < st) by omega), if_pos (show p.1 = k ∧ p.2.2 < lf by omega), if_pos (show p.1 = k ∧ p.2.2 < st by omega), if_neg (show ¬ (p.1 = k ∧ ¬ p.2.2 < st ∧ p.2.2 < lf) by omega)]
        rw [hm] at a ⊢
        exact ⟨a, by simp, by simp⟩
      · by_cases h2 : p.2.2 < lf
        · have hn : newsOf k lf l = [] := newsOf_none k lf l fun q hq => by have := hlt q hq; omega
          have hm := markOf_all k st lf l fun q hq => by have := hlt q hq; omega
          rw [if_neg (show ¬ (p.1 = k ∧ ¬ p.2.2 < lf) by omega), if_pos (show p.1 = k ∧ ¬ p.2.2 < st by omega), if_pos (show p.1 = k ∧ p.2.2 < lf by omega), if_neg (show ¬ (p.1 = k ∧ p.2.2 < st) by omega), if_pos (show p.1 = k ∧ ¬ p.2.2 < st ∧ p.2.2 < lf by omega), hm, hn]
          refine ⟨by simp, ?_, by simp⟩
          rw [if_pos (by omega)]
          simp [List.getD_eq_getElem?_getD]
        · rw [if_pos (show p.1 = k ∧ ¬ p.2.2 < lf by omega), if_pos (show p.1 = k ∧ ¬ p.2.2 < st by omega), if_neg (show ¬ (p.1 = k ∧ p.2.2 < lf) by omega), if_neg (show ¬ (p.1 = k ∧ p.2.2 < st) by omega), if_neg (show ¬ (p.1 = k ∧ ¬ p.2.2 < st ∧ p.2.2 < lf) by omega), Nat.add_zero]
          refine ⟨by rw [a, List.drop_append_of_le_length c], ?_, by simp; omega⟩
          rw [b]
          by_cases hm : 0 < markOf k st lf l
          · rw [if_pos hm, if_pos hm]
            simp only [List.getD_eq_getElem?_getD]
            rw [List.getElem?_append_left (by omega)]
          · rw [if_neg hm, if_neg hm]
    · rw [if_neg (show ¬ (p.1 = k ∧ ¬ p.2.2 < lf) by omega), if_neg (show ¬ (p.1 = k ∧ ¬ p.2.2 < st) by omega), if_neg (show ¬ (p.1 = k ∧ p.2.2 < lf) by omega), if_neg (show ¬ (p.1 = k ∧ p.2.2 < st) by omega), if_neg (show ¬ (p.1 = k ∧ ¬ p.2.2 < st ∧ p.2.2 < lf) by omega), Nat.add_zero]
      exact ⟨a, b, c⟩

/-- The value now: the last of the news, or the old one. -/
theorem now_word (k st f0 : Int) (l : List Note3) (hs : Rises l) : nowOf k f0 l = if newsOf k st l = [] then oldOf k st f0 l else (newsOf k st l).getD ((newsOf k st l).length - 1) 0 := by
  induction l using snoc_ind with
  | h0 => rfl
  | hs l p ih =>
    unfold Rises at hs
    rw [List.pairwise_append] at hs
    have a := ih hs.1
    have hlt : ∀ q ∈ l, q.2.2 < p.2.2 := fun q hq => hs.2.2 q hq p (by simp)
    rw [nowOf_snoc, newsOf_snoc, oldOf_snoc]
    by_cases hk : p.1 = k
    · by_cases h1 : p.2.2 < st
      · have hn : newsOf k st l = [] := newsOf_none k st l fun q hq => by have := hlt q hq; omega
        rw [if_pos hk, if_neg (show ¬ (p.1 = k ∧ ¬ p.2.2 < st) by omega), if_pos (show p.1 = k ∧ p.2.2 < st by omega), hn]
        simp
      · rw [if_pos hk, if_pos (show p.1 = k ∧ ¬ p.2.2 < st by omega), if_neg (by simp)]
        simp [List.getD_eq_getElem?_getD]
    · rw [if_neg hk, if_neg (show ¬ (p.1 = k ∧ ¬ p.2.2 < st) by omega), if_neg (show ¬ (p.1 = k ∧ p.2.2 < st) by omega)]
      exact a

/-- Times are as they are told: rising, none twice, none ahead of now. -/
structure RWf (R : Rf) : Prop where
  pr : ∀ i, Rises (R.puts i)
  pb : ∀ i, ∀ p ∈ R.puts i, 0 < p.2.2 ∧ p.2.2 ≤ R.now
  fr : ∀ i, (R.fls i).Pairwise (· < ·)
  fb : ∀ i, ∀ x ∈ R.fls i, 0 < x ∧ x ≤ R.now
  fe : 0 ≤ R.fenced ∧ R.fenced ≤ R.now

/-- The program's device is the document's. -/
structure Rel (S : St) (R : Rf) : Prop where
  len : S.old.length = 64 * R.n
  n8 : R.n % 8 = 0
  nb : 8 ≤ R.n ∧ R.n ≤ 8192
  steps : S.steps = R.now
  fuse : (S.armed = false ∧ R.left = -1) ∨ (S.armed = true ∧ R.left = S.left ∧ 0 ≤ S.left)
  old : ∀ t, t < 8 * R.n → wordAt S.old (8 * t) = R.oldW t
  pd : ∀ t, t < 8 * R.n → S.pd (8 * t : Nat) = R.newsW t
  ms : ∀ t, t < 8 * R.n → S.ms (8 * t : Nat) = markOf (t % 8 : Nat) (R.settled (t / 8)) (lastF (R.fls (t / 8))) (R.puts (t / 8))
  wf : RWf R

theorem Rel.settled_le {S : St} {R : Rf} (h : Rel S R) (i : Nat) : R.settled i ≤ R.now ∧ R.settled i ≤ lastF (R.fls i) ∧ lastF (R.fls i) ≤ R.now := by
  have h0 : 0 ≤ R.now := by have := h.wf.fe; omega
  exact ⟨lastB_le _ _ h0 _ fun x hx => (h.wf.fb i x hx).2, lastB_lastF _ _ (h.wf.fr i) fun x hx => (h.wf.fb i x hx).1, lastF_le _ h0 _ fun x hx => (h.wf.fb i x hx).2⟩

theorem Rel.dead {S : St} {R : Rf} (h : Rel S R) : S.isDead = true ↔ R.left = 0 := by
  rcases h.fuse with ⟨h1, h2⟩ | ⟨h1, h2, h3⟩
  · simp [St.isDead, h1, h2]
  · simp [St.isDead, h1, h2]

theorem fuse_tick {S : St} {R : Rf} (h : Rel S R) (hl : R.left ≠ 0) : (S.tick.armed = false ∧ R.tick.left = -1) ∨ (S.tick.armed = true ∧ R.tick.left = S.tick.left ∧ 0 ≤ S.tick.left) := by
  rcases h.fuse with ⟨h1, h2⟩ | ⟨h1, h2, h3⟩
  · left
    refine ⟨h1, ?_⟩
    simp only [Rf.tick, h2]
    rw [if_neg (by omega)]
  · right
    refine ⟨h1, ?_⟩
    simp only [Rf.tick, St.tick, tick, h1, if_true]
    rw [if_pos (by omega)]
    omega

theorem RWf.tick {R : Rf} (h : RWf R) : RWf R.tick :=
  ⟨h.pr, fun i p hp => by have := h.pb i p hp; simp only [Rf.tick]; omega, h.fr, fun i x hx => by have := h.fb i x hx; simp only [Rf.tick]; omega, by have := h.fe; simp only [Rf.tick]; omega⟩

theorem rel_store {S : St} {R : Rf} (h : Rel S R) (hl : R.left ≠ 0) (t : Nat) (ht : t < 8 * R.n) (v : Int) : Rel (S.store (8 * t : Nat) v) (R.put (8 * t : Nat) v) := by
  have e1 : (((8 * t : Nat) : Int) / 64).toNat = t / 8 := by omega
  have e2 : ((8 * t : Nat) : Int) / 8 % 8 = ((t % 8 : Nat) : Int) := by omega
  have hset := h.settled_le
  have hp : ∀ i, (R.put (8 * t : Nat) v).puts i = if i = t / 8 then R.puts i ++ [(((t % 8 : Nat) : Int), v, R.now + 1)] else R.puts i := by
    intro i; simp only [Rf.put, e1, e2]
  have hn : ∀ s, (R.put (8 * t : Nat) v).newsW s = if s = t then R.newsW s ++ [v] else R.newsW s := by
    intro s
    show newsOf _ (R.settled (s / 8)) ((R.put (8 * t : Nat) v).puts (s / 8)) = _
    rw [hp]
    by_cases hi : s / 8 = t / 8
    · rw [if_pos hi, newsOf_snoc]
      have hb := (hset (s / 8)).1
      by_cases hs : s = t
      · rw [if_pos hs, if_pos ⟨by rw [hs], by show ¬ R.now + 1 < _; omega⟩]; rfl
      · rw [if_neg hs, if_neg (fun e => by have := e.1; simp only at this; omega)]; rfl
    · rw [if_neg hi, if_neg (fun e => hi (by rw [e]))]; rfl
  have ho : ∀ s, (R.put (8 * t : Nat) v).oldW s = R.oldW s := by
    intro s
    show oldOf _ (R.settled (s / 8)) (R.first (s / 8) (s % 8)) ((R.put (8 * t : Nat) v).puts (s / 8)) = _
    rw [hp]
    by_cases hi : s / 8 = t / 8
    · have hb := (hset (s / 8)).1
      rw [if_pos hi, oldOf_snoc, if_neg (fun e => by have := e.2; simp only at this; omega)]; rfl
    · rw [if_neg hi]; rfl
  exact {
    len := h.len
    n8 := h.n8
    nb := h.nb
    steps := by show S.steps + 1 = R.now + 1; rw [h.steps]
    fuse := fuse_tick h hl
    old := fun s hs => by rw [ho]; exact h.old s hs
    pd := fun s hs => by
      rw [hn]
      show (if ((8 * s : Nat) : Int) = ((8 * t : Nat) : Int) then S.pd (8 * t : Nat) ++ [v] else S.pd (8 * s : Nat)) = _
      by_cases e : s = t
      · rw [if_pos e, if_pos (by rw [e]), e, h.pd t ht]
      · rw [if_neg e, if_neg (by omega), h.pd s hs]
    ms := fun s hs => by
      show S.ms (8 * s : Nat) = markOf _ (R.settled (s / 8)) (lastF (R.fls (s / 8))) ((R.put (8 * t : Nat) v).puts (s / 8))
      rw [h.ms s hs, hp]
      by_cases hi : s / 8 = t / 8
      · have hb := (hset (s / 8)).2.2
        rw [if_pos hi, markOf_snoc, if_neg (fun e => by have := e.2.2; simp only at this; omega)]; rfl
      · rw [if_neg hi]
    wf := {
      pr := fun i => by
        rw [hp]
        by_cases hi : i = t / 8
        · rw [if_pos hi]
          unfold Rises
          rw [List.pairwise_append]
          refine ⟨h.wf.pr i, by simp, fun p hp q hq => ?_⟩
          simp at hq
          subst hq
          have := h.wf.pb i p hp
          simp only; omega
        · rw [if_neg hi]; exact h.wf.pr i
      pb := fun i p hp' => by
        rw [hp] at hp'
        show 0 < p.2.2 ∧ p.2.2 ≤ R.now + 1
        by_cases hi : i = t / 8
        · rw [if_pos hi] at hp'
          rcases List.mem_append.1 hp' with h1 | h1
          · have := h.wf.pb i p h1; omega
          · simp at h1; subst h1
            have := h.wf.fe
            simp only; omega
        · rw [if_neg hi] at hp'
          have := h.wf.pb i p hp'; omega
      fr := h.wf.fr
      fb := fun i x hx => by have := h.wf.fb i x hx; show 0 < x ∧ x ≤ R.now + 1; omega
      fe := by have := h.wf.fe; show 0 ≤ R.fenced ∧ R.fenced ≤ R.now + 1; omega } }

end Go.Proofs.Ytfiekdgpdboolab

namespace Go.Proofs.Ytfiekdgpdboolab
open Go.RowKit Go.Maps

theorem byteOf_wordAt {bs : List Int} (hb : ∀ b ∈ bs, 0 ≤ b ∧ b ≤ 255) (a i : Nat) (hi : i < 8) : byteOf (wordAt bs a) i = bs.getD (a + i) 0 := by
  have h0 := byt_getD hb (a + 0)
  have h1 := byt_getD hb (a + 1)
  have h2 := byt_getD hb (a + 2)
  have h3 := byt_getD hb (a + 3)
  have h4 := byt_getD hb (a + 4)
  have h5 := byt_getD hb (a + 5)
  have h6 := byt_getD hb (a + 6)
  have h7 := byt_getD hb (a + 7)
  unfold byteOf wordAt
  have : i = 0 ∨ i = 1 ∨ i = 2 ∨ i = 3 ∨ i = 4 ∨ i = 5 ∨ i = 6 ∨ i = 7 := by omega
  rcases this with rfl | rfl | rfl | rfl | rfl | rfl | rfl | rfl <;> simp only [gsum] at * <;> omega

theorem bytes_words {bs : List Int} (hb : ∀ b ∈ bs, 0 ≤ b ∧ b ≤ 255) (f : Nat → Int) (n : Nat) (hl : bs.length = 8 * n) (hf : ∀ t, t < n → wordAt bs (8 * t) = f t) : bs = wordsB f (8 * n) := by
  refine list_eq_getD 0 (by simp [wordsB, hl]) fun j hj => ?_
  have hj' : j < 8 * n := by omega
  have e : (wordsB f (8 * n)).getD j 0 = byteOf (f (j / 8)) (j % 8) := by simp [wordsB, List.getD_eq_getElem?_getD, hj']
  rw [e, ← hf (j / 8) (by omega), byteOf_wordAt hb _ _ (by omega)]
  congr 1
  omega

theorem rel_flush {S : St} {R : Rf} (h : Rel S R) (hl : R.left ≠ 0) (a : Int) (h0 : 0 ≤ a) (_h1 : a < 64 * (R.n : Int)) : Rel (S.flush a) (R.fl a) := by
  have hset := h.settled_le
  have hf : ∀ i, (R.fl a).fls i = if i = (a / 64).toNat then R.fls i ++ [R.now + 1] else R.fls i := fun i => by simp only [Rf.fl]
  have hs : ∀ i, (R.fl a).settled i = R.settled i := by
    intro i
    show lastB R.fenced ((R.fl a).fls i) = lastB R.fenced (R.fls i)
    rw [hf]
    by_cases hi : i = (a / 64).toNat
    · rw [if_pos hi, lastB_snoc, if_neg (by have := h.wf.fe; omega)]
    · rw [if_neg hi]
  have hn : ∀ t, (R.fl a).newsW t = R.newsW t := fun t => by
    show newsOf _ ((R.fl a).settled _) _ = _
    rw [hs]; rfl
  have ho : ∀ t, (R.fl a).oldW t = R.oldW t := fun t => by
    show oldOf _ ((R.fl a).settled _) _ _ = _
    rw [hs]; rfl
  exact {
    len := h.len
    n8 := h.n8
    nb := h.nb
    steps := by show S.steps + 1 = R.now + 1; rw [h.steps]
    fuse := fuse_tick h hl
    old := fun t ht => by rw [ho]; exact h.old t ht
    pd := fun t ht => by rw [hn]; exact h.pd t ht
    ms := fun t ht => by
      rw [hs, hf]
      show (if a - a % 64 ≤ ((8 * t : Nat) : Int) ∧ ((8 * t : Nat) : Int) < a - a % 64 + 64 then (S.pd (8 * t : Nat)).length else S.ms (8 * t : Nat)) = markOf _ _ _ (R.puts (t / 8))
      by_cases hi : t / 8 = (a / 64).toNat
      · rw [if_pos (by omega), if_pos hi, lastF_snoc, markOf_all _ _ _ _ (fun p hp => by have := h.wf.pb (t / 8) p hp; omega), h.pd t ht]; rfl
      · rw [if_neg (by omega), if_neg hi, h.ms t ht]
    wf := {
      pr := h.wf.pr
      pb := fun i p hp => by have := h.wf.pb i p hp; show 0 < p.2.2 ∧ p.2.2 ≤ R.now + 1; omega
      fr := fun i => by
        rw [hf]
        by_cases hi : i = (a / 64).toNat
        · rw [if_pos hi, List.pairwise_append]
          refine ⟨h.wf.fr i, by simp, fun x hx y hy => ?_⟩
          simp at hy
          have := h.wf.fb i x hx
          omega
        · rw [if_neg hi]; exact h.wf.fr i
      fb := fun i x hx => by
        rw [hf] at hx
        show 0 < x ∧ x ≤ R.now + 1
        by_cases hi : i = (a / 64).toNat
        · rw [if_pos hi] at hx
          rcases List.mem_append.1 hx with h2 | h2
          · have := h.wf.fb i x h2; omega
          · simp at h2; have := h.wf.fe; omega
        · rw [if_neg hi] at hx
          have := h.wf.fb i x hx; omega
      fe := by have := h.wf.fe; show 0 ≤ R.fenced ∧ R.fenced ≤ R.now + 1; omega } }

theorem fence_old (S : St) (t : Nat) (h1 : 8 * t + 8 ≤ S.old.length) (hm : S.ms (8 * t : Nat) ≤ (S.pd (8 * t : Nat)).length) (hv : ∀ v ∈ S.pd (8 * t : Nat), 0 ≤ v ∧ v < 18446744073709551616) :
    wordAt S.fence.old (8 * t) = if 0 < S.ms (8 * t : Nat) then (S.pd (8 * t : Nat)).getD (S.ms (8 * t : Nat) - 1) 0 else wordAt S.old (8 * t) := by
  have e1 : ∀ i, i < 8 → S.fence.old.getD (8 * t + i) 0 = if 0 < S.ms (8 * t : Nat) then byteOf ((S.pd (8 * t : Nat)).getD (S.ms (8 * t : Nat) - 1) 0) i else S.old.getD (8 * t + i) 0 := fun i hi => by
    have e : S.fence.old.getD (8 * t + i) 0 = S.tick.byteIn (fun _ => false) (8 * t + i) := fenced_get S.tick _ _ (by simp only [St.tick]; omega)
    rw [e]
    have e2 : 8 * ((8 * t + i) / 8) = 8 * t := by omega
    have e3 : (8 * t + i) % 8 = i := by omega
    simp only [St.byteIn, e2, e3, St.tick, true_and]
  by_cases h0 : 0 < S.ms (8 * t : Nat)
  · rw [if_pos h0]
    have hx : 0 ≤ (S.pd (8 * t : Nat)).getD (S.ms (8 * t : Nat) - 1) 0 ∧ (S.pd (8 * t : Nat)).getD (S.ms (8 * t : Nat) - 1) 0 < 18446744073709551616 := by
      refine hv _ ?_
      rw [List.getD_eq_getElem?_getD, List.getElem?_eq_getElem (by omega)]
      exact List.getElem_mem _
    conv => rhs; rw [← gsum_bytes hx]
    exact gsum_congr fun i hi => by rw [e1 i hi, if_pos h0]
  · rw [if_neg h0]
    exact gsum_congr fun i hi => by rw [e1 i hi, if_neg h0]

theorem fence_pd (S : St) (a : Int) : S.fence.pd a = (S.pd a).drop (S.ms a) ∧ S.fence.ms a = 0 := by
  simp [St.fence, St.fenced, St.tick]

theorem rel_fence {S : St} {R : Rf} (h : Rel S R) (hl : R.left ≠ 0) (hm : ∀ a, S.ms a ≤ (S.pd a).length) (hv : ∀ a, ∀ v ∈ S.pd a, 0 ≤ v ∧ v < 18446744073709551616) : Rel S.fence { R.tick with fenced := R.now + 1 } := by
  have hset := h.settled_le
  have hs : ∀ i, Rf.settled { R.tick with fenced := R.now + 1 } i = lastF (R.fls i) := fun i => lastB_all _ _ fun x hx => by have := h.wf.fb i x hx; show x < R.now + 1; omega
  have hw := fun t => fence_word (t % 8 : Nat) (R.settled (t / 8)) (lastF (R.fls (t / 8))) (R.first (t / 8) (t % 8)) (hset (t / 8)).2.1 (R.puts (t / 8)) (h.wf.pr (t / 8))
  exact {
    len := by rw [show S.fence.old.length = S.old.length by simp [St.fence, fenced_len, St.tick]]; exact h.len
    n8 := h.n8
    nb := h.nb
    steps := by show S.steps + 1 = R.now + 1; rw [h.steps]
    fuse := fuse_tick h hl
    old := fun t ht => by
      have ht' : t < 8 * R.n := ht
      rw [fence_old S t (by rw [h.len]; omega) (hm _) (hv _), h.ms t ht, h.pd t ht, h.old t ht]
      show _ = oldOf _ (Rf.settled _ _) _ _
      rw [hs]
      exact (hw t).2.1.symm
    pd := fun t ht => by
      rw [(fence_pd S _).1, h.ms t ht, h.pd t ht]
      show _ = newsOf _ (Rf.settled _ _) _
      rw [hs]
      exact (hw t).1.symm
    ms := fun t ht => by
      rw [(fence_pd S _).2, hs]
      exact (markOf_zero _ _ _).symm
    wf := {
      pr := h.wf.pr
      pb := fun i p hp => by have := h.wf.pb i p hp; show 0 < p.2.2 ∧ p.2.2 ≤ R.now + 1; omega
      fr := h.wf.fr
      fb := fun i x hx => by have := h.wf.fb i x hx; show 0 < x ∧ x ≤ R.now + 1; omega
      fe := by have := h.wf.fe; show 0 ≤ R.now + 1 ∧ R.now + 1 ≤ R.now + 1; omega } }

theorem rel_arm {S : St} {R : Rf} (h : Rel S R) (l : Int) (h0 : 0 ≤ l) : Rel (S.arm l) { R with left := l } :=
  ⟨h.len, h.n8, h.nb, h.steps, Or.inr ⟨rfl, rfl, h0⟩, h.old, h.pd, h.ms, ⟨h.wf.pr, h.wf.pb, h.wf.fr, h.wf.fb, h.wf.fe⟩⟩

theorem rel_load (m : Nat) (bs : List Int) (hl : bs.length = 64 * m) (h8 : m % 8 = 0) (hb : 8 ≤ m ∧ m ≤ 8192) : Rel (St.fresh bs) (Rf.load m bs) := {
  len := hl
  n8 := h8
  nb := hb
  steps := rfl
  fuse := Or.inl ⟨rfl, rfl⟩
  old := fun t ht => by
    show wordAt bs (8 * t) = wordAt bs (64 * (t / 8) + 8 * (t % 8))
    congr 1
    omega
  pd := fun t ht => rfl
  ms := fun t ht => rfl
  wf := ⟨fun i => List.Pairwise.nil, fun i p hp => by simp [Rf.load, Rf.fresh] at hp, fun i => List.Pairwise.nil, fun i p hp => by simp [Rf.load, Rf.fresh] at hp, ⟨Int.le_refl 0, Int.le_refl 0⟩⟩ }

theorem rel_fresh (m : Nat) (h8 : m % 8 = 0) (hb : 8 ≤ m ∧ m ≤ 8192) : Rel (St.fresh (List.replicate (64 * m) 0)) (Rf.fresh m) := {
  len := by simp [St.fresh, Rf.fresh]
  n8 := h8
  nb := hb
  steps := rfl
  fuse := Or.inl ⟨rfl, rfl⟩
  old := fun t ht => by
    show wordAt (List.replicate (64 * m) 0) (8 * t) = 0
    unfold wordAt
    have : ∀ j, (List.replicate (64 * m) (0 : Int)).getD j 0 = 0 := fun j => by
      rw [List.getD_eq_getElem?_getD, List.getElem?_replicate]; split <;> rfl
    simp only [this]
    rfl
  pd := fun t ht => rfl
  ms := fun t ht => rfl
  wf := ⟨fun i => List.Pairwise.nil, fun i p hp => by simp [Rf.fresh] at hp, fun i => List.Pairwise.nil, fun i p hp => by simp [Rf.fresh] at hp, ⟨Int.le_refl 0, Int.le_refl 0⟩⟩ }

theorem rel_now {S : St} {R : Rf} (h : Rel S R) (t : Nat) (ht : t < 8 * R.n) : R.nowW t = if S.pd (8 * t : Nat) = [] then wordAt S.old (8 * t) else (S.pd (8 * t : Nat)).getD ((S.pd (8 * t : Nat)).length - 1) 0 := by
  rw [h.pd t ht, h.old t ht]
  exact now_word _ (R.settled (t / 8)) _ _ (h.wf.pr (t / 8))

theorem rel_view {w : World} {F : Nat → Prop} {d : Nat} {S : St} {L : Lay} {R : Rf} (hd : DevAt w F d S L) (h : Rel S R) : S.view = wordsB R.nowW (64 * R.n) := by
  refine list_eq_getD 0 (by rw [St.view, viewTo_len, h.len]; simp [wordsB]) fun j hj => ?_
  rw [St.view, viewTo_len, h.len] at hj
  have e : (wordsB R.nowW (64 * R.n)).getD j 0 = byteOf (R.nowW (j / 8)) (j % 8) := by simp [wordsB, List.getD_eq_getElem?_getD, hj]
  rw [e, St.view, viewTo_get _ _ _ (by rw [h.len]; exact hj), rel_now h (j / 8) (by omega)]
  unfold St.viewIn
  by_cases hp : S.pd (8 * (j / 8) : Nat) = []
  · rw [if_pos hp, if_neg (fun e => e.2 hp), byteOf_wordAt hd.byts _ _ (by omega)]
    congr 1
    omega
  · rw [if_neg hp, if_pos ⟨rfl, hp⟩]

theorem cntW_ts (R : Rf) (t : Nat) : cntW R.newsW t = (R.tsTo t).length := by
  induction t with
  | zero => rfl
  | succ t ih =>
    rw [tsTo_succ]
    simp only [cntW, ih]
    by_cases h : R.newsW t = []
    · rw [if_pos h, if_pos h]; rfl
    · rw [if_neg h, if_neg h]; simp

def wordsOf (ts : List Nat) : List Int := ts.map fun t => ((8 * t : Nat) : Int)

theorem rising_ts {w : World} {F : Nat → Prop} {d : Nat} {S : St} {L : Lay} {R : Rf} (hd : DevAt w F d S L) (h : Rel S R) : Rising S (wordsOf (R.tsTo (8 * R.n))) := by
  constructor
  · unfold wordsOf Rf.tsTo
    rw [List.pairwise_map]
    refine (List.Pairwise.filter _ List.pairwise_lt_range).imp ?_
    intro a b hab
    omega
  · intro a
    unfold wordsOf Rf.tsTo
    rw [List.mem_map]
    constructor
    · rintro ⟨t, ht, rfl⟩
      have ht2 := List.mem_filter.1 ht
      rw [h.pd t (List.mem_range.1 ht2.1)]
      simpa using ht2.2
    · intro ha
      have hdm := hd.dom a ha
      have hl := h.len
      refine ⟨(a / 8).toNat, List.mem_filter.2 ⟨List.mem_range.2 (by omega), ?_⟩, by omega⟩
      have e : ((8 * (a / 8).toNat : Nat) : Int) = a := by omega
      have := h.pd (a / 8).toNat (by omega)
      rw [e] at this
      rw [← this]
      simpa using ha

def idxOf (a : Int) (ks : List Int) : Nat := (ks.filter fun b => decide (b < a)).length

theorem crash_wordAt (S : St) (a : Nat) (n : Nat) (h8 : a % 8 = 0) (ha : a + 8 ≤ n) (hv : ∀ v ∈ S.pd a, 0 ≤ v ∧ v < 18446744073709551616) : ∀ (ks cs bs : List Int), bs.length = n → ks.Pairwise (· < ·) → (∀ x ∈ ks, 0 ≤ x ∧ x + 8 ≤ n ∧ x % 8 = 0) →
    wordAt ((ks.zip cs).foldl S.pick bs) a = if (a : Int) ∈ ks then pickW (wordAt bs a) (S.pd a) cs (idxOf a ks) else wordAt bs a
  | [], cs, bs, _, _, _ => by simp
  | b :: ks, [], bs, _, _, _ => by
    simp only [List.zip_nil_right, List.foldl_nil]
    split
    · unfold pickW; simp
    · rfl
  | b :: ks, c :: cs, bs, hl, hp, hd => by
    rw [List.pairwise_cons] at hp
    obtain ⟨d1, d2, d3⟩ := hd b (by simp)
    have hpl : (S.pick bs (b, c)).length = n := (pick_len d1 (by simp only; omega)).trans hl
    rw [List.zip_cons_cons, List.foldl_cons, crash_wordAt S a n h8 ha hv ks cs _ hpl hp.2 (fun x hx => hd x (by simp [hx]))]
    by_cases hab : (a : Int) = b
    · have hn : (a : Int) ∉ ks := fun h => by have := hp.1 _ h; omega
      have hi : idxOf a (b :: ks) = 0 := by
        unfold idxOf
        rw [List.length_eq_zero_iff, List.filter_eq_nil_iff]
        intro x hx
        rcases List.mem_cons.1 hx with h | h
        · simp; omega
        · have := hp.1 x h; simp; omega
      rw [if_neg hn, if_pos (by rw [hab]; simp), hi]
      subst hab
      unfold St.pick pickW
      simp only [List.getD_cons_zero]
      by_cases hc : 0 < c % ((S.pd (a : Int)).length + 1 : Int)
      · rw [if_pos hc, if_pos hc]
        have hlt := Int.emod_lt_of_pos c (show (0 : Int) < (S.pd (a : Int)).length + 1 by omega)
        have e : (c % ((S.pd (a : Int)).length + 1 : Int) - 1).toNat = (c % ((S.pd (a : Int)).length + 1 : Int)).toNat - 1 := by omega
        rw [e]
        refine wordAt_same bs a (by omega) (hv _ ?_)
        rw [List.getD_eq_getElem?_getD, List.getElem?_eq_getElem (by omega)]
        exact List.getElem_mem _
      · rw [if_neg hc, if_neg hc]
    · have hw : wordAt (S.pick bs (b, c)) a = wordAt bs a := by
        unfold St.pick
        split
        · exact wordAt_other _ _ _ _ (by simp only; omega) (by simp only; omega)
        · rfl
      rw [hw]
      by_cases hm : (a : Int) ∈ ks
      · have hba : b < (a : Int) := hp.1 _ hm
        have hi : idxOf a (b :: ks) = idxOf a ks + 1 := by
          unfold idxOf
          rw [List.filter_cons, if_pos (by simpa using hba)]
          rfl
        rw [if_pos hm, if_pos (by simp [hm]), hi]
        unfold pickW
        simp only [List.getD_cons_succ]
      · rw [if_neg hm, if_neg (by simp [hm, hab])]

theorem ts_filter (R : Rf) (t : Nat) : ∀ n, t ≤ n → (R.tsTo n).filter (fun s => decide (s < t)) = R.tsTo t := by
  intro n hn
  unfold Rf.tsTo
  rw [List.filter_filter]
  induction n with
  | zero => have : t = 0 := by omega
            subst this; rfl
  | succ n ih =>
    by_cases h : t = n + 1
    · subst h
      apply List.filter_congr
      intro s hs
      have := List.mem_range.1 hs
      simp [this]
    · rw [List.range_succ, List.filter_append, ih (by omega)]
      have : decide (n < t) = false := by simp; omega
      simp [List.filter, this]

theorem idx_ts (R : Rf) (t n : Nat) (h : t ≤ n) : idxOf (8 * t : Nat) (wordsOf (R.tsTo n)) = cntW R.newsW t := by
  rw [cntW_ts, ← ts_filter R t n h]
  unfold idxOf wordsOf
  rw [List.filter_map, List.length_map]
  congr 1
  apply List.filter_congr
  intro s _
  simp only [Function.comp]
  by_cases hs : s < t
  · have h2 : ((8 * s : Nat) : Int) < ((8 * t : Nat) : Int) := by omega
    simp only [hs, h2]
  · have h2 : ¬ ((8 * s : Nat) : Int) < ((8 * t : Nat) : Int) := by omega
    simp only [hs, h2]

theorem rel_crash {w : World} {F : Nat → Prop} {d : Nat} {S : St} {L : Lay} {R : Rf} (hd : DevAt w F d S L) (h : Rel S R) (ks cs : List Int) (hR : Rising S ks) : S.crash ks cs = wordsB (R.crashW cs) (64 * R.n) := by
  obtain rfl := rising_unique hR (rising_ts hd h)
  have hl := crash_len hd _ cs hR
  rw [show 64 * R.n = 8 * (8 * R.n) by omega]
  refine bytes_words hl.2 _ _ (by rw [hl.1, h.len]; omega) fun t ht => ?_
  unfold St.crash
  rw [crash_wordAt S (8 * t) S.old.length (by omega) (by rw [h.len]; omega) (hd.vals _) _ cs S.old rfl hR.1 (fun x hx => hd.dom x ((hR.2 x).1 hx))]
  have hi := idx_ts R t (8 * R.n) (by omega)
  unfold Rf.crashW
  by_cases hm : ((8 * t : Nat) : Int) ∈ wordsOf (R.tsTo (8 * R.n))
  · rw [if_pos hm, hi, h.old t ht, h.pd t ht]
  · rw [if_neg hm, h.old t ht]
    have hn : S.pd (8 * t : Nat) = [] := Decidable.byContradiction fun hp => hm ((hR.2 _).2 hp)
    rw [h.pd t ht] at hn
    rw [hn]
    simp [pickW, Int.emod_one]

end Go.Proofs.Ytfiekdgpdboolab
