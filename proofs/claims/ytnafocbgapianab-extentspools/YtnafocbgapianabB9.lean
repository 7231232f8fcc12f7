import Derived.Test.YtnafocbgapianabB8
namespace Go.Proofs.Ytnafocbgapianab
open Go.RowKit

/-- A pool and its book: what is free is what isn't held; their blocks lie from B on; nothing below B has turned since w0. -/
structure Duo (w0 : World) (B d k hb : Nat) (s : Sh) (S H : Nat → Bool) (w : World) : Prop where
  pool : PoolAt w d s S
  book : BookAt w k hb s H (hc s H)
  mark : ∀ j, s.data ≤ j → j < s.pages → S j = !H j
  dk : d ≠ k ∧ d ≠ hb
  low : B ≤ d ∧ B ≤ k ∧ B ≤ hb
  keep : Keeps (fun j => B ≤ j) w0 w

theorem Duo.num {w0 : World} {B d k hb : Nat} {s : Sh} {S H : Nat → Bool} {w : World} (h : Duo w0 B d k hb s S H w) : cn S s.pages + hc s H + s.data = s.pages := mark_num h.pool.good h.pool.sup h.mark
theorem Duo.agree {w0 : World} {B d k hb : Nat} {s : Sh} {S H : Nat → Bool} {w : World} (h : Duo w0 B d k hb s S H w) : Agree s S H (hc s H) := ⟨h.mark, h.num⟩
theorem Duo.grown {w0 : World} {B d k hb : Nat} {s : Sh} {S H : Nat → Bool} {w w' : World} (h : Duo w0 B d k hb s S H w) (kp : Keeps (fun j => w.heap.size ≤ j) w w') : Duo w0 B d k hb s S H w' := by
  have h1 := heap_lt h.pool.at_
  have h2 := heap_lt h.book.at_
  have h3 := heap_lt h.book.held
  exact ⟨h.pool.kept kp (by omega), h.book.kept kp (by omega) (by omega), h.mark, h.dk, h.low, h.keep.then kp (fun j hj => by have := h.low; left; omega)⟩
theorem Duo.drewN {w0 : World} {B d k hb : Nat} {s : Sh} {S H : Nat → Bool} {w : World} (h : Duo w0 B d k hb s S H w) (m : Nat) : Duo w0 B d k hb s S H (w.drewN m) := h.grown (Keeps.drewN _ _ _)

theorem duo_agrees {w0 : World} {B d k hb : Nat} {s : Sh} {S H : Nat → Bool} {w : World} (h : Duo w0 B d k hb s S H w) :
    Calls Try.prog 33 #[.pointer (some ⟨k, 0, none⟩), .pointer (some ⟨d, 0, none⟩)] w fun e w' => e = .returned (.bool true) ∧ Duo w0 B d k hb s S H w' ∧ Keeps (fun j => w.heap.size ≤ j) w w' :=
  (agrees_any w d k hb s S H (hc s H) h.pool h.book h.agree).mono fun _ _ ⟨q1, q2⟩ => ⟨q1, h.grown q2, q2⟩

/-- Pages that were held, ahead of their giving back. -/
def Mid (w0 : World) (B d k hb : Nat) (s : Sh) (S H : Nat → Bool) (n : Nat) (C : Nat) (v : Value) (w : World) : Prop :=
  ∃ T H', NumAt w C v T ∧ Gathered s H n H' T ∧ (T.length = n ∨ ∀ j, s.data ≤ j → j < s.pages → H' j = false) ∧ BookAt w k hb s H' (hc s H') ∧ PoolAt w d s S ∧ (∀ j, s.data ≤ j → j < s.pages → S j = !H j) ∧ (d ≠ k ∧ d ≠ hb) ∧ (B ≤ d ∧ B ≤ k ∧ B ≤ hb) ∧ Keeps (fun j => B ≤ j) w0 w ∧ B ≤ C ∧ (d < C ∧ k < C ∧ hb < C)

theorem duo_some {w0 : World} {B d k hb : Nat} {s : Sh} {S H : Nat → Bool} {w : World} (h : Duo w0 B d k hb s S H w) (n at_ : Nat) (hn : n ≤ 2000) (hat : at_ ≤ 2000) :
    Calls Try.prog 42 #[.pointer (some ⟨k, 0, none⟩), .int .i64 n, .int .i64 at_] w fun e w' => ∃ v, e = .returned v ∧ Mid w0 B d k hb s S H n w.heap.size v w' ∧ Keeps (fun j => (j = k ∨ j = hb) ∨ w.heap.size ≤ j) w w' := by
  refine (some_any w k hb s h.pool.good H h.book n at_ hn hat).mono ?_
  rintro e w' ⟨v, he, T, H', q1, q2, q3, q4, q5⟩
  have h1 := heap_lt h.pool.at_
  have h2 := heap_lt h.book.at_
  have h3 := heap_lt h.book.held
  have hl := h.low
  have hd := h.dk
  have hk := h.keep.size
  exact ⟨v, he, ⟨T, H', q1, q2, q3, q4, h.pool.kept q5 (by omega), h.mark, h.dk, h.low, h.keep.then q5 (fun j hj => by left; omega), by omega, by omega⟩, q5⟩

theorem map_toNat (T : List Nat) : (T.map fun q : Nat => (q : Int)).map Int.toNat = T := by
  rw [List.map_map]
  have : (Int.toNat ∘ fun q : Nat => (q : Int)) = id := by funext q; simp
  rw [this]; simp

theorem mid_give {w0 : World} {B d k hb C : Nat} {s : Sh} {S H : Nat → Bool} {n : Nat} {v : Value} {w : World} (h : Mid w0 B d k hb s S H n C v w) :
    Calls Try.prog 21 #[.pointer (some ⟨d, 0, none⟩), v] w fun e w' => e = .returned (.int .i64 0) ∧ (∃ S' H', Duo w0 B d k hb s S' H' w') ∧ Keeps (fun j => j = d ∨ w.heap.size ≤ j) w w' := by
  obtain ⟨T, H', q1, q2, q3, q4, q5, q6, q7, q8, q9, q10, q11⟩ := h
  obtain ⟨p, cap, hv, hin, hown⟩ := q1.toIn
  have hfree : ∀ q ∈ T, S q = false := fun q hq => by
    have := q2.mem q hq
    rw [q6 q this.1 this.2.1, this.2.2]; rfl
  have hall : (T.map fun q : Nat => (q : Int)).all (inD s) = true := by
    rw [List.all_eq_true]
    intro x hx
    rw [List.mem_map] at hx
    obtain ⟨q, hq, rfl⟩ := hx
    have := q2.mem q hq
    exact inD_iff.2 ⟨by omega, by omega⟩
  have hlen : (T.map fun q : Nat => (q : Int)).length = T.length := by simp
  have hTn : T.length ≤ maxLen := by
    have h1 := q2.num
    have h2 := hc_le s H
    have h3 := q5.good.2.1
    unfold maxLen; omega
  have hg := give_in w d s S q5 p cap _ hin (by rw [hlen]; exact hTn) hall
  rw [hlen, map_toNat, gv_all T S q2.nodup hfree] at hg
  rw [hv]
  refine hg.mono ?_
  rintro e w' (⟨h0, _⟩ | ⟨S', h0, h1, h2, h3⟩)
  · cases h0
  · cases h0
    have l1 := heap_lt q5.at_
    have l2 := heap_lt q4.at_
    have l3 := heap_lt q4.held
    refine ⟨h1, ⟨setH S T, H', h2, q4.kept h3 (by omega) (by omega), ?_, q7, q8, q9.then h3 (fun j hj => by left; omega)⟩, h3⟩
    intro j hj1 hj2
    unfold setH
    rw [q2.left j, q6 j hj1 hj2]
    cases H j <;> simp

/-- What is told by Take, ahead of its writing down. -/
def Got (w0 : World) (B d k hb : Nat) (s : Sh) (H : Nat → Bool) (n : Nat) (C : Nat) (v : Value) (w : World) : Prop :=
  ∃ T S', SpAt w C v (T.foldl addP []) ∧ T.length = n ∧ T.Nodup ∧ (∀ q ∈ T, s.data ≤ q ∧ q < s.pages ∧ H q = false) ∧ BookAt w k hb s H (hc s H) ∧ PoolAt w d s S' ∧ (∀ j, s.data ≤ j → j < s.pages → S' j = !(setH H T) j) ∧ (d ≠ k ∧ d ≠ hb) ∧ (B ≤ d ∧ B ≤ k ∧ B ≤ hb) ∧ Keeps (fun j => B ≤ j) w0 w ∧ B ≤ C ∧ (d < C ∧ k < C ∧ hb < C)

theorem duo_take {w0 : World} {B d k hb : Nat} {s : Sh} {S H : Nat → Bool} {w : World} (h : Duo w0 B d k hb s S H w) (core n : Nat) (hc1 : core < s.cores) (hn : n ≤ cn S s.pages) :
    Calls Try.prog 17 #[.pointer (some ⟨d, 0, none⟩), .int .i64 core, .int .i64 n] w fun e w' => ∃ v, e = .returned (.tuple #[v, .int .i64 0]) ∧ Got w0 B d k hb s H n w.heap.size v w' ∧ Keeps (fun j => j = d ∨ w.heap.size ≤ j) w w' := by
  refine (take_yes w d s S h.pool core n hc1 hn).mono ?_
  rintro e w' ⟨v, he, q1, q2, q3⟩
  obtain ⟨t1, t2, t3, t4⟩ := tk_all h.pool.good h.pool.sup hc1 hn
  generalize (tk s core S n).2.2 = T at *
  generalize (tk s core S n).1 = S' at *
  have l1 := heap_lt h.pool.at_
  have l2 := heap_lt h.book.at_
  have l3 := heap_lt h.book.held
  have hl := h.low
  have hd := h.dk
  have hk := h.keep.size
  refine ⟨v, he, ⟨T, S', q1, t1, t2, ?_, h.book.kept q3 (by omega) (by omega), q2, ?_, h.dk, h.low, h.keep.then q3 (fun j hj => by left; omega), by omega, by omega⟩, q3⟩
  · intro q hq
    have h1 := t3 q hq
    have h2 := h.pool.sup q h1
    refine ⟨h2.1, h2.2, ?_⟩
    rw [h.mark q h2.1 h2.2] at h1
    cases hx : H q <;> simp_all
  · intro j hj1 hj2
    rw [t4 j, h.mark j hj1 hj2]
    unfold setH
    cases H j <;> simp

theorem got_took {w0 : World} {B d k hb C : Nat} {s : Sh} {H : Nat → Bool} {n : Nat} {v : Value} {w : World} (h : Got w0 B d k hb s H n C v w) (hn : n ≤ 1024) :
    Calls Try.prog 43 #[.pointer (some ⟨k, 0, none⟩), v] w fun e w' => e = .returned (.bool true) ∧ (∃ S' H', Duo w0 B d k hb s S' H' w' ∧ hc s H' = hc s H + n) ∧ Keeps (fun j => j = k ∨ j = hb) w w' := by
  obtain ⟨T, S', q1, q2, q3, q4, q5, q6, q7, q8, q9, q10, q11, q12⟩ := h
  obtain ⟨p, cap, hv, hin, hown⟩ := q1.toIn
  have hpg : pagesOf (T.foldl addP []) = T := by rw [pagesOf_fold]; simp [pagesOf]
  have hbd := fold_bd T (l := []) (M := s.pages) (by simp) (fun q hq => (q4 q hq).2.1)
  have hl := q1.lt
  have hcle := hc_le s H
  have hp10 := q6.good.2.1
  have hcs := hc_setH (s := s) (H := H) T q3 q4
  have hcle2 := hc_le s (setH H T)
  have ht := took_any w k hb s q6.good H (hc s H) q5 p cap (T.foldl addP []) hin (fun b hb' => by
    have h1 := (hl b (hown b hb')).1
    omega) (neat_fold _ _ trivial) (by rw [hpg]; exact q3) (by rw [hpg]; exact q4) (by rw [hpg, q2]; omega) (by have := hbd.2; simp at this; omega)
  rw [hpg, q2] at ht
  rw [hv]
  refine ht.mono ?_
  rintro e w' ⟨h1, h2, h3⟩
  rw [q2] at hcs
  rw [← hcs] at h2
  refine ⟨h1, ⟨S', setH H T, ⟨q6.kept h3 (by omega), h2, q7, q8, q9, q10.then h3 (fun j hj => by left; omega)⟩, hcs⟩, h3⟩

/-- took of nothing. -/
theorem duo_took_nil {w0 : World} {B d k hb : Nat} {s : Sh} {S H : Nat → Bool} {w : World} (h : Duo w0 B d k hb s S H w) :
    Calls Try.prog 43 #[.pointer (some ⟨k, 0, none⟩), .slice none 0 0] w fun e w' => e = .returned (.bool true) ∧ Duo w0 B d k hb s S H w' ∧ Keeps (fun j => j = k ∨ j = hb) w w' := by
  have hcle := hc_le s H
  have hp10 := h.pool.good.2.1
  refine (took_any w k hb s h.pool.good H (hc s H) h.book none 0 [] (fun h => by simp [castL] at h) (by simp) trivial (by simp [pagesOf]) (by simp [pagesOf]) (by simp [pagesOf]; omega) (by simp)).mono ?_
  rintro e w' ⟨h1, h2, h3⟩
  have e1 : pagesOf [] = [] := rfl
  rw [e1, setH_nil] at h2
  have hl := h.low
  have hd := h.dk
  exact ⟨h1, ⟨h.pool.kept h3 (by omega), by simpa using h2, h.mark, h.dk, h.low, h.keep.then h3 (fun j hj => by left; omega)⟩, h3⟩

end Go.Proofs.Ytnafocbgapianab
