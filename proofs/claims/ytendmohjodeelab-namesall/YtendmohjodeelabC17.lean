import Derived.Test.YtendmohjodeelabC16
import Derived.Test.YtendmohjodeelabC13
namespace Go.Proofs.Ytendmohjodeelab
open Go.RowKit Go.Maps Go.Great

section
variable {w0 w : World} {x bm y : Nat} {S1 S2 : List Rw} {N : Nat} {t : OpT}
theorem p2_list0 (h : Hid (P2 w0 w x bm y S1 S2 N t)) : Calls Try.prog 44 #[.pointer (some ⟨y, 0, none⟩), .int .i64 t.d] w fun e w' => ∃ p c, e = .returned (.slice p (lstS S2 t.d).length c) ∧ Hid (P2 w0 w' x bm y S1 S2 N t) ∧ Hid (DSl w' (.slice p (lstS S2 t.d).length c) (lstS S2 t.d)) ∧ w'.cell? ⟨N, 3, none⟩ = some (.int .i64 t.d) := by
  refine (ref_list w y S2 h.out.rf t.d (by have := h.out.few; omega)).mono ?_
  rintro e w' ⟨p, c, rfl, H⟩
  have hp := h.out.grown H.out.2
  exact ⟨p, c, rfl, hp, H.out.1.dsl, hp.cells.1⟩
theorem p2_all1 (h : Hid (P2 w0 w x bm y S1 S2 N t)) {v1 : Value} {L1 : List De} (h1 : Hid (DSl w v1 L1)) (n : Nat) (hn : (lstS S1 t.d).length ≤ n) : Calls Try.prog 45 #[.pointer (some ⟨x, 0, none⟩), .int .i64 t.d, .int .i64 n] w fun e w' => ∃ v, e = .returned v ∧ Hid (P2 w0 w' x bm y S1 S2 N t) ∧ Hid (DSl w' v (lstS S1 t.d)) ∧ Hid (DSl w' v1 L1) ∧ w'.cell? ⟨N, 3, none⟩ = some (.int .i64 t.d) := by
  refine (all_walk w x bm S1 h.out.ix t.d n (by have := h.out.few; omega) (by omega)).mono ?_
  rintro e w' ⟨v, rfl, H⟩
  have hp := h.out.grown H.out.2
  exact ⟨v, rfl, hp, DSl.of_row H.out.1 rfl, h1.out.grown H.out.2, hp.cells.1⟩
theorem p2_all2 (h : Hid (P2 w0 w x bm y S1 S2 N t)) {v1 v2 : Value} {L1 L2 : List De} (h1 : Hid (DSl w v1 L1)) (h2 : Hid (DSl w v2 L2)) (n : Nat) (hn : (lstS S1 t.d).length ≤ n) : Calls Try.prog 45 #[.pointer (some ⟨x, 0, none⟩), .int .i64 t.d, .int .i64 n] w fun e w' => ∃ v, e = .returned v ∧ Hid (P2 w0 w' x bm y S1 S2 N t) ∧ Hid (DSl w' v (lstS S1 t.d)) ∧ Hid (DSl w' v1 L1) ∧ Hid (DSl w' v2 L2) := by
  refine (all_walk w x bm S1 h.out.ix t.d n (by have := h.out.few; omega) (by omega)).mono ?_
  rintro e w' ⟨v, rfl, H⟩
  have hp := h.out.grown H.out.2
  exact ⟨v, rfl, hp, DSl.of_row H.out.1 rfl, h1.out.grown H.out.2, h2.out.grown H.out.2⟩
theorem p2_same2 (h : Hid (P2 w0 w x bm y S1 S2 N t)) {v1 v2 v3 : Value} {L1 L2 L3 : List De} (h1 : Hid (DSl w v1 L1)) (h2 : Hid (DSl w v2 L2)) (h3 : Hid (DSl w v3 L3)) (hl : L1.length < 4000000000000) (r : Bool) (hr : decide (L1 = L2) = r) : Calls Try.prog 16 #[v1, v2] w fun e w' => e = .returned (.bool r) ∧ Hid (P2 w0 w' x bm y S1 S2 N t) ∧ Hid (DSl w' v2 L2) ∧ Hid (DSl w' v3 L3) := by
  refine (same_any w v1 v2 L1 L2 h1.out h2.out (by omega)).mono ?_
  rintro e w' ⟨rfl, H⟩
  have hp := h.out.grown H
  exact ⟨by rw [hr], hp, h2.out.grown H, h3.out.grown H⟩
end

set_option maxHeartbeats 4000000 in
set_option maxRecDepth 100000 in
theorem plays_all (w : World) (x bm y : Nat) (S : List Rw) (h : PlIn w x bm y S) (a b d : Int) (s : ByteArray) (i : Int) :
    Calls Try.prog 33 #[.pointer (some ⟨x, 0, none⟩), .pointer (some ⟨y, 0, none⟩), .agg #[.int .i64 7, .int .i64 a, .int .i64 b, .int .i64 d, .string s, .int .i64 i]] w fun e w' => e = .returned (.bool true) ∧ Hid (P2 w w' x bm y S S w.heap.size ⟨7, a, b, d, s, i⟩) := by
  obtain ⟨D, ht⟩ := h.ix.tie
  have HP : Hid (P2 w (w.alloc (.cells #[.int .i64 7, .int .i64 a, .int .i64 b, .int .i64 d, .string s, .int .i64 i] 39)) x bm y S S w.heap.size ⟨7, a, b, d, s, i⟩) := pl_start h ht.rise ⟨7, a, b, d, s, i⟩
  have hLL : (lstS S d).length < 4000000000000 := by rw [lst_len]; have := filt_le S (inDir d); have := h.few; omega
  obtain ⟨c3, c4, c5⟩ := HP.out.cells
  clear h ht
  go_enter Try.func33, Try.ntmps33
  go_wp2_with (first
    | (go_at_call 44; refine (p2_list0 HP).mono ?_; clear HP; rintro e w2 ⟨p2, q2, rfl, HP, D1, c3⟩)
    | (go_at_call 45; (first
        | (refine (p2_all2 HP D1 D2 _ (Nat.le_refl _)).mono ?_; clear HP D1 D2; rintro e w4 ⟨v3, rfl, HP, D3, D1, D2⟩)
        | (refine (p2_all1 HP D1 _ (Nat.le_refl _)).mono ?_; clear HP D1; rintro e w3 ⟨v2, rfl, HP, D2, D1, c3⟩)))
    | (go_at_call 16; (first
        | (refine (p2_same2 HP D2 D1 D3 hLL true (by simp)).mono ?_; clear HP D1 D2 D3; rintro e w5 ⟨rfl, HP, D1, D3⟩)
        | (refine (p2_same HP D3 D1 hLL true (by simp)).mono ?_; clear HP D1 D3; rintro e w6 ⟨rfl, HP, c3⟩))))
  all_goals
    go_ret
    exact ⟨ret_bool (by simp), HP⟩

theorem plays_of_get (t : OpT) (ho : OpOk t) (h : t.k = 3) : Plays t := by
  obtain ⟨k, a, b, d, s, i⟩ := t
  simp only at h
  subst h
  intro w x bm y S hp
  refine (plays_get w x bm y S hp a b d s i ho.1).mono ?_
  rintro e w' ⟨rfl, H⟩
  exact ⟨rfl, H.out.ix, H.out.rf, H.out.keep⟩
theorem plays_of_len (t : OpT) (h : t.k = 4) : Plays t := by
  obtain ⟨k, a, b, d, s, i⟩ := t
  simp only at h
  subst h
  intro w x bm y S hp
  refine (plays_len w x bm y S hp a b d s i).mono ?_
  rintro e w' ⟨rfl, H⟩
  exact ⟨rfl, H.out.ix, H.out.rf, H.out.keep⟩
theorem plays_of_links (t : OpT) (h : t.k = 5) : Plays t := by
  obtain ⟨k, a, b, d, s, i⟩ := t
  simp only at h
  subst h
  intro w x bm y S hp
  refine (plays_links w x bm y S hp a b d s i).mono ?_
  rintro e w' ⟨rfl, H⟩
  exact ⟨rfl, H.out.ix, H.out.rf, H.out.keep⟩
theorem plays_of_list (t : OpT) (h : t.k = 6) : Plays t := by
  obtain ⟨k, a, b, d, s, i⟩ := t
  simp only at h
  subst h
  intro w x bm y S hp
  refine (plays_list w x bm y S hp a b d s i).mono ?_
  rintro e w' ⟨rfl, H⟩
  exact ⟨rfl, H.out.ix, H.out.rf, H.out.keep⟩
theorem plays_of_all (t : OpT) (h : t.k = 7) : Plays t := by
  obtain ⟨k, a, b, d, s, i⟩ := t
  simp only at h
  subst h
  intro w x bm y S hp
  refine (plays_all w x bm y S hp a b d s i).mono ?_
  rintro e w' ⟨rfl, H⟩
  exact ⟨rfl, H.out.ix, H.out.rf, H.out.keep⟩

theorem lists_law (w : World) (p : Option Addr) (cap : Nat) (l : List OpT) (hp : OpIn w p l) (hok : ∀ t ∈ l, OpOk t) (hn : l.length < 3000000000000) :
    Calls Try.prog 6 #[.slice p l.length cap] w fun e w' => e = .returned (.bool true) ∧ Keeps (fun _ => False) w w' := by
  have h21 := upto_any w p cap l hp hok hn true 6 7 (fun t ho hm _ => by
    rcases hm with h | h | h | h
    · exact plays_of_put t h
    · exact plays_of_drop t ho h
    · exact plays_of_clear t h
    · have : t.k = 6 ∨ t.k = 7 := by omega
      rcases this with h | h
      · exact plays_of_list t h
      · exact plays_of_all t h)
  go_enter Try.func6, Try.ntmps6
  go_wp2_with (first | (go_at_call 21; refine h21.mono ?_; rintro e w1 ⟨rfl, hk⟩))
  go_ret
  exact ⟨rfl, hk⟩

theorem all_law (w : World) (p : Option Addr) (cap : Nat) (l : List OpT) (hp : OpIn w p l) (hok : ∀ t ∈ l, OpOk t) (hn : l.length < 3000000000000) :
    Calls Try.prog 7 #[.slice p l.length cap] w fun e w' => e = .returned (.bool true) ∧ Keeps (fun _ => False) w w' := by
  have h21 := upto_any w p cap l hp hok hn false 3 7 (fun t ho hm _ => by
    rcases hm with h | h | h | h
    · exact plays_of_put t h
    · exact plays_of_drop t ho h
    · exact plays_of_clear t h
    · have : t.k = 3 ∨ t.k = 4 ∨ t.k = 5 ∨ t.k = 6 ∨ t.k = 7 := by omega
      rcases this with h | h | h | h | h
      · exact plays_of_get t ho h
      · exact plays_of_len t h
      · exact plays_of_links t h
      · exact plays_of_list t h
      · exact plays_of_all t h)
  go_enter Try.func7, Try.ntmps7
  go_wp2_with (first | (go_at_call 21; refine h21.mono ?_; rintro e w1 ⟨rfl, hk⟩))
  go_ret
  exact ⟨rfl, hk⟩

end Go.Proofs.Ytendmohjodeelab
