import Derived.Test.YtendmohjodeelabC12
namespace Go.Proofs.Ytendmohjodeelab
open Go.RowKit Go.Maps Go.Great

theorem plays_of_put (t : OpT) (h : t.k = 1) : Plays t := by
  obtain ⟨k, a, b, d, s, i⟩ := t
  simp only at h
  subst h
  intro w x bm y S hp
  refine (plays_put w x bm y S hp a b d s i).mono ?_
  rintro e w' ⟨rfl, H⟩
  exact ⟨rfl, H.out.ix, H.out.rf, H.out.keep⟩
theorem plays_of_drop (t : OpT) (ho : OpOk t) (h : t.k = 2) : Plays t := by
  obtain ⟨k, a, b, d, s, i⟩ := t
  simp only at h
  subst h
  intro w x bm y S hp
  refine (plays_drop w x bm y S hp a b d s i ho.1).mono ?_
  rintro e w' ⟨rfl, H⟩
  exact ⟨rfl, H.out.ix, H.out.rf, H.out.keep⟩
theorem plays_of_clear (t : OpT) (h : t.k = 8) : Plays t := by
  obtain ⟨k, a, b, d, s, i⟩ := t
  simp only at h
  subst h
  intro w x bm y S hp
  refine (plays_clear w x bm y S hp a b d s i).mono ?_
  rintro e w' ⟨rfl, H⟩
  exact ⟨rfl, H.out.ix, H.out.rf, H.out.keep⟩

theorem moves_walk (w : World) (p : Option Addr) (cap : Nat) (l : List OpT) (hp : OpIn w p l) (hok : ∀ t ∈ l, OpOk t) (hn : l.length < 3000000000000) :
    Calls Try.prog 5 #[.slice p l.length cap] w fun e w' => e = .returned (.bool true) ∧ Keeps (fun _ => False) w w' := by
  have h21 := upto_any w p cap l hp hok hn false 9 8 (fun t ho hm _ => by
    rcases hm with h | h | h | h
    · exact plays_of_put t h
    · exact plays_of_drop t ho h
    · exact plays_of_clear t h
    · omega)
  go_enter Try.func5, Try.ntmps5
  go_wp2_with (first | (go_at_call 21; refine h21.mono ?_; rintro e w1 ⟨rfl, hk⟩))
  go_ret
  exact ⟨rfl, hk⟩

end Go.Proofs.Ytendmohjodeelab
