import Derived.Test.YtfekgfimbkgkfabF1
namespace Go.Proofs.Ytfekgfimbkgkfab
open Go.RowKit Go.Maps

def hitE (e : Ed) (d : Int) (s : ByteArray) : Bool := decide (e.1 = d) && decide (e.2.1 = s) && decide (1 ≤ e.2.2.1)
theorem tab_step {l : List Ed} {j : Nat} (hj : j < l.length) (d : Int) (s : ByteArray) : tabF (l.take (j + 1)) d s = if hitE (l.getD j ez) d s = true then ((l.getD j ez).2.2.1, (l.getD j ez).2.2.2) else tabF (l.take j) d s := by
  rw [take_getD ez hj, tabF_snoc]
  generalize l.getD j ez = e
  unfold put1 hitE
  by_cases h1 : 1 ≤ e.2.2.1
  · by_cases h2 : d = e.1 ∧ s = e.2.1
    · obtain ⟨rfl, rfl⟩ := h2
      simp [h1]
    · have : ¬ (e.1 = d ∧ e.2.1 = s) := fun h => h2 ⟨h.1.symm, h.2.symm⟩
      have h4 : (decide (e.1 = d) && decide (e.2.1 = s) && decide (1 ≤ e.2.2.1)) = false := by
        by_cases h5 : e.1 = d
        · have h6 : ¬ e.2.1 = s := fun h => this ⟨h5, h⟩
          simp [h6]
        · simp [h5]
      rw [h4, if_pos h1]
      simp [h2]
  · simp [h1]

set_option maxHeartbeats 4000000 in
set_option maxRecDepth 100000 in
theorem rlook_quiet (w : World) (v : Value) (l : List Ed) (h : Row w v l.length (ecells l)) (hl : l.length ≤ 3518437208780) (d : Int) (s : ByteArray) :
    Calls Try.prog 40 #[v, .int .i64 d, .string s] w fun e w' => e = .returned (.tuple #[.int .i64 (tabF l d s).1, .bool (tabF l d s).2]) ∧ ∃ m, w' = w.drewN m := by
  have HR := Hid.mk' h
  obtain ⟨a, cap, rfl, _⟩ := h
  go_enter Try.func40, Try.ntmps40
  go_wp2
  go_loopw [8] (fun i wr => ∃ k : Nat, k ≤ l.length ∧ i = .int .i64 ((k : Int) - 1) ∧ wr = w ∧ Hid (tabF l d s = tabF (l.take k) d s)) (fun i _ => (intOf i + 1).toNat)
  case atStart => exact ⟨l.length, Nat.le_refl _, by go_num, rfl, by rw [List.take_length]; rfl⟩
  case round =>
    obtain ⟨k, hk, rfl, rfl, HI⟩ := hrel
    rcases k with _ | j
    · have h0 : ¬ (0 : Int) ≤ ((0 : Nat) : Int) - 1 := by omega
      have e0 : ((0 : Nat) : Int) - 1 = -1 := rfl
      rw [e0]
      go_wp2
      refine bodyPost_ret (v := .tuple #[.int .i64 0, .bool false]) (by simp [results, Try.results40, go_sem]) rfl ?_
      exact ⟨by rw [HI.out]; rfl, 0, rfl⟩
    · have e1 : (((j + 1 : Nat) : Int) - 1) = (j : Int) := by omega
      rw [e1]
      have hj : j < l.length := by omega
      obtain ⟨b, o, cap', e, hb, hc⟩ := HR.out.pos (by omega)
      cases e
      have c0 : wr.cell? ⟨b, o + j * 4, none⟩ = some (.int .i64 (l.getD j ez).1) := (hc (j * 4 + 0) _ (ecells_get l j hj 0 _ rfl))
      have c1 : wr.cell? ⟨b, o + j * 4 + 1, none⟩ = some (.string (l.getD j ez).2.1) := (hc (j * 4 + 1) _ (ecells_get l j hj 1 _ rfl))
      have c2 : wr.cell? ⟨b, o + j * 4 + 2, none⟩ = some (.int .i64 (l.getD j ez).2.2.1) := (hc (j * 4 + 2) _ (ecells_get l j hj 2 _ rfl))
      have c3 : wr.cell? ⟨b, o + j * 4 + 3, none⟩ = some (.bool (l.getD j ez).2.2.2) := (hc (j * 4 + 3) _ (ecells_get l j hj 3 _ rfl))
      have HS : Hid (tabF l d s = if hitE (l.getD j ez) d s = true then ((l.getD j ez).2.2.1, (l.getD j ez).2.2.2) else tabF (l.take j) d s) := HI.out.trans (tab_step hj d s)
      have hj0 : (0 : Int) ≤ (j : Int) := by omega
      have hj1 : (j : Int) < (l.length : Int) := by omega
      generalize l.getD j ez = q at c0 c1 c2 c3 HS
      obtain ⟨qd, qn, qi, qs⟩ := q
      dsimp only at c0 c1 c2 c3 HS
      clear hc HI
      by_cases h1 : qd = d
      · subst h1
        by_cases h2 : qn = s
        · subst h2
          have hss : (qn.toList == qn.toList) = true := by simp
          by_cases h3 : 1 ≤ qi
          · have HE : Hid (tabF l qd qn = (qi, qs)) := HS.out.trans (by simp [hitE, h3])
            go_wp2
            go_quiet (fail)
            go_wp2
            refine bodyPost_ret (v := .tuple #[.int .i64 qi, .bool qs]) (by simp [results, Try.results40, go_sem]) rfl ?_
            exact ⟨by rw [HE.out], _, rfl⟩
          · have HN : Hid (tabF l qd qn = tabF (l.take j) qd qn) := HS.out.trans (by simp [hitE, h3])
            go_wp2
            go_roundw
            case rel => exact ⟨j, by omega, rfl, trivial, HN⟩
            case measure => simp [intOf]
        · have HN : Hid (tabF l qd s = tabF (l.take j) qd s) := HS.out.trans (by simp [hitE, h2])
          have h2' : (qn.toList == s.toList) = false := by rw [bytes_eq, decide_eq_false h2]
          go_wp2
          go_roundw
          case rel => exact ⟨j, by omega, rfl, trivial, HN⟩
          case measure => simp [intOf]
      · have HN : Hid (tabF l d s = tabF (l.take j) d s) := HS.out.trans (by simp [hitE, h1])
        have h1' : (qd == d) = false := beq_eq_false_iff_ne.2 h1
        go_wp2
        go_roundw
        case rel => exact ⟨j, by omega, rfl, trivial, HN⟩
        case measure => simp [intOf]
theorem rlook_any (w : World) (v : Value) (l : List Ed) (h : Row w v l.length (ecells l)) (hl : l.length ≤ 3518437208780) (d : Int) (s : ByteArray) :
    Calls Try.prog 40 #[v, .int .i64 d, .string s] w fun e w' => e = .returned (.tuple #[.int .i64 (tabF l d s).1, .bool (tabF l d s).2]) ∧ Keeps (fun _ => False) w w' :=
  (rlook_quiet w v l h hl d s).mono fun _ _ ⟨he, m, hm⟩ => ⟨he, by rw [hm]; exact Keeps.drewN _ _ _⟩
end Go.Proofs.Ytfekgfimbkgkfab
