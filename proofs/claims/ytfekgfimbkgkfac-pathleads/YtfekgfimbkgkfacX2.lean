import Derived.Test.YtfekgfimbkgkfacX1
namespace Go.Proofs.Ytfekgfimbkgkfac
open Go.RowKit Go.Maps

theorem opcs_get : ∀ (l : List OpP) (k : Nat), k < l.length → ∀ j u, (opc (l.getD k opz))[j]? = some u → (opcs l)[k * 5 + j]? = some u
  | [], k, h, _, _, _ => by simp at h
  | e :: l, 0, _, j, u, hj => by
    have hl : j < (opc e).length := (List.getElem?_eq_some_iff.1 hj).1
    simp only [opcs, List.flatMap_cons, Nat.zero_mul, Nat.zero_add]
    rw [List.getElem?_append_left hl]; exact hj
  | e :: l, k + 1, h, j, u, hj => by
    have h4 : (opc e).length = 5 := rfl
    simp only [opcs, List.flatMap_cons]
    rw [List.getElem?_append_right (by rw [h4]; omega), h4, show (k + 1) * 5 + j - 5 = k * 5 + j by omega]
    exact opcs_get l k (by simpa using h) j u hj
theorem OpOk.keep {w W : World} {o : OpP} (h : OpOk w o) (k : Keeps (fun _ => False) w W) : OpOk W o := ⟨h.1.keep k, h.2⟩
theorem opcs_cells {w : World} {b o : Nat} {l : List OpP} (hc : ∀ (j : Nat) (u : Value), (opcs l)[j]? = some u → w.cell? ⟨b, o + j, none⟩ = some u) {k : Nat} (hk : k < l.length) :
    w.cell? ⟨b, o + k * 5, none⟩ = some (.int .i64 (l.getD k opz).k) ∧ w.cell? ⟨b, o + k * 5 + 1, none⟩ = some (.string (l.getD k opz).t) ∧ w.cell? ⟨b, o + k * 5 + 2, none⟩ = some (l.getD k opz).v ∧ w.cell? ⟨b, o + k * 5 + 3, none⟩ = some (.bool (l.getD k opz).sl) ∧ w.cell? ⟨b, o + k * 5 + 4, none⟩ = some (.int .i64 (l.getD k opz).n) :=
  ⟨hc (k * 5 + 0) _ (opcs_get l k hk 0 _ rfl), hc (k * 5 + 1) _ (opcs_get l k hk 1 _ rfl), hc (k * 5 + 2) _ (opcs_get l k hk 2 _ rfl), hc (k * 5 + 3) _ (opcs_get l k hk 3 _ rfl), hc (k * 5 + 4) _ (opcs_get l k hk 4 _ rfl)⟩

end Go.Proofs.Ytfekgfimbkgkfac
