import Derived.Test.YtendmohjodeelabD1
namespace Go.Proofs.Ytendmohjodeelab
open Go.RowKit Go.Maps Go.Great

/-- Two indexes made since W, and a list that was kept. -/
structure CS (W w : World) (x bm y by_ : Nat) (S T : List Rw) (base : Nat) (vb : Value) (L : List De) : Prop where
  ks : KS W w x bm S base vb L
  iy : IxAt w y by_ T
  ne : by_ ≠ bm
  fy : T.length < 4000000000000

section
variable {W w : World} {x bm y by_ : Nat} {S T : List Rw} {base : Nat} {vb : Value} {L : List De}

theorem CS.grown {w' : World} (h : CS W w x bm y by_ S T base vb L) (k : Keeps (fun _ => False) w w') : CS W w' x bm y by_ S T base vb L := ⟨h.ks.grown k, h.iy.keep k id id, h.ne, h.fy⟩
theorem CS.on {w' : World} {S' : List Rw} (h : CS W w x bm y by_ S T base vb L) (hi : IxAt w' x bm S') (k : Keeps (fun k => k = bm) w w') (hl : S'.length < 4000000000000) : CS W w' x bm y by_ S' T base vb L := by
  refine ⟨h.ks.on hi k hl, h.iy.keep k ?_ h.ne, h.ne, h.fy⟩
  rintro rfl
  obtain ⟨D, ⟨es, cl, hb, _⟩, _⟩ := h.ks.ix.map
  have := h.iy.cell
  rw [hb] at this; cases this
theorem CS.two (h : CS W w x bm y by_ S T base vb L) {i : Nat} (hi : i < L.length) {v : Value} (hv : vb = v) : ∃ g o cap, v = .slice (some ⟨g, o, none⟩) L.length cap ∧ w.cell? ⟨g, o + i * 2, none⟩ = some (.string (L.getD i dz).1) ∧ w.cell? ⟨g, o + i * 2 + 1, none⟩ = some (.int .i64 (L.getD i dz).2) := by
  subst hv
  obtain ⟨g, o, cap, e, _, hc⟩ := h.ks.row.dsl.pos (by omega)
  exact ⟨g, o, cap, e, (hc i hi).1, (hc i hi).2⟩

theorem cs_len (h : Hid (CS W w x bm y by_ S T base vb L)) (d : Int) (E : Int) (hE : ((S.filter (inDir d)).length : Int) = E) :
    Calls Try.prog 15 #[.pointer (some ⟨x, 0, none⟩), .int .i64 d] w fun e w' => e = .returned (.int .i64 E) ∧ Hid (CS W w' x bm y by_ S T base vb L) :=
  (len_any w x bm S h.out.ks.ix d (by have := h.out.ks.few; omega)).mono fun _ _ ⟨he, hk⟩ => ⟨by rw [← hE]; exact he, h.out.grown hk⟩
theorem cs_leny (h : Hid (CS W w x bm y by_ S T base vb L)) (d : Int) (E : Int) (hE : ((T.filter (inDir d)).length : Int) = E) :
    Calls Try.prog 15 #[.pointer (some ⟨y, 0, none⟩), .int .i64 d] w fun e w' => e = .returned (.int .i64 E) ∧ Hid (CS W w' x bm y by_ S T base vb L) :=
  (len_any w y by_ T h.out.iy d (by have := h.out.fy; omega)).mono fun _ _ ⟨he, hk⟩ => ⟨by rw [← hE]; exact he, h.out.grown hk⟩
theorem cs_links (h : Hid (CS W w x bm y by_ S T base vb L)) (d : Int) (E : Int) (hE : ((S.filter (toIno d)).length : Int) = E) :
    Calls Try.prog 17 #[.pointer (some ⟨x, 0, none⟩), .int .i64 d] w fun e w' => e = .returned (.int .i64 E) ∧ Hid (CS W w' x bm y by_ S T base vb L) :=
  (links_any w x bm S h.out.ks.ix d (by have := h.out.ks.few; omega)).mono fun _ _ ⟨he, hk⟩ => ⟨by rw [← hE]; exact he, h.out.grown hk⟩
theorem cs_linksy (h : Hid (CS W w x bm y by_ S T base vb L)) (d : Int) (E : Int) (hE : ((T.filter (toIno d)).length : Int) = E) :
    Calls Try.prog 17 #[.pointer (some ⟨y, 0, none⟩), .int .i64 d] w fun e w' => e = .returned (.int .i64 E) ∧ Hid (CS W w' x bm y by_ S T base vb L) :=
  (links_any w y by_ T h.out.iy d (by have := h.out.fy; omega)).mono fun _ _ ⟨he, hk⟩ => ⟨by rw [← hE]; exact he, h.out.grown hk⟩
theorem cs_list (h : Hid (CS W w x bm y by_ S T base vb L)) (d : Int) (M : List De) (hM : lstS S d = M) :
    Calls Try.prog 12 #[.pointer (some ⟨x, 0, none⟩), .int .i64 d] w fun e w' => ∃ p c, e = .returned (.slice p M.length c) ∧ Hid (CS W w' x bm y by_ S T base vb L) ∧ Hid (DSl w' (.slice p M.length c) M) := by
  refine (list_any w x bm S h.out.ks.ix d (by have := h.out.ks.few; omega)).mono ?_
  rintro e w' ⟨v, rfl, H⟩
  subst hM
  obtain ⟨p, c, rfl⟩ := (DSl.of_row H.out.1 rfl).shape
  exact ⟨p, c, rfl, h.out.grown H.out.2, DSl.of_row H.out.1 rfl⟩
theorem cs_listy (h : Hid (CS W w x bm y by_ S T base vb L)) (d : Int) (M : List De) (hM : lstS T d = M) {v1 : Value} {L1 : List De} (h1 : Hid (DSl w v1 L1)) :
    Calls Try.prog 12 #[.pointer (some ⟨y, 0, none⟩), .int .i64 d] w fun e w' => ∃ p c, e = .returned (.slice p M.length c) ∧ Hid (CS W w' x bm y by_ S T base vb L) ∧ Hid (DSl w' (.slice p M.length c) M) ∧ Hid (DSl w' v1 L1) := by
  refine (list_any w y by_ T h.out.iy d (by have := h.out.fy; omega)).mono ?_
  rintro e w' ⟨v, rfl, H⟩
  subst hM
  obtain ⟨p, c, rfl⟩ := (DSl.of_row H.out.1 rfl).shape
  exact ⟨p, c, rfl, h.out.grown H.out.2, DSl.of_row H.out.1 rfl, h1.out.grown H.out.2⟩
theorem cs_same (h : Hid (CS W w x bm y by_ S T base vb L)) {v1 v2 : Value} {L1 L2 : List De} (h1 : Hid (DSl w v1 L1)) (h2 : Hid (DSl w v2 L2)) (hl : L1.length < 4000000000000) (r : Bool) (hr : decide (L1 = L2) = r) :
    Calls Try.prog 16 #[v1, v2] w fun e w' => e = .returned (.bool r) ∧ Hid (CS W w' x bm y by_ S T base vb L) :=
  (same_any w v1 v2 L1 L2 h1.out h2.out (by omega)).mono fun _ _ ⟨he, hk⟩ => ⟨by rw [← hr]; exact he, h.out.grown hk⟩
theorem cs_samek (h : Hid (CS W w x bm y by_ S T base vb L)) {v1 : Value} {L1 : List De} (h1 : Hid (DSl w v1 L1)) (hl : L1.length < 4000000000000) (r : Bool) (hr : decide (L1 = L) = r) :
    Calls Try.prog 16 #[v1, vb] w fun e w' => e = .returned (.bool r) ∧ Hid (CS W w' x bm y by_ S T base vb L) :=
  (same_any w v1 vb L1 L h1.out h.out.ks.row.dsl (by omega)).mono fun _ _ ⟨he, hk⟩ => ⟨by rw [← hr]; exact he, h.out.grown hk⟩
theorem cs_clear (h : Hid (CS W w x bm y by_ S T base vb L)) (d : Int) (E : Int) (S' : List Rw) (hE : ((S.filter (inDir d)).length : Int) = E) (hS : clrS S d = S') :
    Calls Try.prog 14 #[.pointer (some ⟨x, 0, none⟩), .int .i64 d] w fun e w' => e = .returned (.int .i64 E) ∧ Hid (CS W w' x bm y by_ S' T base vb L) :=
  (clear_any w x bm S h.out.ks.ix d (by have := h.out.ks.few; omega)).mono fun _ _ ⟨he, hk⟩ => ⟨by rw [← hE]; exact he, by
    have := hk.out.1
    rw [hS] at this
    refine h.out.on this hk.out.2 ?_
    have h1 := h.out.ks.few
    have : S'.length ≤ S.length := by rw [← hS]; exact List.length_filter_le ..
    omega⟩
theorem cs_get (h : Hid (CS W w x bm y by_ S T base vb L)) (d : Int) (hd : (Lit.int .i64 d).wf = true) (s : ByteArray) (E : Int) (hE : getS S d s = E) :
    Calls Try.prog 18 #[.pointer (some ⟨x, 0, none⟩), .int .i64 d, .string s] w fun e w' => e = .returned (.int .i64 E) ∧ Hid (CS W w' x bm y by_ S T base vb L) :=
  (get_any w x bm S h.out.ks.ix d hd s).mono fun _ _ ⟨he, hk⟩ => ⟨by rw [← hE]; exact he, h.out.grown hk⟩
theorem cs_put (h : Hid (CS W w x bm y by_ S T base vb L)) (d : Int) (s : ByteArray) (n : Int) (E : Int) (S' : List Rw) (hE : putE S d s n = E) (hS : putS S d s n = S') (hl : S'.length < 4000000000000) :
    Calls Try.prog 19 #[.pointer (some ⟨x, 0, none⟩), .int .i64 d, .string s, .int .i64 n] w fun e w' => e = .returned (.int .i64 E) ∧ Hid (CS W w' x bm y by_ S' T base vb L) :=
  (put_any w x bm S h.out.ks.ix d s n (by have := h.out.ks.few; omega)).mono fun _ _ ⟨he, hk⟩ => ⟨by rw [← hE]; exact he, by
    have := hk.out.1
    rw [hS] at this
    exact h.out.on this hk.out.2 hl⟩
theorem cs_copy (h : Hid (KS W w x bm S base vb L)) : Calls Try.prog 13 #[.pointer (some ⟨x, 0, none⟩)] w fun e w' => ∃ y by_, e = .returned (.pointer (some ⟨y, 0, none⟩)) ∧ Hid (CS W w' x bm y by_ S S base vb L) := by
  refine (copyI_any w x bm S h.out.ix).mono ?_
  rintro e w' ⟨rfl, H⟩
  exact ⟨_, _, rfl, h.out.grown H.out.2.1, H.out.1, by have := h.out.ix.lt; omega, h.out.few⟩
end

end Go.Proofs.Ytendmohjodeelab
