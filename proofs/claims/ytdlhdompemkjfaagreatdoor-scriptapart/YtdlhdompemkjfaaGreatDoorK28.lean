import Derived.Test.YtdlhdompemkjfaaGreatDoorK27
namespace Go.Proofs.YtdlhdompemkjfaaGreatDoor
open Go.RowKit Go.Maps
set_option maxRecDepth 100000

/-! The document's Line. -/
theorem rrow_tail {W : World} {b o n c : Nat} {x0 : Wd} {xs : List Wd} {VT : Option Addr} (h : Row W (.slice (some ⟨b, o, none⟩) n c) (x0 :: xs).length (rcells (x0 :: xs))) (hV : (if c = 1 then some (⟨b, o, none⟩ : Addr) else some ⟨b, o + 2, none⟩) = VT) : Row W (.slice VT xs.length (c - 1)) xs.length (rcells xs) := by
  obtain ⟨a, c', e, hc, hcell⟩ := h
  injection e with e1 e2 e3
  subst e1
  subst e3
  rw [List.length_cons] at hc hcell
  refine ⟨VT, c - 1, rfl, by omega, fun h0 => ?_⟩
  obtain ⟨b2, o2, e4, hb, hcc⟩ := hcell (by omega)
  injection e4 with e4
  injection e4 with e5 e6
  subst e5
  subst e6
  rw [if_neg (by omega)] at hV
  refine ⟨b, o + 2, hV.symm, hb, fun j u hj => ?_⟩
  have e7 : rcells (x0 :: xs) = (rcell x0).toList ++ rcells xs := by simp [rcells]
  have := hcc (2 + j) u (by rw [e7, List.getElem?_append_right (by simp [rcell])]; simpa [rcell] using hj)
  rw [← Nat.add_assoc] at this
  exact this
theorem tkF_at2 {l : List Ar} : ∀ (xs : List Wd) (i : Nat), tkF l i xs = true → ∀ (j : Nat) (x : Wd), xs[j]? = some x → ∃ a, argAt l (i + j) = some a ∧ a.quo = x.quoted
  | [], _, _, _, _, h => by cases h
  | y :: xs, i, h, j, x, hj => by
    unfold tkF at h
    rw [Bool.and_eq_true] at h
    cases j with
    | zero =>
      have e : y = x := by simpa using hj
      subst e
      cases ha : argAt l i with
      | some a => rw [ha] at h; exact ⟨a, by first | rfl | exact ha, by simpa using h.1⟩
      | none => rw [ha] at h; simp at h
    | succ j =>
      obtain ⟨a, ha, hq⟩ := tkF_at2 xs (i + 1) h.2 j x (by simpa using hj)
      exact ⟨a, by rw [show i + (j + 1) = i + 1 + j by omega]; exact ha, hq⟩
theorem ldF_quo {a : Ar} {t : St} {x : Wd} {n : Int} (h : a.quo = true) : (rdF a t x).2 = true ∧ (rdF a t x).1 = ldF a t x n := by cases a <;> first | exact ⟨rfl, rfl⟩ | (cases h; done)
theorem ldF_num {a : Ar} {t : St} {x : Wd} {n : Int} (h : a.quo = false) (hn : num x.text.data.toList = some n) : (rdF a t x).2 = true ∧ (rdF a t x).1 = ldF a t x n := by cases a <;> first | (cases h; done) | (unfold rdF ldF; simp only; rw [hn]; exact ⟨rfl, rfl⟩)
theorem rdF_none {a : Ar} {t : St} {x : Wd} (h : a.quo = false) (hn : num x.text.data.toList = none) : (rdF a t x).2 = false := by cases a <;> first | (cases h; done) | (unfold rdF; simp only; rw [hn]; rfl)
theorem ldF_len (a : Ar) (t : St) (x : Wd) (n : Int) : (ldF a t x n).l.length ≤ t.l.length + 1 := by cases a <;> simp [ldF]
theorem kd_num2 : ∀ k ∈ kds, 1 ≤ k.num ∧ k.num ≤ 21 := by decide
set_option maxHeartbeats 16000000 in
theorem rline_any (w : World) (hv : KV w) (s : ByteArray) :
    Calls Tryz.prog 23 #[.string s] w fun e w' => ∃ v, e = .returned (.tuple #[.agg (scell (lnS s.data.toList) v), .int .i64 (lnE s.data.toList)]) ∧ Hid (w'.ownsRow w.heap.size 3 1 v (lnS s.data.toList).l.length (ints (lnS s.data.toList).l) ∧ Keeps (fun _ => False) w w') := by
  have HS := Hid.mk' (size_len s)
  have HKz := Hid.mk' ((Keeps.refl (fun _ => False) w).alloc (.cells #[.int .i64 0, .string ⟨#[]⟩, .string ⟨#[]⟩, .int .i64 0, .int .i64 0, .int .i64 0, .slice none 0 0] 24))
  have HBz := Hid.mk' (heap_last w (.cells #[.int .i64 0, .string ⟨#[]⟩, .string ⟨#[]⟩, .int .i64 0, .int .i64 0, .int .i64 0, .slice none 0 0] 24))
  have HVz := Hid.mk' (hv.keep HKz.out)
  clear hv
  by_cases hL : 20000 < s.size
  · have hL' : (20000 : Int) < (s.size : Int) := by omega
    have hE : lnE s.data.toList = 191 := by unfold lnE; rw [← HS.out, if_pos hL]
    have hS : lnS s.data.toList = st0 0 := by unfold lnS; rw [← HS.out, if_pos hL]
    have HG := Hid.mk' HBz.out
    go_enter Tryz.func23, Tryz.ntmps23
    have S1 := Hid.mk' True.intro
    go_wp2_with (first | (clear S1; refine wpList_store_row rfl 24 (.tmp 2) _ rfl w.heap.size #[.int .i64 0, .string ⟨#[]⟩, .string ⟨#[]⟩, .int .i64 0, .int .i64 0, .int .i64 0, .slice none 0 0] (by rfl) (by rfl) 24 #[.int .i64 0, .string ⟨#[]⟩, .string ⟨#[]⟩, .int .i64 0, .int .i64 0, .int .i64 0, .slice none 0 0] (HG.out) size24 rfl (by simp [Value.oneCell']) ?_; have S2 := Hid.mk' True.intro))
    exact bodyPost_ret (results_cell_slot rfl _ _ w.heap.size 24 #[.int .i64 0, .string ⟨#[]⟩, .string ⟨#[]⟩, .int .i64 0, .int .i64 0, .int .i64 0, .slice none 0 0] (0, 0) _ rfl (setRow_heap _ _ _ _ _ _ (HG.out)) Tryz.underlying24 rfl size24) rfl ⟨.slice none 0 0, by rw [hE, hS]; rfl, by rw [hS]; exact ⟨World.ownsRow_nil _ _ _ _, (HKz.out).setRow _ _ (Or.inl (Nat.le_refl _))⟩⟩
  have hL' : ¬ (20000 : Int) < (s.size : Int) := by omega
  have hL2 : ¬ 20000 < s.data.toList.length := by rw [← HS.out]; exact hL
  cases hws : wds [] s.data.toList with
  | none =>
    have hE : lnE s.data.toList = 194 := by unfold lnE; rw [if_neg hL2, hws]
    have hS : lnS s.data.toList = st0 0 := by unfold lnS; rw [if_neg hL2, hws]
    go_enter Tryz.func23, Tryz.ntmps23
    have S0 := Hid.mk' True.intro
    go_wp2_with (first
      | (clear S0; go_at_call 38; refine (rwords_any _ s (by omega)).mono ?_; rintro e w1 ⟨v, rfl, h1⟩; rw [hws] at h1 ⊢; have H1 := Hid.mk' h1.out; clear h1; obtain ⟨pa, ca, hva, _, _⟩ := id (Row.of_own H1.out.1); subst hva; have HG := Hid.mk' (H1.out.2.at HBz.out id); skip; have S1 := Hid.mk' True.intro)
      | (clear S1; refine wpList_store_row rfl 24 (.tmp 2) _ rfl w.heap.size #[.int .i64 0, .string ⟨#[]⟩, .string ⟨#[]⟩, .int .i64 0, .int .i64 0, .int .i64 0, .slice none 0 0] (by rfl) (by rfl) 24 #[.int .i64 0, .string ⟨#[]⟩, .string ⟨#[]⟩, .int .i64 0, .int .i64 0, .int .i64 0, .slice none 0 0] (HG.out) size24 rfl (by simp [Value.oneCell']) ?_; have S2 := Hid.mk' True.intro))
    exact bodyPost_ret (results_cell_slot rfl _ _ w.heap.size 24 #[.int .i64 0, .string ⟨#[]⟩, .string ⟨#[]⟩, .int .i64 0, .int .i64 0, .int .i64 0, .slice none 0 0] (0, 0) _ rfl (setRow_heap _ _ _ _ _ _ (HG.out)) Tryz.underlying24 rfl size24) rfl ⟨.slice none 0 0, by rw [hE, hS]; rfl, by rw [hS]; exact ⟨World.ownsRow_nil _ _ _ _, (HKz.out.trans H1.out.2).setRow _ _ (Or.inl (Nat.le_refl _))⟩⟩
  | some ws =>
    have htx := wds_texts _ _ [] 20000 (Nat.le_refl _) (by omega) (fun x hx => by cases hx) ws hws
    rw [List.length_nil, Nat.zero_add, ← HS.out] at htx
    have HWL : Hid (ws.length ≤ 1000000) := by show _ ≤ _; omega
    match ws, hws, htx, HWL with
    | [], hws, htx, HWL =>
      have hE : lnE s.data.toList = 190 := by unfold lnE; rw [if_neg hL2, hws]; rfl
      have hS : lnS s.data.toList = st0 0 := by unfold lnS; rw [if_neg hL2, hws]; rfl
      go_enter Tryz.func23, Tryz.ntmps23
      have S0 := Hid.mk' True.intro
      go_wp2_with (first
        | (clear S0; go_at_call 38; refine (rwords_any _ s (by omega)).mono ?_; rintro e w1 ⟨v, rfl, h1⟩; rw [hws] at h1 ⊢; have H1 := Hid.mk' h1.out; clear h1; obtain ⟨pa, ca, hva, _, _⟩ := id (Row.of_own H1.out.1); subst hva; have HG := Hid.mk' (H1.out.2.at HBz.out id); skip; have S1 := Hid.mk' True.intro)
        | (clear S1; refine wpList_store_row rfl 24 (.tmp 2) _ rfl w.heap.size #[.int .i64 0, .string ⟨#[]⟩, .string ⟨#[]⟩, .int .i64 0, .int .i64 0, .int .i64 0, .slice none 0 0] (by rfl) (by rfl) 24 #[.int .i64 0, .string ⟨#[]⟩, .string ⟨#[]⟩, .int .i64 0, .int .i64 0, .int .i64 0, .slice none 0 0] (HG.out) size24 rfl (by simp [Value.oneCell']) ?_; have S2 := Hid.mk' True.intro))
      exact bodyPost_ret (results_cell_slot rfl _ _ w.heap.size 24 #[.int .i64 0, .string ⟨#[]⟩, .string ⟨#[]⟩, .int .i64 0, .int .i64 0, .int .i64 0, .slice none 0 0] (0, 0) _ rfl (setRow_heap _ _ _ _ _ _ (HG.out)) Tryz.underlying24 rfl size24) rfl ⟨.slice none 0 0, by rw [hE, hS]; rfl, by rw [hS]; exact ⟨World.ownsRow_nil _ _ _ _, (HKz.out.trans H1.out.2).setRow _ _ (Or.inl (Nat.le_refl _))⟩⟩
    | x0 :: xs, hws, htx, HWL =>
      have hlp : (0 : Int) < ((x0 :: xs).length : Int) := by rw [List.length_cons]; omega
      have hle : (((x0 :: xs).length : Int) == 0) = false := beq_eq_false_iff_ne.2 (by omega)
      generalize hWN : (x0 :: xs).length = WN at *
      cases hq0 : x0.quoted with
      | true =>
        have hkd : kindOf (x0 :: xs) = none := by simp [kindOf, hq0]
        have hE : lnE s.data.toList = 190 := by unfold lnE; rw [if_neg hL2, hws]; simp only; rw [hkd]
        have hS : lnS s.data.toList = st0 0 := by unfold lnS; rw [if_neg hL2, hws]; simp only; rw [hkd]
        go_enter Tryz.func23, Tryz.ntmps23
        have S0 := Hid.mk' True.intro
        go_wp2_with (first
          | (clear S0; go_at_call 38; refine (rwords_any _ s (by omega)).mono ?_; rintro e w1 ⟨v, rfl, h1⟩; rw [hws] at h1 ⊢; have H1 := Hid.mk' h1.out; clear h1; obtain ⟨pa, ca, hva, hcapx, _⟩ := id (Row.of_own H1.out.1); rw [show ((some (x0 :: xs)).getD []).length = WN from hWN] at hva hcapx; have HCAP := Hid.mk' hcapx; clear hcapx; subst hva; have HG := Hid.mk' (H1.out.2.at HBz.out id); obtain ⟨b0, o0, c0, hvv, _, hq, htx0⟩ := rrow_at (j := 0) (x := x0) (Row.of_own H1.out.1) rfl; injection hvv with e1 e2 e3; subst e1; subst e3; simp only [Nat.zero_mul, Nat.add_zero, Nat.zero_add] at hq htx0; rw [hq0] at hq; clear e2; have S1 := Hid.mk' True.intro)
          | (clear S1; refine wpList_store_row rfl 24 (.tmp 2) _ rfl w.heap.size #[.int .i64 0, .string ⟨#[]⟩, .string ⟨#[]⟩, .int .i64 0, .int .i64 0, .int .i64 0, .slice none 0 0] (by rfl) (by rfl) 24 #[.int .i64 0, .string ⟨#[]⟩, .string ⟨#[]⟩, .int .i64 0, .int .i64 0, .int .i64 0, .slice none 0 0] (HG.out) size24 rfl (by simp [Value.oneCell']) ?_; have S2 := Hid.mk' True.intro))
        exact bodyPost_ret (results_cell_slot rfl _ _ w.heap.size 24 #[.int .i64 0, .string ⟨#[]⟩, .string ⟨#[]⟩, .int .i64 0, .int .i64 0, .int .i64 0, .slice none 0 0] (0, 0) _ rfl (setRow_heap _ _ _ _ _ _ (HG.out)) Tryz.underlying24 rfl size24) rfl ⟨.slice none 0 0, by rw [hE, hS]; rfl, by rw [hS]; exact ⟨World.ownsRow_nil _ _ _ _, (HKz.out.trans H1.out.2).setRow _ _ (Or.inl (Nat.le_refl _))⟩⟩
      | false =>
        have hrk := fun W h => rkind_any W h x0.text
        cases hkd : kdOf x0.text with
        | none =>
          have hkd2 : kindOf (x0 :: xs) = none := by simp [kindOf, hq0, hkd]
          have hE : lnE s.data.toList = 190 := by unfold lnE; rw [if_neg hL2, hws]; simp only; rw [hkd2]
          have hS : lnS s.data.toList = st0 0 := by unfold lnS; rw [if_neg hL2, hws]; simp only; rw [hkd2]
          rw [hkd] at hrk
          go_enter Tryz.func23, Tryz.ntmps23
          have S0 := Hid.mk' True.intro
          go_wp2_with (first
            | (clear S0; go_at_call 38; refine (rwords_any _ s (by omega)).mono ?_; rintro e w1 ⟨v, rfl, h1⟩; rw [hws] at h1 ⊢; have H1 := Hid.mk' h1.out; clear h1; obtain ⟨pa, ca, hva, hcapx, _⟩ := id (Row.of_own H1.out.1); rw [show ((some (x0 :: xs)).getD []).length = WN from hWN] at hva hcapx; have HCAP := Hid.mk' hcapx; clear hcapx; subst hva; have HG := Hid.mk' (H1.out.2.at HBz.out id); obtain ⟨b0, o0, c0, hvv, _, hq, htx0⟩ := rrow_at (j := 0) (x := x0) (Row.of_own H1.out.1) rfl; injection hvv with e1 e2 e3; subst e1; subst e3; simp only [Nat.zero_mul, Nat.add_zero, Nat.zero_add] at hq htx0; rw [hq0] at hq; clear e2; have S1 := Hid.mk' True.intro)
            | (clear S1; go_at_call 39; refine (hrk _ (HVz.out.keep H1.out.2)).mono ?_; clear hrk; rintro e w2 ⟨rfl, hk2⟩; have HK2 := Hid.mk' hk2; clear hk2; have HG := Hid.mk' (HK2.out.at HG.out id); have S2 := Hid.mk' True.intro)
            | (clear S2; refine wpList_store_row rfl 24 (.tmp 2) _ rfl w.heap.size #[.int .i64 0, .string ⟨#[]⟩, .string ⟨#[]⟩, .int .i64 0, .int .i64 0, .int .i64 0, .slice none 0 0] (by rfl) (by rfl) 24 #[.int .i64 0, .string ⟨#[]⟩, .string ⟨#[]⟩, .int .i64 0, .int .i64 0, .int .i64 0, .slice none 0 0] (HG.out) size24 rfl (by simp [Value.oneCell']) ?_; have S3 := Hid.mk' True.intro))
          exact bodyPost_ret (results_cell_slot rfl _ _ w.heap.size 24 #[.int .i64 0, .string ⟨#[]⟩, .string ⟨#[]⟩, .int .i64 0, .int .i64 0, .int .i64 0, .slice none 0 0] (0, 0) _ rfl (setRow_heap _ _ _ _ _ _ (HG.out)) Tryz.underlying24 rfl size24) rfl ⟨.slice none 0 0, by rw [hE, hS]; rfl, by rw [hS]; exact ⟨World.ownsRow_nil _ _ _ _, ((HKz.out.trans H1.out.2).trans HK2.out).setRow _ _ (Or.inl (Nat.le_refl _))⟩⟩
        | some k =>
          have hkd2 : kindOf (x0 :: xs) = some k := by simp [kindOf, hq0, hkd]
          have hmem : k ∈ kds := List.mem_of_find?_eq_some hkd
          have hkn := kd_num2 k hmem
          have hkne : (k.num == 0) = false := beq_eq_false_iff_ne.2 (by omega)
          rw [hkd, show knum (some k) = k.num from rfl] at hrk
          have hsr := fun W h v hr => rsorts_any W h k hmem v xs hr (by have h : WN ≤ 1000000 := HWL.out; rw [List.length_cons] at hWN; omega)
          have hwn1 : (WN : Int) - 1 = (xs.length : Int) := by rw [List.length_cons] at hWN; omega
          cases htk : takesF k.args xs with
          | false =>
            have hE : lnE s.data.toList = 192 := by unfold lnE; rw [if_neg hL2, hws]; simp only; rw [hkd2]; simp only [List.drop_one, List.tail_cons]; rw [htk]; rfl
            have hS : lnS s.data.toList = st0 0 := by unfold lnS; rw [if_neg hL2, hws]; simp only; rw [hkd2]; simp only [List.drop_one, List.tail_cons]; rw [htk]; rfl
            rw [htk] at hsr
            go_enter Tryz.func23, Tryz.ntmps23
            have S0 := Hid.mk' True.intro
            go_wp2_with (first
              | (clear S0; go_at_call 38; refine (rwords_any _ s (by omega)).mono ?_; rintro e w1 ⟨v, rfl, h1⟩; rw [hws] at h1 ⊢; have H1 := Hid.mk' h1.out; clear h1; obtain ⟨pa, ca, hva, hcapx, _⟩ := id (Row.of_own H1.out.1); rw [show ((some (x0 :: xs)).getD []).length = WN from hWN] at hva hcapx; have HCAP := Hid.mk' hcapx; clear hcapx; subst hva; have HG := Hid.mk' (H1.out.2.at HBz.out id); obtain ⟨b0, o0, c0, hvv, _, hq, htx0⟩ := rrow_at (j := 0) (x := x0) (Row.of_own H1.out.1) rfl; injection hvv with e1 e2 e3; subst e1; subst e3; simp only [Nat.zero_mul, Nat.add_zero, Nat.zero_add] at hq htx0; rw [hq0] at hq; clear e2; have S1 := Hid.mk' True.intro)
              | (clear S1; go_at_call 39; refine (hrk _ (HVz.out.keep H1.out.2)).mono ?_; clear hrk; rintro e w2 ⟨rfl, hk2⟩; have HK2 := Hid.mk' hk2; clear hk2; have HG := Hid.mk' (HK2.out.at HG.out id); have hcap : WN ≤ ca := HCAP.out
                 obtain ⟨VT, hVT⟩ : ∃ VT, (if ca = 1 then some (⟨b0, o0, none⟩ : Addr) else some ⟨b0, o0 + 2, none⟩) = VT := ⟨_, rfl⟩
                 have hcm : (ca : Int) - 1 = ((ca - 1 : Nat) : Int) := by omega
                 have hw1 : ¬ (WN : Int) < 1 := by omega
                 have hw9 : WN - 1 = xs.length := by rw [← hWN, List.length_cons]; omega
                 have HTL := Hid.mk' ((rrow_tail (Row.of_own H1.out.1) hVT).keep HK2.out)
                 have S2 := Hid.mk' True.intro)
              | (clear S2; go_at_call 40; refine (hsr _ ((HVz.out.keep H1.out.2).keep HK2.out) _ HTL.out).mono ?_; clear hsr; rintro e w3 ⟨rfl, hk3⟩; have HK3 := Hid.mk' hk3; clear hk3; have HG := Hid.mk' (HK3.out.at HG.out id); have S3 := Hid.mk' True.intro)
              | (clear S3; refine wpList_store_row rfl 24 (.tmp 2) _ rfl w.heap.size #[.int .i64 0, .string ⟨#[]⟩, .string ⟨#[]⟩, .int .i64 0, .int .i64 0, .int .i64 0, .slice none 0 0] (by rfl) (by rfl) 24 #[.int .i64 0, .string ⟨#[]⟩, .string ⟨#[]⟩, .int .i64 0, .int .i64 0, .int .i64 0, .slice none 0 0] (HG.out) size24 rfl (by simp [Value.oneCell']) ?_; have S4 := Hid.mk' True.intro))
            exact bodyPost_ret (results_cell_slot rfl _ _ w.heap.size 24 #[.int .i64 0, .string ⟨#[]⟩, .string ⟨#[]⟩, .int .i64 0, .int .i64 0, .int .i64 0, .slice none 0 0] (0, 0) _ rfl (setRow_heap _ _ _ _ _ _ (HG.out)) Tryz.underlying24 rfl size24) rfl ⟨.slice none 0 0, by rw [hE, hS]; rfl, by rw [hS]; exact ⟨World.ownsRow_nil _ _ _ _, (((HKz.out.trans H1.out.2).trans HK2.out).trans HK3.out).setRow _ _ (Or.inl (Nat.le_refl _))⟩⟩
          | true =>
            have hrf := fun W h => rfixed_any W h k hmem
            have HSZ : Hid ((lets (fxA k.args)).size = (fxA k.args).length) := lets_size _
            have HSM : Hid ((lets (fxA k.args)).size ≤ 3) := by show _ ≤ _; rw [lets_size]; exact Nat.le_trans (List.length_filter_le _ _) (kd_args3 k hmem)
            have HLET : Hid (∀ (j : Nat) (a : Ar), argAt k.args j = some a → (∀ hj : j < (lets (fxA k.args)).size, ((lets (fxA k.args))[j]'hj) = lett a) ∧ (¬ j < (lets (fxA k.args)).size → a = .L)) := by
              intro j a ha
              refine ⟨fun hj => ?_, fun hj => ?_⟩
              · have hj2 : j < (fxA k.args).length := by rw [← lets_size]; exact hj
                have e := at_fix hmem (List.getElem?_eq_getElem hj2)
                rw [e] at ha
                cases ha
                exact lets_at (List.getElem?_eq_getElem hj2) hj
              · have hj2 : (fxA k.args).length ≤ j := by rw [lets_size] at hj; omega
                cases hfl : fxL k.args with
                | true => rw [at_list hmem hfl hj2] at ha; exact (Option.some.inj ha).symm
                | false => rw [at_no hmem hfl hj2] at ha; cases ha
            have HTK : Hid (∀ (j : Nat) (x : Wd), xs[j]? = some x → ∃ a, argAt k.args j = some a ∧ a.quo = x.quoted) := fun j x hx => by have h := tkF_at2 xs 0 (by unfold takesF at htk; rw [Bool.and_eq_true] at htk; exact htk.2) j x hx; rw [Nat.zero_add] at h; exact h
            have hE0 : lnE s.data.toList = if (stF k.args 0 (st0 k.num) xs).isSome = true then 0 else 193 := by unfold lnE; rw [if_neg hL2, hws]; simp only; rw [hkd2]; simp only [List.drop_one, List.tail_cons]; rw [if_pos htk]; cases stF k.args 0 (st0 k.num) xs <;> rfl
            have hS0 : lnS s.data.toList = (stF k.args 0 (st0 k.num) xs).getD (st0 0) := by unfold lnS; rw [if_neg hL2, hws]; simp only; rw [hkd2]; simp only [List.drop_one, List.tail_cons]; rw [if_pos htk]
            have HE0 := Hid.mk' hE0
            have HS0 := Hid.mk' hS0
            have HXN : Hid (xs.length ≤ 1000000) := by have h : WN ≤ 1000000 := HWL.out; rw [List.length_cons] at hWN; show _ ≤ _; omega
            rw [htk] at hsr
            clear hE0 hS0 hkd hkd2 htk hL2
            generalize lets (fxA k.args) = LE at *
            go_enter Tryz.func23, Tryz.ntmps23
            have S0 := Hid.mk' True.intro
            go_wp2_with (first
              | (clear S0; go_at_call 38; refine (rwords_any _ s (by omega)).mono ?_; rintro e w1 ⟨v, rfl, h1⟩; rw [hws] at h1 ⊢; have H1 := Hid.mk' h1.out; clear h1; obtain ⟨pa, ca, hva, hcapx, _⟩ := id (Row.of_own H1.out.1); rw [show ((some (x0 :: xs)).getD []).length = WN from hWN] at hva hcapx; have HCAP := Hid.mk' hcapx; clear hcapx; subst hva; have HG := Hid.mk' (H1.out.2.at HBz.out id); obtain ⟨b0, o0, c0, hvv, _, hq, htx0⟩ := rrow_at (j := 0) (x := x0) (Row.of_own H1.out.1) rfl; injection hvv with e1 e2 e3; subst e1; subst e3; simp only [Nat.zero_mul, Nat.add_zero, Nat.zero_add] at hq htx0; rw [hq0] at hq; clear e2; have S1 := Hid.mk' True.intro)
              | (clear S1; go_at_call 39; refine (hrk _ (HVz.out.keep H1.out.2)).mono ?_; clear hrk; rintro e w2 ⟨rfl, hk2⟩; have HK2 := Hid.mk' hk2; clear hk2; have HG := Hid.mk' (HK2.out.at HG.out id); have hcap : WN ≤ ca := HCAP.out
                 obtain ⟨VT, hVT⟩ : ∃ VT, (if ca = 1 then some (⟨b0, o0, none⟩ : Addr) else some ⟨b0, o0 + 2, none⟩) = VT := ⟨_, rfl⟩
                 have hcm : (ca : Int) - 1 = ((ca - 1 : Nat) : Int) := by omega
                 have hw1 : ¬ (WN : Int) < 1 := by omega
                 have hw9 : WN - 1 = xs.length := by rw [← hWN, List.length_cons]; omega
                 have HTL := Hid.mk' ((rrow_tail (Row.of_own H1.out.1) hVT).keep HK2.out)
                 have S2 := Hid.mk' True.intro)
              | (clear S2; go_at_call 40; refine (hsr _ ((HVz.out.keep H1.out.2).keep HK2.out) _ HTL.out).mono ?_; clear hsr; rintro e w3 ⟨rfl, hk3⟩; have HK3 := Hid.mk' hk3; clear hk3; have HG := Hid.mk' (HK3.out.at HG.out id); have S3 := Hid.mk' True.intro)
              | (clear S3; go_at_call 20; refine (hrf _ (((HVz.out.keep H1.out.2).keep HK2.out).keep HK3.out)).mono ?_; clear hrf; rintro e w4 ⟨rfl, hk4⟩; have HK4 := Hid.mk' hk4; clear hk4; have HG := Hid.mk' (HK4.out.at HG.out id); have S4 := Hid.mk' True.intro)
              | (clear S4; refine wpList_alloc_st rfl rfl ?_; have S5 := Hid.mk' True.intro)
              | (clear S5; refine wpList_store_st rfl _ _ rfl (st0 k.num) none 0 0 (by rfl) (by rfl) ?_; have S6 := Hid.mk' True.intro))
            have HW5 := Hid.mk' ((Keeps.refl (fun _ => False) w4).alloc (.cells (scell (st0 k.num) (.slice none 0 0)) 24))
            have HB5 := Hid.mk' (heap_last w4 (.cells (scell (st0 k.num) (.slice none 0 0)) 24))
            have HKall := Hid.mk' (((HKz.out.trans H1.out.2).trans HK2.out).trans (HK3.out.trans HK4.out))
            have HXR := Hid.mk' (HTL.out.keep (HK3.out.trans HK4.out))
            clear hq htx0
            go_loopw [10] (fun i wr => ∃ (j : Nat) (t : St) (r : Option Addr) (c : Nat), j ≤ xs.length ∧ i = .int .i64 j ∧ Hid (wr.heap[w4.heap.size]? = some (.cells (scell t (.slice r t.l.length c)) 24 (0, 0)) ∧ wr.ownsRow (w4.heap.size + 1) 3 1 (.slice r t.l.length c) t.l.length (ints t.l) ∧ Keeps (fun k => w4.heap.size ≤ k) (w4.alloc (.cells (scell (st0 k.num) (.slice none 0 0)) 24)) wr ∧ stF k.args 0 (st0 k.num) xs = stF k.args j t (xs.drop j) ∧ t.l.length ≤ j)) (fun i _ => xs.length - (intOf i).toNat)
            case atStart => exact ⟨0, st0 k.num, none, 0, Nat.zero_le _, rfl, HB5.out, World.ownsRow_nil _ _ _ _, Keeps.refl _ _, rfl, Nat.le_refl _⟩
            case round =>
              obtain ⟨j, t, r, c, hj, rfl, HI⟩ := hrel
              by_cases h1 : j < xs.length
              · have h1' : (j : Int) < (xs.length : Int) := by omega
                obtain ⟨x, hx⟩ : ∃ x, xs[j]? = some x := ⟨_, List.getElem?_eq_getElem h1⟩
                obtain ⟨bx, ox, cx, hvv, hbx, hq0, ht0⟩ := rrow_at HXR.out hx
                injection hvv with e1 e2 e3
                subst e1
                subst e3
                have HKK := Hid.mk' ((HW5.out.mono (fun _ _ h => h.elim)).trans HI.out.2.2.1)
                have hq := HKK.out.cell hq0 (show ¬ w4.heap.size ≤ bx by omega)
                have htt := HKK.out.cell ht0 (show ¬ w4.heap.size ≤ bx by omega)
                obtain ⟨a, ha, hqa⟩ := HTK.out j x hx
                have hdr := stF_drop (l := k.args) t hx
                rw [ha] at hdr
                simp only at hdr
                have HREG : Hid (wr.rangeAt w4.heap.size 0 (scell t (.slice r t.l.length c)).toList ∧ wr.rangeAt bx (ox + j * 2) (rcell x).toList) := by
                  refine ⟨rangeAt_block HI.out.1 (scell t (.slice r t.l.length c)), fun q u hqq => ?_⟩
                  rw [Array.getElem?_toList] at hqq
                  match q, hqq with
                  | 0, hqq => rw [show u = .bool x.quoted by simpa [rcell] using hqq.symm]; exact hq
                  | 1, hqq => rw [show u = .string x.text by simpa [rcell] using hqq.symm]; rw [Nat.add_assoc]; exact htt
                  | q + 2, hqq => simp [rcell] at hqq
                have hld := fun (m : Int) (W : World) (kk : Keeps (fun _ => False) wr W) => rlaid_any a (w4.heap.size + 1) W (by have := heap_lt HI.out.1; have := kk.size; omega) t (.slice r t.l.length c) (own_grow HI.out.2.1 kk) (by have h2 : t.l.length ≤ j := HI.out.2.2.2.2; have h3 : xs.length ≤ 1000000 := HXN.out; omega) x m
                have HDR := Hid.mk' hdr
                clear hdr hx hq0 ht0 e2
                rw [← Nat.add_assoc] at htt
                by_cases h3 : j < LE.size
                · have h3' : (j : Int) < (LE.size : Int) := by omega
                  have hLj : (LE[j]'h3) = lett a := (HLET.out j a ha).1 h3
                  cases hxq : x.quoted with
                  | true =>
                    rw [hxq] at hq hqa
                    have HNW := Hid.mk' (ldF_quo (t := t) (x := x) (n := 0) hqa)
                    have KN := Hid.mk' (Keeps.refl (fun _ => False) wr)
                    go_upto_region 29 with (fail)
                    have HNK := Hid.mk' (KN.out.trans (Keeps.drewN (fun _ => False) wr 1))
                    refine wp_region_held_drew (S := fun wx => wx.rangeAt bx (ox + j * 2) (rcell x).toList) (by kernel_rfl) (fun q u hqq => HNK.out.cell (HREG.out.2 q u hqq) id) (fun hS => ?_)
                    refine takeH 1 (some 93) (.int .u8 (((lett a).toNat : Nat) : Int)) rfl rfl (by kernel_rfl) (by kernel_rfl) (by kernel_rfl) (fun _ _ _ h => h) (Or.inl ⟨by rfl, fun wx _ => by go_simp⟩) hS ?_
                    try simp only [Act.put, List.setIfInBounds_toArray, List.set_cons_zero, List.set_cons_succ]
                    refine takeH 2 (some 94) (.slice (some ⟨bx, ox, none⟩) xs.length (ca - 1)) rfl rfl (by kernel_rfl) (by kernel_rfl) (by kernel_rfl) (fun _ _ _ h => h) (Or.inl ⟨by rfl, fun wx _ => by go_simp⟩) hS ?_
                    try simp only [Act.put, List.setIfInBounds_toArray, List.set_cons_zero, List.set_cons_succ]
                    refine takeH 3 (some 95) (.int .i64 j) rfl rfl (by kernel_rfl) (by kernel_rfl) (by kernel_rfl) (fun _ _ _ h => h) (Or.inl ⟨by rfl, fun wx _ => by go_simp⟩) hS ?_
                    try simp only [Act.put, List.setIfInBounds_toArray, List.set_cons_zero, List.set_cons_succ]
                    refine takeH 4 (some 96) (.pointer (some ⟨bx, ox + j * 2, none⟩)) rfl rfl (by kernel_rfl) (by kernel_rfl) (by kernel_rfl) (fun _ _ _ h => h) (Or.inl ⟨by rfl, fun wx _ => by go_simp⟩) hS ?_
                    try simp only [Act.put, List.setIfInBounds_toArray, List.set_cons_zero, List.set_cons_succ]
                    refine takeH 5 (some 97) (.agg (rcell x)) rfl rfl (by kernel_rfl) (by kernel_rfl) (by kernel_rfl) (fun _ _ _ h => h) (yieldsIf_load_mid (by rfl) 82 (.tmp 96) rfl bx (ox + j * 2) (by rfl) (rcell x).toList _ (fun _ h => h) Tryz.underlying82 rfl sizeR) hS ?_
                    try simp only [Act.put, List.setIfInBounds_toArray, List.set_cons_zero, List.set_cons_succ]
                    refine takeH 6 (some 98) (.int .i64 0) rfl rfl (by kernel_rfl) (by kernel_rfl) (by kernel_rfl) (fun _ _ _ h => h) (Or.inl ⟨by rfl, fun wx _ => by go_simp⟩) hS ?_
                    try simp only [Act.put, List.setIfInBounds_toArray, List.set_cons_zero, List.set_cons_succ]
                    refine wpAnyH_ready (rs := [0]) (by kernel_rfl) (by simp) (AllReadyH.cons rfl (fun K hK => ?_) AllReadyH.nil)
                    rw [if_pos (by rfl)]
                    refine wp_load_row 24 (.tmp 9) rfl w4.heap.size (by rfl) 24 (scell t (.slice r t.l.length c)) (0, 0) _ (HNK.out.at HI.out.1 id) Tryz.underlying24 rfl size24 ?_
                    refine hK.out _ _ hS (fun hS => ?_)
                    clear hK
                    try simp only [Act.put, List.setIfInBounds_toArray]
                    refine wpAnyH_ready (rs := [7]) (by kernel_rfl) (by simp) (AllReadyH.cons rfl (fun K hK => ?_) AllReadyH.nil)
                    go_simp
                    go_at_call 42
                    refine (hld 0 _ HNK.out).mono ?_
                    clear hld
                    rintro e w6 ⟨v6, rfl, h6⟩
                    obtain ⟨r6, c6, hv6, _, _⟩ := id (Row.of_own h6.out.1)
                    subst hv6
                    have H6 := Hid.mk' h6.out
                    have HB6 := Hid.mk' (H6.out.2.at (HNK.out.at HI.out.1 id) (show ¬ w4.heap.size + 1 ≤ w4.heap.size by omega))
                    refine hK.out _ _ (fun q u hqq => h6.out.2.cell (hS q u hqq) (show ¬ w4.heap.size + 1 ≤ bx by omega)) (fun hS => ?_)
                    clear hK h6
                    try simp only [Act.put, List.setIfInBounds_toArray, List.set_cons_zero, List.set_cons_succ]
                    refine wpAnyH_ready (rs := [8]) (by kernel_rfl) (by simp) (AllReadyH.cons rfl (fun K hK => ?_) AllReadyH.nil)
                    rw [if_pos (by rfl)]
                    refine wp_store_row 24 (.tmp 9) (.tmp 99) rfl w4.heap.size (scell (ldF a t x 0) (.slice r6 (ldF a t x 0).l.length c6)) (by rfl) (by rfl) 24 (scell t (.slice r t.l.length c)) HB6.out size24 rfl (by simp [scell, Value.oneCell']) ?_
                    refine hK.out _ _ (fun q u hqq => (Keeps.setRow (X := fun q => q = w4.heap.size) (Keeps.refl _ _) _ _ (Or.inr rfl)).cell (hS q u hqq) (show ¬ bx = w4.heap.size by omega)) (fun hS => ?_)
                    clear hK
                    try simp only [Act.put, List.setIfInBounds_toArray]
                    refine wpAnyH_done (by kernel_rfl) ?_ _
                    go_wp2
                    go_roundw
                    case rel => exact ⟨j + 1, ldF a t x 0, r6, c6, by omega, by go_num, setRow_heap _ _ _ _ _ _ HB6.out, own_keep H6.out.1 (Keeps.setRow (X := fun q => q = w4.heap.size) (Keeps.refl _ _) _ _ (Or.inr rfl)) (row_ne HB6.out H6.out.1), ((HI.out.2.2.1.trans (HNK.out.mono (fun _ _ h => h.elim))).trans (H6.out.2.mono (fun _ _ h => Nat.le_of_succ_le h))).setRow _ _ (Or.inr (Nat.le_refl _)), by rw [HI.out.2.2.2.1, HDR.out, HNW.out.1, if_pos rfl, HNW.out.2], by have h7 := ldF_len a t x 0; have h8 : t.l.length ≤ j := HI.out.2.2.2.2; omega⟩
                    case measure => simp [intOf]; omega

                  | false =>
                    rw [hxq] at hq hqa
                    cases hnm : num x.text.data.toList with
                    | none =>
                      have HF := Hid.mk' (rdF_none (t := t) hqa hnm)
                      have HST : Hid (stF k.args 0 (st0 k.num) xs = none) := by show _ = _; rw [HI.out.2.2.2.1, HDR.out, HF.out, if_neg (by decide)]
                      have hE : lnE s.data.toList = 193 := by rw [HE0.out, HST.out]; rfl
                      have hS : lnS s.data.toList = st0 0 := by rw [HS0.out, HST.out]; rfl
                      clear hld
                      go_wp2_with (first
                        | (clear S6; go_at_call 41; refine (rnumber_any _ x.text).mono ?_; rintro e w5 ⟨n5, rfl, h5⟩; rw [hnm] at h5 ⊢; have H5 := Hid.mk' h5.out; clear h5; skip; have KN := Hid.mk' H5.out.2; have HG := Hid.mk' (KN.out.at (HKK.out.at HG.out (show ¬ w4.heap.size ≤ w.heap.size by have := heap_lt HG.out; omega)) id); have S7 := Hid.mk' True.intro)
                        | (clear S7; refine wpList_store_row rfl 24 (.tmp 2) _ rfl w.heap.size #[.int .i64 0, .string ⟨#[]⟩, .string ⟨#[]⟩, .int .i64 0, .int .i64 0, .int .i64 0, .slice none 0 0] (by rfl) (by rfl) 24 #[.int .i64 0, .string ⟨#[]⟩, .string ⟨#[]⟩, .int .i64 0, .int .i64 0, .int .i64 0, .slice none 0 0] (HG.out) size24 rfl (by simp [Value.oneCell']) ?_; have S8 := Hid.mk' True.intro))
                      exact bodyPost_ret (results_cell_slot rfl _ _ w.heap.size 24 #[.int .i64 0, .string ⟨#[]⟩, .string ⟨#[]⟩, .int .i64 0, .int .i64 0, .int .i64 0, .slice none 0 0] (0, 0) _ rfl (setRow_heap _ _ _ _ _ _ (HG.out)) Tryz.underlying24 rfl size24) rfl ⟨.slice none 0 0, by rw [hE, hS]; rfl, by rw [hS]; exact ⟨World.ownsRow_nil _ _ _ _, ((HKall.out.trans (HKK.out.mono (fun q hq h => absurd hq (Nat.not_lt.2 h)))).trans KN.out).setRow _ _ (Or.inl (Nat.le_refl _))⟩⟩

                    | some nv =>
                      have HNW := Hid.mk' (ldF_num (t := t) hqa hnm)
                      go_upto_region 29 with (first
                        | (clear S6; go_at_call 41; refine (rnumber_any _ x.text).mono ?_; rintro e w5 ⟨n5, rfl, h5⟩; rw [hnm] at h5 ⊢; have H5 := Hid.mk' h5.out; clear h5; have e5 : n5 = nv := H5.out.1 nv rfl; subst e5; have KN := Hid.mk' H5.out.2; skip; have S7 := Hid.mk' True.intro))
                      have HNK := Hid.mk' (KN.out.trans (Keeps.drewN (fun _ => False) w5 1))
                      refine wp_region_held_drew (S := fun wx => wx.rangeAt bx (ox + j * 2) (rcell x).toList) (by kernel_rfl) (fun q u hqq => HNK.out.cell (HREG.out.2 q u hqq) id) (fun hS => ?_)
                      refine takeH 1 (some 93) (.int .u8 (((lett a).toNat : Nat) : Int)) rfl rfl (by kernel_rfl) (by kernel_rfl) (by kernel_rfl) (fun _ _ _ h => h) (Or.inl ⟨by rfl, fun wx _ => by go_simp⟩) hS ?_
                      try simp only [Act.put, List.setIfInBounds_toArray, List.set_cons_zero, List.set_cons_succ]
                      refine takeH 2 (some 94) (.slice (some ⟨bx, ox, none⟩) xs.length (ca - 1)) rfl rfl (by kernel_rfl) (by kernel_rfl) (by kernel_rfl) (fun _ _ _ h => h) (Or.inl ⟨by rfl, fun wx _ => by go_simp⟩) hS ?_
                      try simp only [Act.put, List.setIfInBounds_toArray, List.set_cons_zero, List.set_cons_succ]
                      refine takeH 3 (some 95) (.int .i64 j) rfl rfl (by kernel_rfl) (by kernel_rfl) (by kernel_rfl) (fun _ _ _ h => h) (Or.inl ⟨by rfl, fun wx _ => by go_simp⟩) hS ?_
                      try simp only [Act.put, List.setIfInBounds_toArray, List.set_cons_zero, List.set_cons_succ]
                      refine takeH 4 (some 96) (.pointer (some ⟨bx, ox + j * 2, none⟩)) rfl rfl (by kernel_rfl) (by kernel_rfl) (by kernel_rfl) (fun _ _ _ h => h) (Or.inl ⟨by rfl, fun wx _ => by go_simp⟩) hS ?_
                      try simp only [Act.put, List.setIfInBounds_toArray, List.set_cons_zero, List.set_cons_succ]
                      refine takeH 5 (some 97) (.agg (rcell x)) rfl rfl (by kernel_rfl) (by kernel_rfl) (by kernel_rfl) (fun _ _ _ h => h) (yieldsIf_load_mid (by rfl) 82 (.tmp 96) rfl bx (ox + j * 2) (by rfl) (rcell x).toList _ (fun _ h => h) Tryz.underlying82 rfl sizeR) hS ?_
                      try simp only [Act.put, List.setIfInBounds_toArray, List.set_cons_zero, List.set_cons_succ]
                      refine takeH 6 (some 98) (.int .i64 n5) rfl rfl (by kernel_rfl) (by kernel_rfl) (by kernel_rfl) (fun _ _ _ h => h) (Or.inl ⟨by rfl, fun wx _ => by go_simp⟩) hS ?_
                      try simp only [Act.put, List.setIfInBounds_toArray, List.set_cons_zero, List.set_cons_succ]
                      refine wpAnyH_ready (rs := [0]) (by kernel_rfl) (by simp) (AllReadyH.cons rfl (fun K hK => ?_) AllReadyH.nil)
                      rw [if_pos (by rfl)]
                      refine wp_load_row 24 (.tmp 9) rfl w4.heap.size (by rfl) 24 (scell t (.slice r t.l.length c)) (0, 0) _ (HNK.out.at HI.out.1 id) Tryz.underlying24 rfl size24 ?_
                      refine hK.out _ _ hS (fun hS => ?_)
                      clear hK
                      try simp only [Act.put, List.setIfInBounds_toArray]
                      refine wpAnyH_ready (rs := [7]) (by kernel_rfl) (by simp) (AllReadyH.cons rfl (fun K hK => ?_) AllReadyH.nil)
                      go_simp
                      go_at_call 42
                      refine (hld n5 _ HNK.out).mono ?_
                      clear hld
                      rintro e w6 ⟨v6, rfl, h6⟩
                      obtain ⟨r6, c6, hv6, _, _⟩ := id (Row.of_own h6.out.1)
                      subst hv6
                      have H6 := Hid.mk' h6.out
                      have HB6 := Hid.mk' (H6.out.2.at (HNK.out.at HI.out.1 id) (show ¬ w4.heap.size + 1 ≤ w4.heap.size by omega))
                      refine hK.out _ _ (fun q u hqq => h6.out.2.cell (hS q u hqq) (show ¬ w4.heap.size + 1 ≤ bx by omega)) (fun hS => ?_)
                      clear hK h6
                      try simp only [Act.put, List.setIfInBounds_toArray, List.set_cons_zero, List.set_cons_succ]
                      refine wpAnyH_ready (rs := [8]) (by kernel_rfl) (by simp) (AllReadyH.cons rfl (fun K hK => ?_) AllReadyH.nil)
                      rw [if_pos (by rfl)]
                      refine wp_store_row 24 (.tmp 9) (.tmp 99) rfl w4.heap.size (scell (ldF a t x n5) (.slice r6 (ldF a t x n5).l.length c6)) (by rfl) (by rfl) 24 (scell t (.slice r t.l.length c)) HB6.out size24 rfl (by simp [scell, Value.oneCell']) ?_
                      refine hK.out _ _ (fun q u hqq => (Keeps.setRow (X := fun q => q = w4.heap.size) (Keeps.refl _ _) _ _ (Or.inr rfl)).cell (hS q u hqq) (show ¬ bx = w4.heap.size by omega)) (fun hS => ?_)
                      clear hK
                      try simp only [Act.put, List.setIfInBounds_toArray]
                      refine wpAnyH_done (by kernel_rfl) ?_ _
                      go_wp2
                      go_roundw
                      case rel => exact ⟨j + 1, ldF a t x n5, r6, c6, by omega, by go_num, setRow_heap _ _ _ _ _ _ HB6.out, own_keep H6.out.1 (Keeps.setRow (X := fun q => q = w4.heap.size) (Keeps.refl _ _) _ _ (Or.inr rfl)) (row_ne HB6.out H6.out.1), ((HI.out.2.2.1.trans (HNK.out.mono (fun _ _ h => h.elim))).trans (H6.out.2.mono (fun _ _ h => Nat.le_of_succ_le h))).setRow _ _ (Or.inr (Nat.le_refl _)), by rw [HI.out.2.2.2.1, HDR.out, HNW.out.1, if_pos rfl, HNW.out.2], by have h7 := ldF_len a t x n5; have h8 : t.l.length ≤ j := HI.out.2.2.2.2; omega⟩
                      case measure => simp [intOf]; omega

                · have h3' : ¬ (j : Int) < (LE.size : Int) := by omega
                  have hal : a = .L := (HLET.out j a ha).2 h3
                  have hl76 : (((lett a).toNat : Nat) : Int) = 76 := by rw [hal]; rfl
                  rw [hl76] at hld
                  clear hl76 hal
                  cases hxq : x.quoted with
                  | true =>
                    rw [hxq] at hq hqa
                    have HNW := Hid.mk' (ldF_quo (t := t) (x := x) (n := 0) hqa)
                    have KN := Hid.mk' (Keeps.refl (fun _ => False) wr)
                    go_upto_region 29 with (fail)
                    have HNK := Hid.mk' (KN.out.trans (Keeps.drewN (fun _ => False) wr 1))
                    refine wp_region_held_drew (S := fun wx => wx.rangeAt bx (ox + j * 2) (rcell x).toList) (by kernel_rfl) (fun q u hqq => HNK.out.cell (HREG.out.2 q u hqq) id) (fun hS => ?_)
                    refine takeH 1 (some 93) (.int .u8 76) rfl rfl (by kernel_rfl) (by kernel_rfl) (by kernel_rfl) (fun _ _ _ h => h) (Or.inl ⟨by rfl, fun wx _ => by go_simp⟩) hS ?_
                    try simp only [Act.put, List.setIfInBounds_toArray, List.set_cons_zero, List.set_cons_succ]
                    refine takeH 2 (some 94) (.slice (some ⟨bx, ox, none⟩) xs.length (ca - 1)) rfl rfl (by kernel_rfl) (by kernel_rfl) (by kernel_rfl) (fun _ _ _ h => h) (Or.inl ⟨by rfl, fun wx _ => by go_simp⟩) hS ?_
                    try simp only [Act.put, List.setIfInBounds_toArray, List.set_cons_zero, List.set_cons_succ]
                    refine takeH 3 (some 95) (.int .i64 j) rfl rfl (by kernel_rfl) (by kernel_rfl) (by kernel_rfl) (fun _ _ _ h => h) (Or.inl ⟨by rfl, fun wx _ => by go_simp⟩) hS ?_
                    try simp only [Act.put, List.setIfInBounds_toArray, List.set_cons_zero, List.set_cons_succ]
                    refine takeH 4 (some 96) (.pointer (some ⟨bx, ox + j * 2, none⟩)) rfl rfl (by kernel_rfl) (by kernel_rfl) (by kernel_rfl) (fun _ _ _ h => h) (Or.inl ⟨by rfl, fun wx _ => by go_simp⟩) hS ?_
                    try simp only [Act.put, List.setIfInBounds_toArray, List.set_cons_zero, List.set_cons_succ]
                    refine takeH 5 (some 97) (.agg (rcell x)) rfl rfl (by kernel_rfl) (by kernel_rfl) (by kernel_rfl) (fun _ _ _ h => h) (yieldsIf_load_mid (by rfl) 82 (.tmp 96) rfl bx (ox + j * 2) (by rfl) (rcell x).toList _ (fun _ h => h) Tryz.underlying82 rfl sizeR) hS ?_
                    try simp only [Act.put, List.setIfInBounds_toArray, List.set_cons_zero, List.set_cons_succ]
                    refine takeH 6 (some 98) (.int .i64 0) rfl rfl (by kernel_rfl) (by kernel_rfl) (by kernel_rfl) (fun _ _ _ h => h) (Or.inl ⟨by rfl, fun wx _ => by go_simp⟩) hS ?_
                    try simp only [Act.put, List.setIfInBounds_toArray, List.set_cons_zero, List.set_cons_succ]
                    refine wpAnyH_ready (rs := [0]) (by kernel_rfl) (by simp) (AllReadyH.cons rfl (fun K hK => ?_) AllReadyH.nil)
                    rw [if_pos (by rfl)]
                    refine wp_load_row 24 (.tmp 9) rfl w4.heap.size (by rfl) 24 (scell t (.slice r t.l.length c)) (0, 0) _ (HNK.out.at HI.out.1 id) Tryz.underlying24 rfl size24 ?_
                    refine hK.out _ _ hS (fun hS => ?_)
                    clear hK
                    try simp only [Act.put, List.setIfInBounds_toArray]
                    refine wpAnyH_ready (rs := [7]) (by kernel_rfl) (by simp) (AllReadyH.cons rfl (fun K hK => ?_) AllReadyH.nil)
                    go_simp
                    go_at_call 42
                    refine (hld 0 _ HNK.out).mono ?_
                    clear hld
                    rintro e w6 ⟨v6, rfl, h6⟩
                    obtain ⟨r6, c6, hv6, _, _⟩ := id (Row.of_own h6.out.1)
                    subst hv6
                    have H6 := Hid.mk' h6.out
                    have HB6 := Hid.mk' (H6.out.2.at (HNK.out.at HI.out.1 id) (show ¬ w4.heap.size + 1 ≤ w4.heap.size by omega))
                    refine hK.out _ _ (fun q u hqq => h6.out.2.cell (hS q u hqq) (show ¬ w4.heap.size + 1 ≤ bx by omega)) (fun hS => ?_)
                    clear hK h6
                    try simp only [Act.put, List.setIfInBounds_toArray, List.set_cons_zero, List.set_cons_succ]
                    refine wpAnyH_ready (rs := [8]) (by kernel_rfl) (by simp) (AllReadyH.cons rfl (fun K hK => ?_) AllReadyH.nil)
                    rw [if_pos (by rfl)]
                    refine wp_store_row 24 (.tmp 9) (.tmp 99) rfl w4.heap.size (scell (ldF a t x 0) (.slice r6 (ldF a t x 0).l.length c6)) (by rfl) (by rfl) 24 (scell t (.slice r t.l.length c)) HB6.out size24 rfl (by simp [scell, Value.oneCell']) ?_
                    refine hK.out _ _ (fun q u hqq => (Keeps.setRow (X := fun q => q = w4.heap.size) (Keeps.refl _ _) _ _ (Or.inr rfl)).cell (hS q u hqq) (show ¬ bx = w4.heap.size by omega)) (fun hS => ?_)
                    clear hK
                    try simp only [Act.put, List.setIfInBounds_toArray]
                    refine wpAnyH_done (by kernel_rfl) ?_ _
                    go_wp2
                    go_roundw
                    case rel => exact ⟨j + 1, ldF a t x 0, r6, c6, by omega, by go_num, setRow_heap _ _ _ _ _ _ HB6.out, own_keep H6.out.1 (Keeps.setRow (X := fun q => q = w4.heap.size) (Keeps.refl _ _) _ _ (Or.inr rfl)) (row_ne HB6.out H6.out.1), ((HI.out.2.2.1.trans (HNK.out.mono (fun _ _ h => h.elim))).trans (H6.out.2.mono (fun _ _ h => Nat.le_of_succ_le h))).setRow _ _ (Or.inr (Nat.le_refl _)), by rw [HI.out.2.2.2.1, HDR.out, HNW.out.1, if_pos rfl, HNW.out.2], by have h7 := ldF_len a t x 0; have h8 : t.l.length ≤ j := HI.out.2.2.2.2; omega⟩
                    case measure => simp [intOf]; omega

                  | false =>
                    rw [hxq] at hq hqa
                    cases hnm : num x.text.data.toList with
                    | none =>
                      have HF := Hid.mk' (rdF_none (t := t) hqa hnm)
                      have HST : Hid (stF k.args 0 (st0 k.num) xs = none) := by show _ = _; rw [HI.out.2.2.2.1, HDR.out, HF.out, if_neg (by decide)]
                      have hE : lnE s.data.toList = 193 := by rw [HE0.out, HST.out]; rfl
                      have hS : lnS s.data.toList = st0 0 := by rw [HS0.out, HST.out]; rfl
                      clear hld
                      go_wp2_with (first
                        | (clear S6; go_at_call 41; refine (rnumber_any _ x.text).mono ?_; rintro e w5 ⟨n5, rfl, h5⟩; rw [hnm] at h5 ⊢; have H5 := Hid.mk' h5.out; clear h5; skip; have KN := Hid.mk' H5.out.2; have HG := Hid.mk' (KN.out.at (HKK.out.at HG.out (show ¬ w4.heap.size ≤ w.heap.size by have := heap_lt HG.out; omega)) id); have S7 := Hid.mk' True.intro)
                        | (clear S7; refine wpList_store_row rfl 24 (.tmp 2) _ rfl w.heap.size #[.int .i64 0, .string ⟨#[]⟩, .string ⟨#[]⟩, .int .i64 0, .int .i64 0, .int .i64 0, .slice none 0 0] (by rfl) (by rfl) 24 #[.int .i64 0, .string ⟨#[]⟩, .string ⟨#[]⟩, .int .i64 0, .int .i64 0, .int .i64 0, .slice none 0 0] (HG.out) size24 rfl (by simp [Value.oneCell']) ?_; have S8 := Hid.mk' True.intro))
                      exact bodyPost_ret (results_cell_slot rfl _ _ w.heap.size 24 #[.int .i64 0, .string ⟨#[]⟩, .string ⟨#[]⟩, .int .i64 0, .int .i64 0, .int .i64 0, .slice none 0 0] (0, 0) _ rfl (setRow_heap _ _ _ _ _ _ (HG.out)) Tryz.underlying24 rfl size24) rfl ⟨.slice none 0 0, by rw [hE, hS]; rfl, by rw [hS]; exact ⟨World.ownsRow_nil _ _ _ _, ((HKall.out.trans (HKK.out.mono (fun q hq h => absurd hq (Nat.not_lt.2 h)))).trans KN.out).setRow _ _ (Or.inl (Nat.le_refl _))⟩⟩

                    | some nv =>
                      have HNW := Hid.mk' (ldF_num (t := t) hqa hnm)
                      go_upto_region 29 with (first
                        | (clear S6; go_at_call 41; refine (rnumber_any _ x.text).mono ?_; rintro e w5 ⟨n5, rfl, h5⟩; rw [hnm] at h5 ⊢; have H5 := Hid.mk' h5.out; clear h5; have e5 : n5 = nv := H5.out.1 nv rfl; subst e5; have KN := Hid.mk' H5.out.2; skip; have S7 := Hid.mk' True.intro))
                      have HNK := Hid.mk' (KN.out.trans (Keeps.drewN (fun _ => False) w5 1))
                      refine wp_region_held_drew (S := fun wx => wx.rangeAt bx (ox + j * 2) (rcell x).toList) (by kernel_rfl) (fun q u hqq => HNK.out.cell (HREG.out.2 q u hqq) id) (fun hS => ?_)
                      refine takeH 1 (some 93) (.int .u8 76) rfl rfl (by kernel_rfl) (by kernel_rfl) (by kernel_rfl) (fun _ _ _ h => h) (Or.inl ⟨by rfl, fun wx _ => by go_simp⟩) hS ?_
                      try simp only [Act.put, List.setIfInBounds_toArray, List.set_cons_zero, List.set_cons_succ]
                      refine takeH 2 (some 94) (.slice (some ⟨bx, ox, none⟩) xs.length (ca - 1)) rfl rfl (by kernel_rfl) (by kernel_rfl) (by kernel_rfl) (fun _ _ _ h => h) (Or.inl ⟨by rfl, fun wx _ => by go_simp⟩) hS ?_
                      try simp only [Act.put, List.setIfInBounds_toArray, List.set_cons_zero, List.set_cons_succ]
                      refine takeH 3 (some 95) (.int .i64 j) rfl rfl (by kernel_rfl) (by kernel_rfl) (by kernel_rfl) (fun _ _ _ h => h) (Or.inl ⟨by rfl, fun wx _ => by go_simp⟩) hS ?_
                      try simp only [Act.put, List.setIfInBounds_toArray, List.set_cons_zero, List.set_cons_succ]
                      refine takeH 4 (some 96) (.pointer (some ⟨bx, ox + j * 2, none⟩)) rfl rfl (by kernel_rfl) (by kernel_rfl) (by kernel_rfl) (fun _ _ _ h => h) (Or.inl ⟨by rfl, fun wx _ => by go_simp⟩) hS ?_
                      try simp only [Act.put, List.setIfInBounds_toArray, List.set_cons_zero, List.set_cons_succ]
                      refine takeH 5 (some 97) (.agg (rcell x)) rfl rfl (by kernel_rfl) (by kernel_rfl) (by kernel_rfl) (fun _ _ _ h => h) (yieldsIf_load_mid (by rfl) 82 (.tmp 96) rfl bx (ox + j * 2) (by rfl) (rcell x).toList _ (fun _ h => h) Tryz.underlying82 rfl sizeR) hS ?_
                      try simp only [Act.put, List.setIfInBounds_toArray, List.set_cons_zero, List.set_cons_succ]
                      refine takeH 6 (some 98) (.int .i64 n5) rfl rfl (by kernel_rfl) (by kernel_rfl) (by kernel_rfl) (fun _ _ _ h => h) (Or.inl ⟨by rfl, fun wx _ => by go_simp⟩) hS ?_
                      try simp only [Act.put, List.setIfInBounds_toArray, List.set_cons_zero, List.set_cons_succ]
                      refine wpAnyH_ready (rs := [0]) (by kernel_rfl) (by simp) (AllReadyH.cons rfl (fun K hK => ?_) AllReadyH.nil)
                      rw [if_pos (by rfl)]
                      refine wp_load_row 24 (.tmp 9) rfl w4.heap.size (by rfl) 24 (scell t (.slice r t.l.length c)) (0, 0) _ (HNK.out.at HI.out.1 id) Tryz.underlying24 rfl size24 ?_
                      refine hK.out _ _ hS (fun hS => ?_)
                      clear hK
                      try simp only [Act.put, List.setIfInBounds_toArray]
                      refine wpAnyH_ready (rs := [7]) (by kernel_rfl) (by simp) (AllReadyH.cons rfl (fun K hK => ?_) AllReadyH.nil)
                      go_simp
                      go_at_call 42
                      refine (hld n5 _ HNK.out).mono ?_
                      clear hld
                      rintro e w6 ⟨v6, rfl, h6⟩
                      obtain ⟨r6, c6, hv6, _, _⟩ := id (Row.of_own h6.out.1)
                      subst hv6
                      have H6 := Hid.mk' h6.out
                      have HB6 := Hid.mk' (H6.out.2.at (HNK.out.at HI.out.1 id) (show ¬ w4.heap.size + 1 ≤ w4.heap.size by omega))
                      refine hK.out _ _ (fun q u hqq => h6.out.2.cell (hS q u hqq) (show ¬ w4.heap.size + 1 ≤ bx by omega)) (fun hS => ?_)
                      clear hK h6
                      try simp only [Act.put, List.setIfInBounds_toArray, List.set_cons_zero, List.set_cons_succ]
                      refine wpAnyH_ready (rs := [8]) (by kernel_rfl) (by simp) (AllReadyH.cons rfl (fun K hK => ?_) AllReadyH.nil)
                      rw [if_pos (by rfl)]
                      refine wp_store_row 24 (.tmp 9) (.tmp 99) rfl w4.heap.size (scell (ldF a t x n5) (.slice r6 (ldF a t x n5).l.length c6)) (by rfl) (by rfl) 24 (scell t (.slice r t.l.length c)) HB6.out size24 rfl (by simp [scell, Value.oneCell']) ?_
                      refine hK.out _ _ (fun q u hqq => (Keeps.setRow (X := fun q => q = w4.heap.size) (Keeps.refl _ _) _ _ (Or.inr rfl)).cell (hS q u hqq) (show ¬ bx = w4.heap.size by omega)) (fun hS => ?_)
                      clear hK
                      try simp only [Act.put, List.setIfInBounds_toArray]
                      refine wpAnyH_done (by kernel_rfl) ?_ _
                      go_wp2
                      go_roundw
                      case rel => exact ⟨j + 1, ldF a t x n5, r6, c6, by omega, by go_num, setRow_heap _ _ _ _ _ _ HB6.out, own_keep H6.out.1 (Keeps.setRow (X := fun q => q = w4.heap.size) (Keeps.refl _ _) _ _ (Or.inr rfl)) (row_ne HB6.out H6.out.1), ((HI.out.2.2.1.trans (HNK.out.mono (fun _ _ h => h.elim))).trans (H6.out.2.mono (fun _ _ h => Nat.le_of_succ_le h))).setRow _ _ (Or.inr (Nat.le_refl _)), by rw [HI.out.2.2.2.1, HDR.out, HNW.out.1, if_pos rfl, HNW.out.2], by have h7 := ldF_len a t x n5; have h8 : t.l.length ≤ j := HI.out.2.2.2.2; omega⟩
                      case measure => simp [intOf]; omega

              · have h1' : ¬ (j : Int) < (xs.length : Int) := by omega
                have HFIN : Hid (stF k.args 0 (st0 k.num) xs = some t) := by show _ = _; rw [HI.out.2.2.2.1, List.drop_of_length_le (by omega)]; rfl
                have HE := Hid.mk' (show lnE s.data.toList = 0 by rw [HE0.out, HFIN.out]; rfl)
                have HSS := Hid.mk' (show lnS s.data.toList = t by rw [HS0.out, HFIN.out]; rfl)
                have HKK := Hid.mk' ((HW5.out.mono (fun _ _ h => h.elim)).trans HI.out.2.2.1)
                have HGr := Hid.mk' (HKK.out.at HG.out (show ¬ w4.heap.size ≤ w.heap.size by have := heap_lt HG.out; omega))
                have hWl : w.heap.size < w4.heap.size := heap_lt HG.out
                go_wp2_with (first
                  | (clear S6; refine wpList_load_row rfl 24 (.tmp 9) rfl w4.heap.size (by rfl) 24 (scell t (.slice r t.l.length c)) (0, 0) _ HI.out.1 Tryz.underlying24 rfl size24 ?_; have S7 := Hid.mk' True.intro)
                  | (clear S7; refine wpList_store_row rfl 24 (.tmp 2) _ rfl w.heap.size (scell t (.slice r t.l.length c)) (by rfl) (by rfl) 24 #[.int .i64 0, .string ⟨#[]⟩, .string ⟨#[]⟩, .int .i64 0, .int .i64 0, .int .i64 0, .slice none 0 0] HGr.out size24 rfl (by simp [scell, Value.oneCell']) ?_; have S8 := Hid.mk' True.intro))
                exact bodyPost_ret (results_cell_slot rfl _ _ w.heap.size 24 (scell t (.slice r t.l.length c)) (0, 0) _ rfl (setRow_heap _ _ _ _ _ _ HGr.out) Tryz.underlying24 rfl size24) rfl ⟨.slice r t.l.length c, by rw [HE.out, HSS.out]; rfl, by rw [HSS.out]; exact ⟨own_base (own_keep HI.out.2.1 (Keeps.setRow (X := fun q => q = w.heap.size) (Keeps.refl _ wr) _ _ (Or.inr rfl)) (row_ne HGr.out HI.out.2.1)) (by omega), (HKall.out.trans (HKK.out.mono (fun q hq h => absurd hq (Nat.not_lt.2 h)))).setRow _ _ (Or.inl (Nat.le_refl _))⟩⟩
end Go.Proofs.YtdlhdompemkjfaaGreatDoor
