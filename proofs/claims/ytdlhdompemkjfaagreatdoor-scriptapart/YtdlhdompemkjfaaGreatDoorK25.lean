import Derived.Test.YtdlhdompemkjfaaGreatDoorK24
namespace Go.Proofs.YtdlhdompemkjfaaGreatDoor
open Go.RowKit Go.Maps
set_option maxRecDepth 100000

/-! The document's look at the words behind the first. -/
theorem kd_parts : ∀ k ∈ kds, k.args = fxA k.args ++ (if fxL k.args = true then [.L] else []) ∧ (∀ a ∈ fxA k.args, a.lst = false) := by
  intro k hk
  constructor
  · simp only [kds, List.mem_cons, List.not_mem_nil, or_false] at hk
    rcases hk with rfl | rfl | rfl | rfl | rfl | rfl | rfl | rfl | rfl | rfl | rfl | rfl | rfl | rfl | rfl | rfl | rfl | rfl | rfl | rfl | rfl <;> rfl
  · intro a ha
    have := (List.mem_filter.1 ha).2
    simpa using this
theorem at_fix {k : Kd} (hk : k ∈ kds) {j : Nat} {a : Ar} (h : (fxA k.args)[j]? = some a) : argAt k.args j = some a := by
  refine argAt_some ?_
  rw [(kd_parts k hk).1, List.getElem?_append_left (List.getElem?_eq_some_iff.1 h).1]
  exact h
theorem at_list {k : Kd} (hk : k ∈ kds) (hL : fxL k.args = true) {j : Nat} (h : (fxA k.args).length ≤ j) : argAt k.args j = some .L := by
  have e := (kd_parts k hk).1
  rw [if_pos hL] at e
  exact at_last e j h
theorem at_no {k : Kd} (hk : k ∈ kds) (hL : fxL k.args = false) {j : Nat} (h : (fxA k.args).length ≤ j) : argAt k.args j = none := by
  have e := (kd_parts k hk).1
  rw [if_neg (by rw [hL]; decide), List.append_nil] at e
  have hl : ¬ j < k.args.length := by rw [e]; omega
  have hlast := (kd_parts k hk).2
  rw [← e] at hlast
  cases hx : k.args[k.args.length - 1]? with
  | none =>
    unfold argAt
    rw [List.getElem?_eq_none (by omega), hx]
  | some a =>
    rw [argAt_end hl hx, hlast a (List.mem_of_getElem? hx)]
    rfl
theorem tkF_at {l : List Ar} : ∀ (xs : List Wd) (i j : Nat), tkF l i xs = true → j < xs.length → ∃ a, argAt l (i + j) = some a
  | [], _, _, _, h => by cases h
  | x :: xs, i, j, h, hj => by
    unfold tkF at h
    rw [Bool.and_eq_true] at h
    cases j with
    | zero =>
      cases ha : argAt l i with
      | some a => exact ⟨a, by first | rfl | exact ha⟩
      | none => rw [ha] at h; simp at h
    | succ j =>
      obtain ⟨a, ha⟩ := tkF_at xs (i + 1) j h.2 (by simpa using hj)
      exact ⟨a, by rw [show i + (j + 1) = i + 1 + j by omega]; exact ha⟩
theorem rrow_at {w : World} {v : Value} {xs : List Wd} (h : Row w v xs.length (rcells xs)) {j : Nat} {x : Wd} (hj : xs[j]? = some x) : ∃ b o c, v = .slice (some ⟨b, o, none⟩) xs.length c ∧ b < w.heap.size ∧ w.cell? ⟨b, o + j * 2, none⟩ = some (.bool x.quoted) ∧ w.cell? ⟨b, o + (j * 2 + 1), none⟩ = some (.string x.text) := by
  obtain ⟨hj2, e⟩ := List.getElem?_eq_some_iff.1 hj
  obtain ⟨a, c, rfl, _, hc⟩ := h
  obtain ⟨b, o, rfl, hb, hcell⟩ := hc (by omega)
  have key : ∀ i u, (rcell x)[i]? = some u → (rcells xs)[j * 2 + i]? = some u := by
    intro i u hi
    have hi2 : i < 2 := by have := (Array.getElem?_eq_some_iff.1 hi).1; simpa [rcell] using this
    have es : xs = xs.take j ++ x :: xs.drop (j + 1) := by
      conv => lhs; rw [← List.take_append_drop j xs, List.drop_eq_getElem_cons hj2, e]
    rw [es, rcells_app, List.getElem?_append_right (by rw [rcells_len, List.length_take]; omega), rcells_len, List.length_take, show j * 2 + i - min j xs.length * 2 = i by rw [Nat.min_eq_left (by omega)]; omega]
    have e2 : rcells (x :: xs.drop (j + 1)) = (rcell x).toList ++ rcells (xs.drop (j + 1)) := by simp [rcells]
    rw [e2, List.getElem?_append_left (by simpa [rcell] using hi2), Array.getElem?_toList]
    exact hi
  refine ⟨b, o, c, rfl, hb, ?_, ?_⟩
  · have := hcell (j * 2 + 0) _ (key 0 (.bool x.quoted) rfl)
    simpa using this
  · exact hcell (j * 2 + 1) _ (key 1 (.string x.text) rfl)
theorem lets_size (l : List Ar) : (lets l).size = l.length := by unfold lets; rw [mkB_size, List.length_map]
theorem lets_at {l : List Ar} {j : Nat} {a : Ar} (h : l[j]? = some a) (hj : j < (lets l).size) : ((lets l)[j]'hj) = lett a := by
  have e := byte_at (lets l) j hj
  have e2 : (lets l).data.toList[j]? = some (lett a) := by
    show (l.map lett)[j]? = _
    rw [List.getElem?_map, h]; rfl
  rw [e2] at e
  exact (Option.some.inj e).symm

set_option maxHeartbeats 16000000 in
theorem rsorts_any (w : World) (hv : KV w) (k : Kd) (hk : k ∈ kds) (v : Value) (xs : List Wd) (hr : Row w v xs.length (rcells xs)) (hn : xs.length ≤ 1000000) :
    Calls Tryz.prog 40 #[.int .i64 k.num, v] w fun e w' => e = .returned (.bool (takesF k.args xs)) ∧ Keeps (fun _ => False) w w' := by
  obtain ⟨pv0, cv0, rfl, _, _⟩ := id hr
  have HR := Hid.mk' hr
  have hfx := rfixed_any w hv k hk
  have HT : Hid (takesF k.args xs = (decide ((fxA k.args).length ≤ xs.length) && tkF k.args 0 xs)) := rfl
  have HA3 : Hid ((lets (fxA k.args)).size ≤ 3) := by
    show _ ≤ _
    rw [lets_size]
    exact Nat.le_trans (List.length_filter_le _ _) (kd_args3 k hk)
  have HSZ : Hid ((lets (fxA k.args)).size = (fxA k.args).length) := lets_size _
  have HFIX : Hid (∀ j a, (fxA k.args)[j]? = some a → argAt k.args j = some a) := fun j a h => at_fix hk h
  have HLIST : Hid (fxL k.args = true → ∀ j, (fxA k.args).length ≤ j → argAt k.args j = some .L) := fun hL j h => at_list hk hL h
  have HNO : Hid (fxL k.args = false → ∀ j, (fxA k.args).length ≤ j → argAt k.args j = none) := fun hL j h => at_no hk hL h
  have HLST : Hid (∀ a ∈ fxA k.args, a.lst = false) := (kd_parts k hk).2
  have HLA : Hid (∀ (j : Nat) (a : Ar) (hj : j < (lets (fxA k.args)).size), (fxA k.args)[j]? = some a → ((lets (fxA k.args))[j]'hj) = lett a) := fun j a hj h => lets_at h hj
  clear hr hv hk
  generalize k.num = kn at *
  generalize lets (fxA k.args) = S at *
  generalize hLL : fxL k.args = LL at *
  generalize fxA k.args = A at *
  clear hLL
  by_cases h1 : xs.length < S.size
  · have h1' : (xs.length : Int) < (S.size : Int) := by omega
    have HE : Hid (takesF k.args xs = false) := by show _ = _; rw [HT.out, decide_eq_false (by have := HSZ.out; omega)]; rfl
    go_enter Tryz.func40, Tryz.ntmps40
    go_wp2_with (first | (go_at_call 20; refine hfx.mono ?_; clear hfx; rintro e w1 ⟨rfl, hk1⟩; have HK1 := Hid.mk' hk1; clear hk1))
    go_ret
    exact ⟨by rw [HE.out]; rfl, HK1.out⟩
  have h1' : ¬ (xs.length : Int) < (S.size : Int) := by omega
  by_cases h2 : S.size < xs.length ∧ LL = false
  · obtain ⟨h2, rfl⟩ := h2
    have h2' : (S.size : Int) < (xs.length : Int) := by omega
    have HE : Hid (takesF k.args xs = false) := by
      show _ = _
      rw [HT.out]
      cases ht : tkF k.args 0 xs with
      | false => simp
      | true =>
        obtain ⟨a, ha⟩ := tkF_at xs 0 S.size ht h2
        rw [Nat.zero_add, HNO.out rfl S.size (by have := HSZ.out; omega)] at ha
        cases ha
    go_enter Tryz.func40, Tryz.ntmps40
    go_wp2_with (first | (go_at_call 20; refine hfx.mono ?_; clear hfx; rintro e w1 ⟨rfl, hk1⟩; have HK1 := Hid.mk' hk1; clear hk1))
    go_ret
    exact ⟨by rw [HE.out]; rfl, HK1.out⟩
  have HT2 : Hid (takesF k.args xs = tkF k.args 0 xs) := by show _ = _; rw [HT.out, decide_eq_true (by have := HSZ.out; omega)]; rfl
  have HCASE : Hid (LL = true ∨ xs.length ≤ S.size) := by
    cases LL with
    | true => exact Or.inl rfl
    | false => exact Or.inr (by rcases Nat.lt_or_ge S.size xs.length with h | h; exact absurd ⟨h, rfl⟩ h2; exact h)
  have hcond : (decide ((S.size : Int) < (xs.length : Int)) && !LL) = false := by
    rcases HCASE.out with h | h
    · rw [h]; simp
    · rw [decide_eq_false (by omega)]; rfl
  clear h2
  have hc2 : ¬ (S.size : Int) < (xs.length : Int) ∨ ((S.size : Int) < (xs.length : Int) ∧ LL = true) := by
    rcases HCASE.out with h | h
    · by_cases h3 : (S.size : Int) < (xs.length : Int)
      · exact Or.inr ⟨h3, h⟩
      · exact Or.inl h3
    · exact Or.inl (by omega)
  clear hcond
  rcases hc2 with hc2 | ⟨hc2, hc3⟩
  · go_enter Tryz.func40, Tryz.ntmps40
    go_wp2_with (first | (go_at_call 20; refine hfx.mono ?_; clear hfx; rintro e w1 ⟨rfl, hk1⟩; have HK1 := Hid.mk' hk1; clear hk1))
    go_loopw [7] (fun i wr => ∃ j : Nat, j ≤ xs.length ∧ i = .int .i64 j ∧ Hid (tkF k.args 0 xs = tkF k.args j (xs.drop j)) ∧ Hid (Keeps (fun _ => False) w wr)) (fun i _ => xs.length - (intOf i).toNat)
    case atStart => exact ⟨0, Nat.zero_le _, rfl, rfl, HK1.out⟩
    case round =>
      obtain ⟨j, hj, rfl, HJ, HK⟩ := hrel
      clear HK1
      by_cases h3 : j < xs.length
      · have h3' : (j : Int) < (xs.length : Int) := by omega
        obtain ⟨x, hx⟩ : ∃ x, xs[j]? = some x := ⟨_, List.getElem?_eq_getElem h3⟩
        obtain ⟨b, o, c, hvv, _, hq, _⟩ := rrow_at (HR.out.keep HK.out) hx
        injection hvv with e1 e2 e3
        subst e1
        subst e3
        have HD := Hid.mk' (HJ.out.trans (tkF_drop hx))
        obtain ⟨qd, hqd⟩ : ∃ q, x.quoted = q := ⟨_, rfl⟩
        rw [hqd] at hq HD
        by_cases h4 : j < S.size
        · have h4' : (j : Int) < (S.size : Int) := by omega
          obtain ⟨a, ha⟩ : ∃ a, A[j]? = some a := ⟨_, List.getElem?_eq_getElem (by have := HSZ.out; omega)⟩
          have hlt := HLA.out j a h4 ha
          have HF2 := Hid.mk' (HFIX.out j a ha)
          have hls := HLST.out a (List.mem_of_getElem? ha)
          have q65 := fun (h : (S[j]'h4) = 65) => by_yes (k := 65) 65 rfl h
          rw [HF2.out] at HD
          clear hx ha e2 hqd q65
          generalize hbb : (S[j]'h4) = bb at *
          subst hlt
          cases a with
          | L => cases hls
          | A =>
            cases qd with
            | true =>
              have HJ2 : Hid (tkF k.args 0 xs = tkF k.args (j + 1) (xs.drop (j + 1))) := by show _ = _; rw [HD.out]; rfl
              go_wp2
              go_roundw
              case rel => exact ⟨j + 1, by omega, by go_num, HJ2.out, HK.out⟩
              case measure => simp [intOf]; omega
            | false =>
              go_wp2
              go_ret
              exact ⟨by rw [HT2.out, HD.out]; rfl, HK.out⟩
          | B =>
            cases qd with
            | true =>
              have HJ2 : Hid (tkF k.args 0 xs = tkF k.args (j + 1) (xs.drop (j + 1))) := by show _ = _; rw [HD.out]; rfl
              go_wp2
              go_roundw
              case rel => exact ⟨j + 1, by omega, by go_num, HJ2.out, HK.out⟩
              case measure => simp [intOf]; omega
            | false =>
              go_wp2
              go_ret
              exact ⟨by rw [HT2.out, HD.out]; rfl, HK.out⟩
          | N =>
            cases qd with
            | true =>
              go_wp2
              go_ret
              exact ⟨by rw [HT2.out, HD.out]; rfl, HK.out⟩
            | false =>
              have HJ2 : Hid (tkF k.args 0 xs = tkF k.args (j + 1) (xs.drop (j + 1))) := by show _ = _; rw [HD.out]; rfl
              go_wp2
              go_roundw
              case rel => exact ⟨j + 1, by omega, by go_num, HJ2.out, HK.out⟩
              case measure => simp [intOf]; omega
          | M =>
            cases qd with
            | true =>
              go_wp2
              go_ret
              exact ⟨by rw [HT2.out, HD.out]; rfl, HK.out⟩
            | false =>
              have HJ2 : Hid (tkF k.args 0 xs = tkF k.args (j + 1) (xs.drop (j + 1))) := by show _ = _; rw [HD.out]; rfl
              go_wp2
              go_roundw
              case rel => exact ⟨j + 1, by omega, by go_num, HJ2.out, HK.out⟩
              case measure => simp [intOf]; omega
          | K =>
            cases qd with
            | true =>
              go_wp2
              go_ret
              exact ⟨by rw [HT2.out, HD.out]; rfl, HK.out⟩
            | false =>
              have HJ2 : Hid (tkF k.args 0 xs = tkF k.args (j + 1) (xs.drop (j + 1))) := by show _ = _; rw [HD.out]; rfl
              go_wp2
              go_roundw
              case rel => exact ⟨j + 1, by omega, by go_num, HJ2.out, HK.out⟩
              case measure => simp [intOf]; omega
        · have h4' : ¬ (j : Int) < (S.size : Int) := by omega
          exfalso; omega
      · have h3' : ¬ (j : Int) < (xs.length : Int) := by omega
        have HE : Hid (takesF k.args xs = true) := by show _ = _; rw [HT2.out, HJ.out, List.drop_of_length_le (by omega)]; rfl
        go_wp2
        go_ret
        exact ⟨by rw [HE.out]; rfl, HK.out⟩
  · have HLI : Hid (∀ j, A.length ≤ j → argAt k.args j = some .L) := HLIST.out hc3
    subst hc3
    go_enter Tryz.func40, Tryz.ntmps40
    go_wp2_with (first | (go_at_call 20; refine hfx.mono ?_; clear hfx; rintro e w1 ⟨rfl, hk1⟩; have HK1 := Hid.mk' hk1; clear hk1))
    go_loopw [7] (fun i wr => ∃ j : Nat, j ≤ xs.length ∧ i = .int .i64 j ∧ Hid (tkF k.args 0 xs = tkF k.args j (xs.drop j)) ∧ Hid (Keeps (fun _ => False) w wr)) (fun i _ => xs.length - (intOf i).toNat)
    case atStart => exact ⟨0, Nat.zero_le _, rfl, rfl, HK1.out⟩
    case round =>
      obtain ⟨j, hj, rfl, HJ, HK⟩ := hrel
      clear HK1
      by_cases h3 : j < xs.length
      · have h3' : (j : Int) < (xs.length : Int) := by omega
        obtain ⟨x, hx⟩ : ∃ x, xs[j]? = some x := ⟨_, List.getElem?_eq_getElem h3⟩
        obtain ⟨b, o, c, hvv, _, hq, _⟩ := rrow_at (HR.out.keep HK.out) hx
        injection hvv with e1 e2 e3
        subst e1
        subst e3
        have HD := Hid.mk' (HJ.out.trans (tkF_drop hx))
        obtain ⟨qd, hqd⟩ : ∃ q, x.quoted = q := ⟨_, rfl⟩
        rw [hqd] at hq HD
        by_cases h4 : j < S.size
        · have h4' : (j : Int) < (S.size : Int) := by omega
          obtain ⟨a, ha⟩ : ∃ a, A[j]? = some a := ⟨_, List.getElem?_eq_getElem (by have := HSZ.out; omega)⟩
          have hlt := HLA.out j a h4 ha
          have HF2 := Hid.mk' (HFIX.out j a ha)
          have hls := HLST.out a (List.mem_of_getElem? ha)
          have q65 := fun (h : (S[j]'h4) = 65) => by_yes (k := 65) 65 rfl h
          rw [HF2.out] at HD
          clear hx ha e2 hqd q65
          generalize hbb : (S[j]'h4) = bb at *
          subst hlt
          cases a with
          | L => cases hls
          | A =>
            cases qd with
            | true =>
              have HJ2 : Hid (tkF k.args 0 xs = tkF k.args (j + 1) (xs.drop (j + 1))) := by show _ = _; rw [HD.out]; rfl
              go_wp2
              go_roundw
              case rel => exact ⟨j + 1, by omega, by go_num, HJ2.out, HK.out⟩
              case measure => simp [intOf]; omega
            | false =>
              go_wp2
              go_ret
              exact ⟨by rw [HT2.out, HD.out]; rfl, HK.out⟩
          | B =>
            cases qd with
            | true =>
              have HJ2 : Hid (tkF k.args 0 xs = tkF k.args (j + 1) (xs.drop (j + 1))) := by show _ = _; rw [HD.out]; rfl
              go_wp2
              go_roundw
              case rel => exact ⟨j + 1, by omega, by go_num, HJ2.out, HK.out⟩
              case measure => simp [intOf]; omega
            | false =>
              go_wp2
              go_ret
              exact ⟨by rw [HT2.out, HD.out]; rfl, HK.out⟩
          | N =>
            cases qd with
            | true =>
              go_wp2
              go_ret
              exact ⟨by rw [HT2.out, HD.out]; rfl, HK.out⟩
            | false =>
              have HJ2 : Hid (tkF k.args 0 xs = tkF k.args (j + 1) (xs.drop (j + 1))) := by show _ = _; rw [HD.out]; rfl
              go_wp2
              go_roundw
              case rel => exact ⟨j + 1, by omega, by go_num, HJ2.out, HK.out⟩
              case measure => simp [intOf]; omega
          | M =>
            cases qd with
            | true =>
              go_wp2
              go_ret
              exact ⟨by rw [HT2.out, HD.out]; rfl, HK.out⟩
            | false =>
              have HJ2 : Hid (tkF k.args 0 xs = tkF k.args (j + 1) (xs.drop (j + 1))) := by show _ = _; rw [HD.out]; rfl
              go_wp2
              go_roundw
              case rel => exact ⟨j + 1, by omega, by go_num, HJ2.out, HK.out⟩
              case measure => simp [intOf]; omega
          | K =>
            cases qd with
            | true =>
              go_wp2
              go_ret
              exact ⟨by rw [HT2.out, HD.out]; rfl, HK.out⟩
            | false =>
              have HJ2 : Hid (tkF k.args 0 xs = tkF k.args (j + 1) (xs.drop (j + 1))) := by show _ = _; rw [HD.out]; rfl
              go_wp2
              go_roundw
              case rel => exact ⟨j + 1, by omega, by go_num, HJ2.out, HK.out⟩
              case measure => simp [intOf]; omega
        · have h4' : ¬ (j : Int) < (S.size : Int) := by omega
          have HD2 : Hid (tkF k.args 0 xs = ((Ar.L.quo == qd) && tkF k.args (j + 1) (xs.drop (j + 1)))) := by
            have h := HD.out
            rw [HLI.out j (by have := HSZ.out; omega)] at h
            exact h
          clear hx e2 hqd
          cases qd with
          | true =>
            go_wp2
            go_ret
            exact ⟨by rw [HT2.out, HD2.out]; rfl, HK.out⟩
          | false =>
            have HJ2 : Hid (tkF k.args 0 xs = tkF k.args (j + 1) (xs.drop (j + 1))) := by show _ = _; rw [HD2.out]; rfl
            go_wp2
            go_roundw
            case rel => exact ⟨j + 1, by omega, by go_num, HJ2.out, HK.out⟩
            case measure => simp [intOf]; omega
      · have h3' : ¬ (j : Int) < (xs.length : Int) := by omega
        have HE : Hid (takesF k.args xs = true) := by show _ = _; rw [HT2.out, HJ.out, List.drop_of_length_le (by omega)]; rfl
        go_wp2
        go_ret
        exact ⟨by rw [HE.out]; rfl, HK.out⟩
end Go.Proofs.YtdlhdompemkjfaaGreatDoor
