import Derived.Test.YtdlhdompemkjfaaGreatDoorK12
namespace Go.Proofs.YtdlhdompemkjfaaGreatDoor
open Go.RowKit Go.Maps
set_option maxRecDepth 100000

theorem read_any (c : Ar) (base : Nat) (W : World) (hv : Vars W) (b : Nat) (t : St) (v : Value) (h : SB base W b t v) (x : Wd) (hlen : t.l.length ≤ 1000000) (hx : x.text.size ≤ 1000000) :
    Calls Tryz.prog c.rd #[.pointer (some ⟨b, 0, none⟩), .agg (wcell x)] W fun e W' => e = .returned (.bool (rdF c t x).2) ∧ ∃ v', Hid (SB base W' b (rdF c t x).1 v' ∧ Keeps (fun k => base ≤ k) W W') := by
  cases c with
  | A => exact readA_any base W hv b t v h x hx
  | B => exact readB_any base W hv b t v h x hx
  | N => exact readN_any base W hv b t v h x hx
  | M => exact readM_any base W hv b t v h x hx
  | K => exact readK_any base W hv b t v h x hx
  | L => exact readL_any base W hv b t v h x hlen hx
def stF (l : List Ar) : Nat → St → List Wd → Option St
  | _, t, [] => some t
  | i, t, x :: ws => match argAt l i with
    | some a => if (rdF a t x).2 = true then stF l (i + 1) (rdF a t x).1 ws else none
    | none => none
def st0 (n : Int) : St := ⟨n, ⟨#[]⟩, ⟨#[]⟩, 0, 0, 0, []⟩
theorem stF_drop {l : List Ar} {ws : List Wd} {k : Nat} {x : Wd} (t : St) (h : ws[k]? = some x) : stF l k t (ws.drop k) = (match argAt l k with
    | some a => if (rdF a t x).2 = true then stF l (k + 1) (rdF a t x).1 (ws.drop (k + 1)) else none
    | none => none) := by
  have hk := (List.getElem?_eq_some_iff.1 h).1
  have e : ws.drop k = x :: ws.drop (k + 1) := by
    rw [List.drop_eq_getElem_cons hk]
    have : ws[k] = x := by simpa [hk] using h
    rw [this]
  rw [e]; rfl
theorem rdF_len (c : Ar) (t : St) (x : Wd) : (rdF c t x).1.l.length ≤ t.l.length + 1 := by
  cases c <;> simp [rdF]

theorem size24 : (Tryz.prog.info? 24).map (·.size) = some 7 := by kernel_rfl
theorem three_blocks (w : World) (o1 o2 o3 : Obj) : (((w.alloc o1).alloc o2).alloc o3).heap[w.heap.size]? = some o1 ∧ (((w.alloc o1).alloc o2).alloc o3).heap[w.heap.size + 1]? = some o2 ∧ (((w.alloc o1).alloc o2).alloc o3).heap[w.heap.size + 1 + 1]? = some o3 ∧ Keeps (fun _ => False) w (((w.alloc o1).alloc o2).alloc o3) := by
  have b1 := last_blocks w o1 o2 o3
  have k := (((Keeps.refl (fun _ => False) (w.alloc o1)).alloc o2).alloc o3).at (heap_last w o1) id
  exact ⟨k, b1.2.1, b1.1, b1.2.2⟩
set_option maxHeartbeats 4000000 in
theorem step_any (w : World) (hv : Vars w) (n : Int) (s : ByteArray) (v : Value) (l : List Ar) (h : ArgsAt w v l) (hl : l.length ≤ 100) (vw : Value) (ws : List Wd) (hw : Row w vw ws.length (wcells ws)) (hws : ws.length ≤ 1000000) (hwt : ∀ x ∈ ws, x.text.size ≤ 1000000) :
    Calls Tryz.prog 33 #[.agg (kcell n s v), vw] w fun e w' => ∃ v', e = .returned (.tuple #[.agg (scell ((stF l 0 (st0 n) ws).getD (st0 0)) v'), .bool (stF l 0 (st0 n) ws).isSome]) ∧ Hid (w'.ownsRow w.heap.size 3 1 v' ((stF l 0 (st0 n) ws).getD (st0 0)).l.length (ints ((stF l 0 (st0 n) ws).getD (st0 0)).l) ∧ Keeps (fun _ => False) w w') := by
  obtain ⟨p, c, rfl, hc⟩ := h.shape
  obtain ⟨pw, cw, rfl, hcw, _⟩ := id hw
  have HA := Hid.mk' h
  have HW := Hid.mk' hw
  have HK0 := Hid.mk' ((Keeps.refl (fun _ => False) w).alloc (.cells #[.int .i64 n, .string s, .slice p l.length c] 63))
  clear h hw
  unfold kcell
  have HB0 := Hid.mk' (three_blocks w (.cells #[.int .i64 n, .string s, .slice p l.length c] 63) (.cells #[.int .i64 0, .string ⟨#[]⟩, .string ⟨#[]⟩, .int .i64 0, .int .i64 0, .int .i64 0, .slice none 0 0] 24) (.cells #[.int .i64 n, .string ⟨#[]⟩, .string ⟨#[]⟩, .int .i64 0, .int .i64 0, .int .i64 0, .slice none 0 0] 24))
  have HSB0 : Hid (SB (w.heap.size + 1 + 1) (((w.alloc (.cells #[.int .i64 n, .string s, .slice p l.length c] 63)).alloc (.cells #[.int .i64 0, .string ⟨#[]⟩, .string ⟨#[]⟩, .int .i64 0, .int .i64 0, .int .i64 0, .slice none 0 0] 24)).alloc (.cells #[.int .i64 n, .string ⟨#[]⟩, .string ⟨#[]⟩, .int .i64 0, .int .i64 0, .int .i64 0, .slice none 0 0] 24)) (w.heap.size + 1 + 1) (st0 n) (.slice none 0 0)) := ⟨HB0.out.2.2.1, World.ownsRow_nil _ _ _ _, Nat.le_refl _⟩
  go_enter Tryz.func33, Tryz.ntmps33
  go_wp2
  go_loopw [16] (fun i wr => ∃ k : Nat, k ≤ ws.length ∧ i = .int .i64 k ∧ Hid (∃ t v1, SB (w.heap.size + 1 + 1) wr (w.heap.size + 1 + 1) t v1 ∧ stF l k t (ws.drop k) = stF l 0 (st0 n) ws ∧ Keeps (fun q => (w.heap.size + 1 + 1) ≤ q) (((w.alloc (.cells #[.int .i64 n, .string s, .slice p l.length c] 63)).alloc (.cells #[.int .i64 0, .string ⟨#[]⟩, .string ⟨#[]⟩, .int .i64 0, .int .i64 0, .int .i64 0, .slice none 0 0] 24)).alloc (.cells #[.int .i64 n, .string ⟨#[]⟩, .string ⟨#[]⟩, .int .i64 0, .int .i64 0, .int .i64 0, .slice none 0 0] 24)) wr ∧ t.l.length ≤ k)) (fun i _ => ws.length - (intOf i).toNat)
  case atStart => exact ⟨0, Nat.zero_le _, rfl, st0 n, _, HSB0.out, rfl, Keeps.refl _ _, Nat.le_refl _⟩
  case round =>
    obtain ⟨k, hk, rfl, HI⟩ := hrel
    obtain ⟨t, v1, hSB, hst, hkp, hlt⟩ := HI.out
    have HSB := Hid.mk' hSB
    have HST := Hid.mk' hst
    have HKX := Hid.mk' hkp
    have HLEN : Hid (t.l.length ≤ 1000000) := by show _ ≤ _; omega
    have HLT := Hid.mk' hlt
    have HB : Hid (wr.heap[w.heap.size]? = some (.cells #[.int .i64 n, .string s, .slice p l.length c] 63 (0, 0)) ∧ wr.heap[w.heap.size + 1]? = some (.cells #[.int .i64 0, .string ⟨#[]⟩, .string ⟨#[]⟩, .int .i64 0, .int .i64 0, .int .i64 0, .slice none 0 0] 24 (0, 0))) := ⟨hkp.at HB0.out.1 (by omega), hkp.at HB0.out.2.1 (by omega)⟩
    have HKw : Hid (Keeps (fun _ => False) w wr) := (HB0.out.2.2.2.mono (Y := fun q => (w.heap.size + 1 + 1) ≤ q) (fun _ _ h => h.elim)).trans hkp |>.mono (fun q hq h => by omega)
    have HV := Hid.mk' (hv.keep HKw.out)
    clear HI hSB hst hkp hlt HSB0
    by_cases h1 : k < ws.length
    · have h1' : (k : Int) < (ws.length : Int) := by omega
      obtain ⟨x, hx⟩ : ∃ x, ws[k]? = some x := ⟨ws[k], by simp [h1]⟩
      obtain ⟨b, o, hpw, hb, hr⟩ := (HW.out.keep HKw.out).word hx
      subst hpw
      have HR := Hid.mk' hr
      have HD := Hid.mk' (stF_drop (l := l) t hx)
      have HX := Hid.mk' ((Keeps.refl (fun _ => False) wr).alloc (.cells (wcell x) 92))
      have HXT := Hid.mk' (hwt x (List.mem_of_getElem? hx))
      clear hr hb
      cases ha : argAt l k with
      | none =>
        have h34 := fun w h => argAt_no w n s (.slice p l.length c) l h hl k (by omega) ha
        have HE : Hid (stF l 0 (st0 n) ws = none) := by show _ = _; rw [← HST.out, HD.out, ha]
        unfold kcell at h34
        have S0 := Hid.mk' True.intro
        go_wp2_with (first
          | (clear S0; refine wpList_load_word rfl _ rfl b (o + k * 2) x (by rfl) HR.out ?_; have S1 := Hid.mk' True.intro)
          | (clear S1; refine wpList_alloc_w rfl rfl ?_; have S2 := Hid.mk' True.intro)
          | (clear S2; refine wpList_store_neww rfl _ _ rfl x (by rfl) (by rfl) ?_; have S3 := Hid.mk' True.intro)
          | (clear S3; refine wpList_load_row rfl 63 (.tmp 2) rfl w.heap.size (by rfl) 63 #[.int .i64 n, .string s, .slice p l.length c] (0, 0) _ (HX.out.at HB.out.1 id) Tryz.underlying63 rfl size63 ?_; have S4 := Hid.mk' True.intro)
          | (clear S4; go_at_call 48; refine (h34 _ ((HA.out.keep HKw.out).keep HX.out)).mono ?_; clear h34; rintro e w3 ⟨cs, rfl, hcs, hco, hk3⟩; have HK3 := Hid.mk' (And.intro hcs (And.intro hco hk3)); have HG := Hid.mk' (((hk3.alloc (.cells cs 74))).at (HX.out.at HB.out.2 id) id); clear hk3 hcs hco; have S5 := Hid.mk' True.intro)
          | (clear S5; refine wpList_alloc_a rfl rfl ?_; have S6 := Hid.mk' True.intro)
          | (clear S6; refine wpList_store_newc rfl _ _ rfl cs HK3.out.1 HK3.out.2.1 (by rfl) (by rfl) ?_; have S7 := Hid.mk' True.intro)
          | (clear S7; refine wpList_store_row rfl 24 (.tmp 4) _ rfl (w.heap.size + 1) #[.int .i64 0, .string ⟨#[]⟩, .string ⟨#[]⟩, .int .i64 0, .int .i64 0, .int .i64 0, .slice none 0 0] (by rfl) (by rfl) 24 #[.int .i64 0, .string ⟨#[]⟩, .string ⟨#[]⟩, .int .i64 0, .int .i64 0, .int .i64 0, .slice none 0 0] (HG.out) size24 rfl (by simp [Value.oneCell']) ?_; have S8 := Hid.mk' True.intro))
        exact bodyPost_ret (results_cell_slot rfl _ _ (w.heap.size + 1) 24 #[.int .i64 0, .string ⟨#[]⟩, .string ⟨#[]⟩, .int .i64 0, .int .i64 0, .int .i64 0, .slice none 0 0] (0, 0) _ rfl (setRow_heap _ _ _ _ _ _ HG.out) Tryz.underlying24 rfl size24) rfl ⟨.slice none 0 0, by rw [HE.out]; rfl, by rw [HE.out]; exact ⟨World.ownsRow_nil _ _ _ _, (((HKw.out.trans HX.out).trans HK3.out.2.2).alloc _).setRow _ _ (Or.inl (by omega))⟩⟩
      | some a =>
        have h34 := fun w h => argAt_ok w n s (.slice p l.length c) l h hl k (by omega) a ha
        have HE : Hid (stF l 0 (st0 n) ws = if (rdF a t x).2 = true then stF l (k + 1) (rdF a t x).1 (ws.drop (k + 1)) else none) := by show _ = _; rw [← HST.out, HD.out, ha]
        have HRL := Hid.mk' (rdF_len a t x)
        unfold kcell at h34
        clear ha HD
        cases a with
        | A =>
          rcases Bool.eq_false_or_eq_true (rdF .A t x).2 with hrb | hrb
          · rw [if_pos hrb] at HE
            have S0 := Hid.mk' True.intro
            go_wp2_with (first
              | (clear S0; refine wpList_load_word rfl _ rfl b (o + k * 2) x (by rfl) HR.out ?_; have S1 := Hid.mk' True.intro)
              | (clear S1; refine wpList_alloc_w rfl rfl ?_; have S2 := Hid.mk' True.intro)
              | (clear S2; refine wpList_store_neww rfl _ _ rfl x (by rfl) (by rfl) ?_; have S3 := Hid.mk' True.intro)
              | (clear S3; refine wpList_load_row rfl 63 (.tmp 2) rfl w.heap.size (by rfl) 63 #[.int .i64 n, .string s, .slice p l.length c] (0, 0) _ (HX.out.at HB.out.1 id) Tryz.underlying63 rfl size63 ?_; have S4 := Hid.mk' True.intro)
              | (clear S4; go_at_call 48; refine (h34 _ ((HA.out.keep HKw.out).keep HX.out)).mono ?_; clear h34; rintro e w3 ⟨rfl, hk3⟩; have q3 := new_cell w3 (acell .A) 74 2 (.func (.func 68) #[] #[]) rfl; have HK4 := Hid.mk' (HX.out.trans (hk3.alloc (.cells (acell .A) 74))); have p0 := (hk3.alloc (.cells (acell .A) 74)).cell (new_cell wr (wcell x) 92 0 (.string x.text) rfl) id; have p1 := (hk3.alloc (.cells (acell .A) 74)).cell (new_cell wr (wcell x) 92 1 (.bool x.quoted) rfl) id; clear hk3; have S5 := Hid.mk' True.intro)
              | (clear S5; refine wpList_alloc_a rfl rfl ?_; have S6 := Hid.mk' True.intro)
              | (clear S6; refine wpList_store_new rfl _ _ rfl .A (by rfl) (by rfl) ?_; have S7 := Hid.mk' True.intro)
              | (clear S7; go_at_call 68; refine (read_any .A (w.heap.size + 1 + 1) _ (HV.out.keep HK4.out) (w.heap.size + 1 + 1) t v1 (HSB.out.keep HK4.out) x HLEN.out HXT.out).mono ?_; rintro e w5 ⟨rfl, v2, hr5⟩; have H5 := Hid.mk' hr5; have HG := Hid.mk' (hr5.2.at (HK4.out.at HB.out.2 id) (by omega)); rw [hrb]; clear hr5; have S8 := Hid.mk' True.intro))
            have HF := Hid.mk' (And.intro H5.out.1 (HKX.out.trans ((HK4.out.mono (Y := fun q => (w.heap.size + 1 + 1) ≤ q) (fun _ _ h => h.elim)).trans H5.out.2)))
            have hrl := HRL.out
            have hlt2 := HLT.out
            go_roundw
            case rel => exact ⟨k + 1, by omega, by go_num, (rdF .A t x).1, v2, HF.out.1, HE.out.symm, HF.out.2, by omega⟩
            case measure => simp [intOf]; omega
          · rw [if_neg (by rw [hrb]; decide)] at HE
            have S0 := Hid.mk' True.intro
            go_wp2_with (first
              | (clear S0; refine wpList_load_word rfl _ rfl b (o + k * 2) x (by rfl) HR.out ?_; have S1 := Hid.mk' True.intro)
              | (clear S1; refine wpList_alloc_w rfl rfl ?_; have S2 := Hid.mk' True.intro)
              | (clear S2; refine wpList_store_neww rfl _ _ rfl x (by rfl) (by rfl) ?_; have S3 := Hid.mk' True.intro)
              | (clear S3; refine wpList_load_row rfl 63 (.tmp 2) rfl w.heap.size (by rfl) 63 #[.int .i64 n, .string s, .slice p l.length c] (0, 0) _ (HX.out.at HB.out.1 id) Tryz.underlying63 rfl size63 ?_; have S4 := Hid.mk' True.intro)
              | (clear S4; go_at_call 48; refine (h34 _ ((HA.out.keep HKw.out).keep HX.out)).mono ?_; clear h34; rintro e w3 ⟨rfl, hk3⟩; have q3 := new_cell w3 (acell .A) 74 2 (.func (.func 68) #[] #[]) rfl; have HK4 := Hid.mk' (HX.out.trans (hk3.alloc (.cells (acell .A) 74))); have p0 := (hk3.alloc (.cells (acell .A) 74)).cell (new_cell wr (wcell x) 92 0 (.string x.text) rfl) id; have p1 := (hk3.alloc (.cells (acell .A) 74)).cell (new_cell wr (wcell x) 92 1 (.bool x.quoted) rfl) id; clear hk3; have S5 := Hid.mk' True.intro)
              | (clear S5; refine wpList_alloc_a rfl rfl ?_; have S6 := Hid.mk' True.intro)
              | (clear S6; refine wpList_store_new rfl _ _ rfl .A (by rfl) (by rfl) ?_; have S7 := Hid.mk' True.intro)
              | (clear S7; go_at_call 68; refine (read_any .A (w.heap.size + 1 + 1) _ (HV.out.keep HK4.out) (w.heap.size + 1 + 1) t v1 (HSB.out.keep HK4.out) x HLEN.out HXT.out).mono ?_; rintro e w5 ⟨rfl, v2, hr5⟩; have H5 := Hid.mk' hr5; have HG := Hid.mk' (hr5.2.at (HK4.out.at HB.out.2 id) (by omega)); rw [hrb]; clear hr5; have S8 := Hid.mk' True.intro)
              | (clear S8; refine wpList_store_row rfl 24 (.tmp 4) _ rfl (w.heap.size + 1) #[.int .i64 0, .string ⟨#[]⟩, .string ⟨#[]⟩, .int .i64 0, .int .i64 0, .int .i64 0, .slice none 0 0] (by rfl) (by rfl) 24 #[.int .i64 0, .string ⟨#[]⟩, .string ⟨#[]⟩, .int .i64 0, .int .i64 0, .int .i64 0, .slice none 0 0] (HG.out) size24 rfl (by simp [Value.oneCell']) ?_; have S9 := Hid.mk' True.intro))
            exact bodyPost_ret (results_cell_slot rfl _ _ (w.heap.size + 1) 24 #[.int .i64 0, .string ⟨#[]⟩, .string ⟨#[]⟩, .int .i64 0, .int .i64 0, .int .i64 0, .slice none 0 0] (0, 0) _ rfl (setRow_heap _ _ _ _ _ _ HG.out) Tryz.underlying24 rfl size24) rfl ⟨.slice none 0 0, by rw [HE.out]; rfl, by rw [HE.out]; exact ⟨World.ownsRow_nil _ _ _ _, ((HKw.out.trans HK4.out).then H5.out.2 (fun k e => Or.inr (by omega))).setRow _ _ (Or.inl (by omega))⟩⟩
        | B =>
          rcases Bool.eq_false_or_eq_true (rdF .B t x).2 with hrb | hrb
          · rw [if_pos hrb] at HE
            have S0 := Hid.mk' True.intro
            go_wp2_with (first
              | (clear S0; refine wpList_load_word rfl _ rfl b (o + k * 2) x (by rfl) HR.out ?_; have S1 := Hid.mk' True.intro)
              | (clear S1; refine wpList_alloc_w rfl rfl ?_; have S2 := Hid.mk' True.intro)
              | (clear S2; refine wpList_store_neww rfl _ _ rfl x (by rfl) (by rfl) ?_; have S3 := Hid.mk' True.intro)
              | (clear S3; refine wpList_load_row rfl 63 (.tmp 2) rfl w.heap.size (by rfl) 63 #[.int .i64 n, .string s, .slice p l.length c] (0, 0) _ (HX.out.at HB.out.1 id) Tryz.underlying63 rfl size63 ?_; have S4 := Hid.mk' True.intro)
              | (clear S4; go_at_call 48; refine (h34 _ ((HA.out.keep HKw.out).keep HX.out)).mono ?_; clear h34; rintro e w3 ⟨rfl, hk3⟩; have q3 := new_cell w3 (acell .B) 74 2 (.func (.func 71) #[] #[]) rfl; have HK4 := Hid.mk' (HX.out.trans (hk3.alloc (.cells (acell .B) 74))); have p0 := (hk3.alloc (.cells (acell .B) 74)).cell (new_cell wr (wcell x) 92 0 (.string x.text) rfl) id; have p1 := (hk3.alloc (.cells (acell .B) 74)).cell (new_cell wr (wcell x) 92 1 (.bool x.quoted) rfl) id; clear hk3; have S5 := Hid.mk' True.intro)
              | (clear S5; refine wpList_alloc_a rfl rfl ?_; have S6 := Hid.mk' True.intro)
              | (clear S6; refine wpList_store_new rfl _ _ rfl .B (by rfl) (by rfl) ?_; have S7 := Hid.mk' True.intro)
              | (clear S7; go_at_call 71; refine (read_any .B (w.heap.size + 1 + 1) _ (HV.out.keep HK4.out) (w.heap.size + 1 + 1) t v1 (HSB.out.keep HK4.out) x HLEN.out HXT.out).mono ?_; rintro e w5 ⟨rfl, v2, hr5⟩; have H5 := Hid.mk' hr5; have HG := Hid.mk' (hr5.2.at (HK4.out.at HB.out.2 id) (by omega)); rw [hrb]; clear hr5; have S8 := Hid.mk' True.intro))
            have HF := Hid.mk' (And.intro H5.out.1 (HKX.out.trans ((HK4.out.mono (Y := fun q => (w.heap.size + 1 + 1) ≤ q) (fun _ _ h => h.elim)).trans H5.out.2)))
            have hrl := HRL.out
            have hlt2 := HLT.out
            go_roundw
            case rel => exact ⟨k + 1, by omega, by go_num, (rdF .B t x).1, v2, HF.out.1, HE.out.symm, HF.out.2, by omega⟩
            case measure => simp [intOf]; omega
          · rw [if_neg (by rw [hrb]; decide)] at HE
            have S0 := Hid.mk' True.intro
            go_wp2_with (first
              | (clear S0; refine wpList_load_word rfl _ rfl b (o + k * 2) x (by rfl) HR.out ?_; have S1 := Hid.mk' True.intro)
              | (clear S1; refine wpList_alloc_w rfl rfl ?_; have S2 := Hid.mk' True.intro)
              | (clear S2; refine wpList_store_neww rfl _ _ rfl x (by rfl) (by rfl) ?_; have S3 := Hid.mk' True.intro)
              | (clear S3; refine wpList_load_row rfl 63 (.tmp 2) rfl w.heap.size (by rfl) 63 #[.int .i64 n, .string s, .slice p l.length c] (0, 0) _ (HX.out.at HB.out.1 id) Tryz.underlying63 rfl size63 ?_; have S4 := Hid.mk' True.intro)
              | (clear S4; go_at_call 48; refine (h34 _ ((HA.out.keep HKw.out).keep HX.out)).mono ?_; clear h34; rintro e w3 ⟨rfl, hk3⟩; have q3 := new_cell w3 (acell .B) 74 2 (.func (.func 71) #[] #[]) rfl; have HK4 := Hid.mk' (HX.out.trans (hk3.alloc (.cells (acell .B) 74))); have p0 := (hk3.alloc (.cells (acell .B) 74)).cell (new_cell wr (wcell x) 92 0 (.string x.text) rfl) id; have p1 := (hk3.alloc (.cells (acell .B) 74)).cell (new_cell wr (wcell x) 92 1 (.bool x.quoted) rfl) id; clear hk3; have S5 := Hid.mk' True.intro)
              | (clear S5; refine wpList_alloc_a rfl rfl ?_; have S6 := Hid.mk' True.intro)
              | (clear S6; refine wpList_store_new rfl _ _ rfl .B (by rfl) (by rfl) ?_; have S7 := Hid.mk' True.intro)
              | (clear S7; go_at_call 71; refine (read_any .B (w.heap.size + 1 + 1) _ (HV.out.keep HK4.out) (w.heap.size + 1 + 1) t v1 (HSB.out.keep HK4.out) x HLEN.out HXT.out).mono ?_; rintro e w5 ⟨rfl, v2, hr5⟩; have H5 := Hid.mk' hr5; have HG := Hid.mk' (hr5.2.at (HK4.out.at HB.out.2 id) (by omega)); rw [hrb]; clear hr5; have S8 := Hid.mk' True.intro)
              | (clear S8; refine wpList_store_row rfl 24 (.tmp 4) _ rfl (w.heap.size + 1) #[.int .i64 0, .string ⟨#[]⟩, .string ⟨#[]⟩, .int .i64 0, .int .i64 0, .int .i64 0, .slice none 0 0] (by rfl) (by rfl) 24 #[.int .i64 0, .string ⟨#[]⟩, .string ⟨#[]⟩, .int .i64 0, .int .i64 0, .int .i64 0, .slice none 0 0] (HG.out) size24 rfl (by simp [Value.oneCell']) ?_; have S9 := Hid.mk' True.intro))
            exact bodyPost_ret (results_cell_slot rfl _ _ (w.heap.size + 1) 24 #[.int .i64 0, .string ⟨#[]⟩, .string ⟨#[]⟩, .int .i64 0, .int .i64 0, .int .i64 0, .slice none 0 0] (0, 0) _ rfl (setRow_heap _ _ _ _ _ _ HG.out) Tryz.underlying24 rfl size24) rfl ⟨.slice none 0 0, by rw [HE.out]; rfl, by rw [HE.out]; exact ⟨World.ownsRow_nil _ _ _ _, ((HKw.out.trans HK4.out).then H5.out.2 (fun k e => Or.inr (by omega))).setRow _ _ (Or.inl (by omega))⟩⟩
        | N =>
          rcases Bool.eq_false_or_eq_true (rdF .N t x).2 with hrb | hrb
          · rw [if_pos hrb] at HE
            have S0 := Hid.mk' True.intro
            go_wp2_with (first
              | (clear S0; refine wpList_load_word rfl _ rfl b (o + k * 2) x (by rfl) HR.out ?_; have S1 := Hid.mk' True.intro)
              | (clear S1; refine wpList_alloc_w rfl rfl ?_; have S2 := Hid.mk' True.intro)
              | (clear S2; refine wpList_store_neww rfl _ _ rfl x (by rfl) (by rfl) ?_; have S3 := Hid.mk' True.intro)
              | (clear S3; refine wpList_load_row rfl 63 (.tmp 2) rfl w.heap.size (by rfl) 63 #[.int .i64 n, .string s, .slice p l.length c] (0, 0) _ (HX.out.at HB.out.1 id) Tryz.underlying63 rfl size63 ?_; have S4 := Hid.mk' True.intro)
              | (clear S4; go_at_call 48; refine (h34 _ ((HA.out.keep HKw.out).keep HX.out)).mono ?_; clear h34; rintro e w3 ⟨rfl, hk3⟩; have q3 := new_cell w3 (acell .N) 74 2 (.func (.func 73) #[] #[]) rfl; have HK4 := Hid.mk' (HX.out.trans (hk3.alloc (.cells (acell .N) 74))); have p0 := (hk3.alloc (.cells (acell .N) 74)).cell (new_cell wr (wcell x) 92 0 (.string x.text) rfl) id; have p1 := (hk3.alloc (.cells (acell .N) 74)).cell (new_cell wr (wcell x) 92 1 (.bool x.quoted) rfl) id; clear hk3; have S5 := Hid.mk' True.intro)
              | (clear S5; refine wpList_alloc_a rfl rfl ?_; have S6 := Hid.mk' True.intro)
              | (clear S6; refine wpList_store_new rfl _ _ rfl .N (by rfl) (by rfl) ?_; have S7 := Hid.mk' True.intro)
              | (clear S7; go_at_call 73; refine (read_any .N (w.heap.size + 1 + 1) _ (HV.out.keep HK4.out) (w.heap.size + 1 + 1) t v1 (HSB.out.keep HK4.out) x HLEN.out HXT.out).mono ?_; rintro e w5 ⟨rfl, v2, hr5⟩; have H5 := Hid.mk' hr5; have HG := Hid.mk' (hr5.2.at (HK4.out.at HB.out.2 id) (by omega)); rw [hrb]; clear hr5; have S8 := Hid.mk' True.intro))
            have HF := Hid.mk' (And.intro H5.out.1 (HKX.out.trans ((HK4.out.mono (Y := fun q => (w.heap.size + 1 + 1) ≤ q) (fun _ _ h => h.elim)).trans H5.out.2)))
            have hrl := HRL.out
            have hlt2 := HLT.out
            go_roundw
            case rel => exact ⟨k + 1, by omega, by go_num, (rdF .N t x).1, v2, HF.out.1, HE.out.symm, HF.out.2, by omega⟩
            case measure => simp [intOf]; omega
          · rw [if_neg (by rw [hrb]; decide)] at HE
            have S0 := Hid.mk' True.intro
            go_wp2_with (first
              | (clear S0; refine wpList_load_word rfl _ rfl b (o + k * 2) x (by rfl) HR.out ?_; have S1 := Hid.mk' True.intro)
              | (clear S1; refine wpList_alloc_w rfl rfl ?_; have S2 := Hid.mk' True.intro)
              | (clear S2; refine wpList_store_neww rfl _ _ rfl x (by rfl) (by rfl) ?_; have S3 := Hid.mk' True.intro)
              | (clear S3; refine wpList_load_row rfl 63 (.tmp 2) rfl w.heap.size (by rfl) 63 #[.int .i64 n, .string s, .slice p l.length c] (0, 0) _ (HX.out.at HB.out.1 id) Tryz.underlying63 rfl size63 ?_; have S4 := Hid.mk' True.intro)
              | (clear S4; go_at_call 48; refine (h34 _ ((HA.out.keep HKw.out).keep HX.out)).mono ?_; clear h34; rintro e w3 ⟨rfl, hk3⟩; have q3 := new_cell w3 (acell .N) 74 2 (.func (.func 73) #[] #[]) rfl; have HK4 := Hid.mk' (HX.out.trans (hk3.alloc (.cells (acell .N) 74))); have p0 := (hk3.alloc (.cells (acell .N) 74)).cell (new_cell wr (wcell x) 92 0 (.string x.text) rfl) id; have p1 := (hk3.alloc (.cells (acell .N) 74)).cell (new_cell wr (wcell x) 92 1 (.bool x.quoted) rfl) id; clear hk3; have S5 := Hid.mk' True.intro)
              | (clear S5; refine wpList_alloc_a rfl rfl ?_; have S6 := Hid.mk' True.intro)
              | (clear S6; refine wpList_store_new rfl _ _ rfl .N (by rfl) (by rfl) ?_; have S7 := Hid.mk' True.intro)
              | (clear S7; go_at_call 73; refine (read_any .N (w.heap.size + 1 + 1) _ (HV.out.keep HK4.out) (w.heap.size + 1 + 1) t v1 (HSB.out.keep HK4.out) x HLEN.out HXT.out).mono ?_; rintro e w5 ⟨rfl, v2, hr5⟩; have H5 := Hid.mk' hr5; have HG := Hid.mk' (hr5.2.at (HK4.out.at HB.out.2 id) (by omega)); rw [hrb]; clear hr5; have S8 := Hid.mk' True.intro)
              | (clear S8; refine wpList_store_row rfl 24 (.tmp 4) _ rfl (w.heap.size + 1) #[.int .i64 0, .string ⟨#[]⟩, .string ⟨#[]⟩, .int .i64 0, .int .i64 0, .int .i64 0, .slice none 0 0] (by rfl) (by rfl) 24 #[.int .i64 0, .string ⟨#[]⟩, .string ⟨#[]⟩, .int .i64 0, .int .i64 0, .int .i64 0, .slice none 0 0] (HG.out) size24 rfl (by simp [Value.oneCell']) ?_; have S9 := Hid.mk' True.intro))
            exact bodyPost_ret (results_cell_slot rfl _ _ (w.heap.size + 1) 24 #[.int .i64 0, .string ⟨#[]⟩, .string ⟨#[]⟩, .int .i64 0, .int .i64 0, .int .i64 0, .slice none 0 0] (0, 0) _ rfl (setRow_heap _ _ _ _ _ _ HG.out) Tryz.underlying24 rfl size24) rfl ⟨.slice none 0 0, by rw [HE.out]; rfl, by rw [HE.out]; exact ⟨World.ownsRow_nil _ _ _ _, ((HKw.out.trans HK4.out).then H5.out.2 (fun k e => Or.inr (by omega))).setRow _ _ (Or.inl (by omega))⟩⟩
        | M =>
          rcases Bool.eq_false_or_eq_true (rdF .M t x).2 with hrb | hrb
          · rw [if_pos hrb] at HE
            have S0 := Hid.mk' True.intro
            go_wp2_with (first
              | (clear S0; refine wpList_load_word rfl _ rfl b (o + k * 2) x (by rfl) HR.out ?_; have S1 := Hid.mk' True.intro)
              | (clear S1; refine wpList_alloc_w rfl rfl ?_; have S2 := Hid.mk' True.intro)
              | (clear S2; refine wpList_store_neww rfl _ _ rfl x (by rfl) (by rfl) ?_; have S3 := Hid.mk' True.intro)
              | (clear S3; refine wpList_load_row rfl 63 (.tmp 2) rfl w.heap.size (by rfl) 63 #[.int .i64 n, .string s, .slice p l.length c] (0, 0) _ (HX.out.at HB.out.1 id) Tryz.underlying63 rfl size63 ?_; have S4 := Hid.mk' True.intro)
              | (clear S4; go_at_call 48; refine (h34 _ ((HA.out.keep HKw.out).keep HX.out)).mono ?_; clear h34; rintro e w3 ⟨rfl, hk3⟩; have q3 := new_cell w3 (acell .M) 74 2 (.func (.func 77) #[] #[]) rfl; have HK4 := Hid.mk' (HX.out.trans (hk3.alloc (.cells (acell .M) 74))); have p0 := (hk3.alloc (.cells (acell .M) 74)).cell (new_cell wr (wcell x) 92 0 (.string x.text) rfl) id; have p1 := (hk3.alloc (.cells (acell .M) 74)).cell (new_cell wr (wcell x) 92 1 (.bool x.quoted) rfl) id; clear hk3; have S5 := Hid.mk' True.intro)
              | (clear S5; refine wpList_alloc_a rfl rfl ?_; have S6 := Hid.mk' True.intro)
              | (clear S6; refine wpList_store_new rfl _ _ rfl .M (by rfl) (by rfl) ?_; have S7 := Hid.mk' True.intro)
              | (clear S7; go_at_call 77; refine (read_any .M (w.heap.size + 1 + 1) _ (HV.out.keep HK4.out) (w.heap.size + 1 + 1) t v1 (HSB.out.keep HK4.out) x HLEN.out HXT.out).mono ?_; rintro e w5 ⟨rfl, v2, hr5⟩; have H5 := Hid.mk' hr5; have HG := Hid.mk' (hr5.2.at (HK4.out.at HB.out.2 id) (by omega)); rw [hrb]; clear hr5; have S8 := Hid.mk' True.intro))
            have HF := Hid.mk' (And.intro H5.out.1 (HKX.out.trans ((HK4.out.mono (Y := fun q => (w.heap.size + 1 + 1) ≤ q) (fun _ _ h => h.elim)).trans H5.out.2)))
            have hrl := HRL.out
            have hlt2 := HLT.out
            go_roundw
            case rel => exact ⟨k + 1, by omega, by go_num, (rdF .M t x).1, v2, HF.out.1, HE.out.symm, HF.out.2, by omega⟩
            case measure => simp [intOf]; omega
          · rw [if_neg (by rw [hrb]; decide)] at HE
            have S0 := Hid.mk' True.intro
            go_wp2_with (first
              | (clear S0; refine wpList_load_word rfl _ rfl b (o + k * 2) x (by rfl) HR.out ?_; have S1 := Hid.mk' True.intro)
              | (clear S1; refine wpList_alloc_w rfl rfl ?_; have S2 := Hid.mk' True.intro)
              | (clear S2; refine wpList_store_neww rfl _ _ rfl x (by rfl) (by rfl) ?_; have S3 := Hid.mk' True.intro)
              | (clear S3; refine wpList_load_row rfl 63 (.tmp 2) rfl w.heap.size (by rfl) 63 #[.int .i64 n, .string s, .slice p l.length c] (0, 0) _ (HX.out.at HB.out.1 id) Tryz.underlying63 rfl size63 ?_; have S4 := Hid.mk' True.intro)
              | (clear S4; go_at_call 48; refine (h34 _ ((HA.out.keep HKw.out).keep HX.out)).mono ?_; clear h34; rintro e w3 ⟨rfl, hk3⟩; have q3 := new_cell w3 (acell .M) 74 2 (.func (.func 77) #[] #[]) rfl; have HK4 := Hid.mk' (HX.out.trans (hk3.alloc (.cells (acell .M) 74))); have p0 := (hk3.alloc (.cells (acell .M) 74)).cell (new_cell wr (wcell x) 92 0 (.string x.text) rfl) id; have p1 := (hk3.alloc (.cells (acell .M) 74)).cell (new_cell wr (wcell x) 92 1 (.bool x.quoted) rfl) id; clear hk3; have S5 := Hid.mk' True.intro)
              | (clear S5; refine wpList_alloc_a rfl rfl ?_; have S6 := Hid.mk' True.intro)
              | (clear S6; refine wpList_store_new rfl _ _ rfl .M (by rfl) (by rfl) ?_; have S7 := Hid.mk' True.intro)
              | (clear S7; go_at_call 77; refine (read_any .M (w.heap.size + 1 + 1) _ (HV.out.keep HK4.out) (w.heap.size + 1 + 1) t v1 (HSB.out.keep HK4.out) x HLEN.out HXT.out).mono ?_; rintro e w5 ⟨rfl, v2, hr5⟩; have H5 := Hid.mk' hr5; have HG := Hid.mk' (hr5.2.at (HK4.out.at HB.out.2 id) (by omega)); rw [hrb]; clear hr5; have S8 := Hid.mk' True.intro)
              | (clear S8; refine wpList_store_row rfl 24 (.tmp 4) _ rfl (w.heap.size + 1) #[.int .i64 0, .string ⟨#[]⟩, .string ⟨#[]⟩, .int .i64 0, .int .i64 0, .int .i64 0, .slice none 0 0] (by rfl) (by rfl) 24 #[.int .i64 0, .string ⟨#[]⟩, .string ⟨#[]⟩, .int .i64 0, .int .i64 0, .int .i64 0, .slice none 0 0] (HG.out) size24 rfl (by simp [Value.oneCell']) ?_; have S9 := Hid.mk' True.intro))
            exact bodyPost_ret (results_cell_slot rfl _ _ (w.heap.size + 1) 24 #[.int .i64 0, .string ⟨#[]⟩, .string ⟨#[]⟩, .int .i64 0, .int .i64 0, .int .i64 0, .slice none 0 0] (0, 0) _ rfl (setRow_heap _ _ _ _ _ _ HG.out) Tryz.underlying24 rfl size24) rfl ⟨.slice none 0 0, by rw [HE.out]; rfl, by rw [HE.out]; exact ⟨World.ownsRow_nil _ _ _ _, ((HKw.out.trans HK4.out).then H5.out.2 (fun k e => Or.inr (by omega))).setRow _ _ (Or.inl (by omega))⟩⟩
        | K =>
          rcases Bool.eq_false_or_eq_true (rdF .K t x).2 with hrb | hrb
          · rw [if_pos hrb] at HE
            have S0 := Hid.mk' True.intro
            go_wp2_with (first
              | (clear S0; refine wpList_load_word rfl _ rfl b (o + k * 2) x (by rfl) HR.out ?_; have S1 := Hid.mk' True.intro)
              | (clear S1; refine wpList_alloc_w rfl rfl ?_; have S2 := Hid.mk' True.intro)
              | (clear S2; refine wpList_store_neww rfl _ _ rfl x (by rfl) (by rfl) ?_; have S3 := Hid.mk' True.intro)
              | (clear S3; refine wpList_load_row rfl 63 (.tmp 2) rfl w.heap.size (by rfl) 63 #[.int .i64 n, .string s, .slice p l.length c] (0, 0) _ (HX.out.at HB.out.1 id) Tryz.underlying63 rfl size63 ?_; have S4 := Hid.mk' True.intro)
              | (clear S4; go_at_call 48; refine (h34 _ ((HA.out.keep HKw.out).keep HX.out)).mono ?_; clear h34; rintro e w3 ⟨rfl, hk3⟩; have q3 := new_cell w3 (acell .K) 74 2 (.func (.func 79) #[] #[]) rfl; have HK4 := Hid.mk' (HX.out.trans (hk3.alloc (.cells (acell .K) 74))); have p0 := (hk3.alloc (.cells (acell .K) 74)).cell (new_cell wr (wcell x) 92 0 (.string x.text) rfl) id; have p1 := (hk3.alloc (.cells (acell .K) 74)).cell (new_cell wr (wcell x) 92 1 (.bool x.quoted) rfl) id; clear hk3; have S5 := Hid.mk' True.intro)
              | (clear S5; refine wpList_alloc_a rfl rfl ?_; have S6 := Hid.mk' True.intro)
              | (clear S6; refine wpList_store_new rfl _ _ rfl .K (by rfl) (by rfl) ?_; have S7 := Hid.mk' True.intro)
              | (clear S7; go_at_call 79; refine (read_any .K (w.heap.size + 1 + 1) _ (HV.out.keep HK4.out) (w.heap.size + 1 + 1) t v1 (HSB.out.keep HK4.out) x HLEN.out HXT.out).mono ?_; rintro e w5 ⟨rfl, v2, hr5⟩; have H5 := Hid.mk' hr5; have HG := Hid.mk' (hr5.2.at (HK4.out.at HB.out.2 id) (by omega)); rw [hrb]; clear hr5; have S8 := Hid.mk' True.intro))
            have HF := Hid.mk' (And.intro H5.out.1 (HKX.out.trans ((HK4.out.mono (Y := fun q => (w.heap.size + 1 + 1) ≤ q) (fun _ _ h => h.elim)).trans H5.out.2)))
            have hrl := HRL.out
            have hlt2 := HLT.out
            go_roundw
            case rel => exact ⟨k + 1, by omega, by go_num, (rdF .K t x).1, v2, HF.out.1, HE.out.symm, HF.out.2, by omega⟩
            case measure => simp [intOf]; omega
          · rw [if_neg (by rw [hrb]; decide)] at HE
            have S0 := Hid.mk' True.intro
            go_wp2_with (first
              | (clear S0; refine wpList_load_word rfl _ rfl b (o + k * 2) x (by rfl) HR.out ?_; have S1 := Hid.mk' True.intro)
              | (clear S1; refine wpList_alloc_w rfl rfl ?_; have S2 := Hid.mk' True.intro)
              | (clear S2; refine wpList_store_neww rfl _ _ rfl x (by rfl) (by rfl) ?_; have S3 := Hid.mk' True.intro)
              | (clear S3; refine wpList_load_row rfl 63 (.tmp 2) rfl w.heap.size (by rfl) 63 #[.int .i64 n, .string s, .slice p l.length c] (0, 0) _ (HX.out.at HB.out.1 id) Tryz.underlying63 rfl size63 ?_; have S4 := Hid.mk' True.intro)
              | (clear S4; go_at_call 48; refine (h34 _ ((HA.out.keep HKw.out).keep HX.out)).mono ?_; clear h34; rintro e w3 ⟨rfl, hk3⟩; have q3 := new_cell w3 (acell .K) 74 2 (.func (.func 79) #[] #[]) rfl; have HK4 := Hid.mk' (HX.out.trans (hk3.alloc (.cells (acell .K) 74))); have p0 := (hk3.alloc (.cells (acell .K) 74)).cell (new_cell wr (wcell x) 92 0 (.string x.text) rfl) id; have p1 := (hk3.alloc (.cells (acell .K) 74)).cell (new_cell wr (wcell x) 92 1 (.bool x.quoted) rfl) id; clear hk3; have S5 := Hid.mk' True.intro)
              | (clear S5; refine wpList_alloc_a rfl rfl ?_; have S6 := Hid.mk' True.intro)
              | (clear S6; refine wpList_store_new rfl _ _ rfl .K (by rfl) (by rfl) ?_; have S7 := Hid.mk' True.intro)
              | (clear S7; go_at_call 79; refine (read_any .K (w.heap.size + 1 + 1) _ (HV.out.keep HK4.out) (w.heap.size + 1 + 1) t v1 (HSB.out.keep HK4.out) x HLEN.out HXT.out).mono ?_; rintro e w5 ⟨rfl, v2, hr5⟩; have H5 := Hid.mk' hr5; have HG := Hid.mk' (hr5.2.at (HK4.out.at HB.out.2 id) (by omega)); rw [hrb]; clear hr5; have S8 := Hid.mk' True.intro)
              | (clear S8; refine wpList_store_row rfl 24 (.tmp 4) _ rfl (w.heap.size + 1) #[.int .i64 0, .string ⟨#[]⟩, .string ⟨#[]⟩, .int .i64 0, .int .i64 0, .int .i64 0, .slice none 0 0] (by rfl) (by rfl) 24 #[.int .i64 0, .string ⟨#[]⟩, .string ⟨#[]⟩, .int .i64 0, .int .i64 0, .int .i64 0, .slice none 0 0] (HG.out) size24 rfl (by simp [Value.oneCell']) ?_; have S9 := Hid.mk' True.intro))
            exact bodyPost_ret (results_cell_slot rfl _ _ (w.heap.size + 1) 24 #[.int .i64 0, .string ⟨#[]⟩, .string ⟨#[]⟩, .int .i64 0, .int .i64 0, .int .i64 0, .slice none 0 0] (0, 0) _ rfl (setRow_heap _ _ _ _ _ _ HG.out) Tryz.underlying24 rfl size24) rfl ⟨.slice none 0 0, by rw [HE.out]; rfl, by rw [HE.out]; exact ⟨World.ownsRow_nil _ _ _ _, ((HKw.out.trans HK4.out).then H5.out.2 (fun k e => Or.inr (by omega))).setRow _ _ (Or.inl (by omega))⟩⟩
        | L =>
          rcases Bool.eq_false_or_eq_true (rdF .L t x).2 with hrb | hrb
          · rw [if_pos hrb] at HE
            have S0 := Hid.mk' True.intro
            go_wp2_with (first
              | (clear S0; refine wpList_load_word rfl _ rfl b (o + k * 2) x (by rfl) HR.out ?_; have S1 := Hid.mk' True.intro)
              | (clear S1; refine wpList_alloc_w rfl rfl ?_; have S2 := Hid.mk' True.intro)
              | (clear S2; refine wpList_store_neww rfl _ _ rfl x (by rfl) (by rfl) ?_; have S3 := Hid.mk' True.intro)
              | (clear S3; refine wpList_load_row rfl 63 (.tmp 2) rfl w.heap.size (by rfl) 63 #[.int .i64 n, .string s, .slice p l.length c] (0, 0) _ (HX.out.at HB.out.1 id) Tryz.underlying63 rfl size63 ?_; have S4 := Hid.mk' True.intro)
              | (clear S4; go_at_call 48; refine (h34 _ ((HA.out.keep HKw.out).keep HX.out)).mono ?_; clear h34; rintro e w3 ⟨rfl, hk3⟩; have q3 := new_cell w3 (acell .L) 74 2 (.func (.func 81) #[] #[]) rfl; have HK4 := Hid.mk' (HX.out.trans (hk3.alloc (.cells (acell .L) 74))); have p0 := (hk3.alloc (.cells (acell .L) 74)).cell (new_cell wr (wcell x) 92 0 (.string x.text) rfl) id; have p1 := (hk3.alloc (.cells (acell .L) 74)).cell (new_cell wr (wcell x) 92 1 (.bool x.quoted) rfl) id; clear hk3; have S5 := Hid.mk' True.intro)
              | (clear S5; refine wpList_alloc_a rfl rfl ?_; have S6 := Hid.mk' True.intro)
              | (clear S6; refine wpList_store_new rfl _ _ rfl .L (by rfl) (by rfl) ?_; have S7 := Hid.mk' True.intro)
              | (clear S7; go_at_call 81; refine (read_any .L (w.heap.size + 1 + 1) _ (HV.out.keep HK4.out) (w.heap.size + 1 + 1) t v1 (HSB.out.keep HK4.out) x HLEN.out HXT.out).mono ?_; rintro e w5 ⟨rfl, v2, hr5⟩; have H5 := Hid.mk' hr5; have HG := Hid.mk' (hr5.2.at (HK4.out.at HB.out.2 id) (by omega)); rw [hrb]; clear hr5; have S8 := Hid.mk' True.intro))
            have HF := Hid.mk' (And.intro H5.out.1 (HKX.out.trans ((HK4.out.mono (Y := fun q => (w.heap.size + 1 + 1) ≤ q) (fun _ _ h => h.elim)).trans H5.out.2)))
            have hrl := HRL.out
            have hlt2 := HLT.out
            go_roundw
            case rel => exact ⟨k + 1, by omega, by go_num, (rdF .L t x).1, v2, HF.out.1, HE.out.symm, HF.out.2, by omega⟩
            case measure => simp [intOf]; omega
          · rw [if_neg (by rw [hrb]; decide)] at HE
            have S0 := Hid.mk' True.intro
            go_wp2_with (first
              | (clear S0; refine wpList_load_word rfl _ rfl b (o + k * 2) x (by rfl) HR.out ?_; have S1 := Hid.mk' True.intro)
              | (clear S1; refine wpList_alloc_w rfl rfl ?_; have S2 := Hid.mk' True.intro)
              | (clear S2; refine wpList_store_neww rfl _ _ rfl x (by rfl) (by rfl) ?_; have S3 := Hid.mk' True.intro)
              | (clear S3; refine wpList_load_row rfl 63 (.tmp 2) rfl w.heap.size (by rfl) 63 #[.int .i64 n, .string s, .slice p l.length c] (0, 0) _ (HX.out.at HB.out.1 id) Tryz.underlying63 rfl size63 ?_; have S4 := Hid.mk' True.intro)
              | (clear S4; go_at_call 48; refine (h34 _ ((HA.out.keep HKw.out).keep HX.out)).mono ?_; clear h34; rintro e w3 ⟨rfl, hk3⟩; have q3 := new_cell w3 (acell .L) 74 2 (.func (.func 81) #[] #[]) rfl; have HK4 := Hid.mk' (HX.out.trans (hk3.alloc (.cells (acell .L) 74))); have p0 := (hk3.alloc (.cells (acell .L) 74)).cell (new_cell wr (wcell x) 92 0 (.string x.text) rfl) id; have p1 := (hk3.alloc (.cells (acell .L) 74)).cell (new_cell wr (wcell x) 92 1 (.bool x.quoted) rfl) id; clear hk3; have S5 := Hid.mk' True.intro)
              | (clear S5; refine wpList_alloc_a rfl rfl ?_; have S6 := Hid.mk' True.intro)
              | (clear S6; refine wpList_store_new rfl _ _ rfl .L (by rfl) (by rfl) ?_; have S7 := Hid.mk' True.intro)
              | (clear S7; go_at_call 81; refine (read_any .L (w.heap.size + 1 + 1) _ (HV.out.keep HK4.out) (w.heap.size + 1 + 1) t v1 (HSB.out.keep HK4.out) x HLEN.out HXT.out).mono ?_; rintro e w5 ⟨rfl, v2, hr5⟩; have H5 := Hid.mk' hr5; have HG := Hid.mk' (hr5.2.at (HK4.out.at HB.out.2 id) (by omega)); rw [hrb]; clear hr5; have S8 := Hid.mk' True.intro)
              | (clear S8; refine wpList_store_row rfl 24 (.tmp 4) _ rfl (w.heap.size + 1) #[.int .i64 0, .string ⟨#[]⟩, .string ⟨#[]⟩, .int .i64 0, .int .i64 0, .int .i64 0, .slice none 0 0] (by rfl) (by rfl) 24 #[.int .i64 0, .string ⟨#[]⟩, .string ⟨#[]⟩, .int .i64 0, .int .i64 0, .int .i64 0, .slice none 0 0] (HG.out) size24 rfl (by simp [Value.oneCell']) ?_; have S9 := Hid.mk' True.intro))
            exact bodyPost_ret (results_cell_slot rfl _ _ (w.heap.size + 1) 24 #[.int .i64 0, .string ⟨#[]⟩, .string ⟨#[]⟩, .int .i64 0, .int .i64 0, .int .i64 0, .slice none 0 0] (0, 0) _ rfl (setRow_heap _ _ _ _ _ _ HG.out) Tryz.underlying24 rfl size24) rfl ⟨.slice none 0 0, by rw [HE.out]; rfl, by rw [HE.out]; exact ⟨World.ownsRow_nil _ _ _ _, ((HKw.out.trans HK4.out).then H5.out.2 (fun k e => Or.inr (by omega))).setRow _ _ (Or.inl (by omega))⟩⟩
    · have h1' : ¬ (k : Int) < (ws.length : Int) := by omega
      have HE : Hid (stF l 0 (st0 n) ws = some t) := by show _ = _; rw [← HST.out, List.drop_of_length_le (by omega)]; rfl
      obtain ⟨va, vc, hve, _⟩ := Row.of_own HSB.out.row
      subst hve
      have S0 := Hid.mk' True.intro
      go_wp2_with (first
        | (clear S0; refine wpList_load_row rfl 24 (.tmp 6) rfl (w.heap.size + 1 + 1) (by rfl) 24 (scell t (.slice va t.l.length vc)) (0, 0) _ HSB.out.box Tryz.underlying24 rfl size24 ?_; have S1 := Hid.mk' True.intro)
        | (clear S1; refine wpList_store_row rfl 24 (.tmp 4) _ rfl (w.heap.size + 1) (scell t (.slice va t.l.length vc)) (by rfl) (by rfl) 24 #[.int .i64 0, .string ⟨#[]⟩, .string ⟨#[]⟩, .int .i64 0, .int .i64 0, .int .i64 0, .slice none 0 0] HB.out.2 size24 rfl (by simp [scell, Value.oneCell']) ?_; have S2 := Hid.mk' True.intro))
      exact bodyPost_ret (results_cell_slot rfl _ _ (w.heap.size + 1) 24 (scell t (.slice va t.l.length vc)) (0, 0) _ rfl (setRow_heap _ _ _ _ _ _ HB.out.2) Tryz.underlying24 rfl size24) rfl ⟨.slice va t.l.length vc, by rw [HE.out]; rfl, by rw [HE.out]; exact ⟨own_base (own_keep HSB.out.row (Keeps.setRow (X := fun q => q = w.heap.size + 1) (Keeps.refl _ wr) _ _ (Or.inr rfl)) (fun g hg e => by have := (HSB.out.row.lt g hg).1; omega)) (by omega), HKw.out.setRow _ _ (Or.inl (by omega))⟩⟩
end Go.Proofs.YtdlhdompemkjfaaGreatDoor
