import Derived.Test.YtendmohjodeelaaK0
namespace Go.Proofs.Ytendmohjodeelaa
open Go.RowKit Go.Maps Go.Great Go.Sort Go.Shelf

set_option maxHeartbeats 4000000 in
set_option maxRecDepth 100000 in
theorem kept_have (w : World) (p : Option Addr) (cap : Nat) (l : List OpT) (hp : OpIn w p l) (hn : l.length < 3000000000000) (dir : Int) (s : ByteArray) (to : Int) (hw : getS (fillS l) (inoF dir) s ≠ 0) :
    Calls Try.prog 6 #[.slice p l.length cap, .int .i64 dir, .string s, .int .i64 to] w fun e w' => e = .returned (.bool true) ∧ Keeps (fun _ => False) w w' := by
  have h10 := ks_filled w p cap l hp hn
  have ho := fillS_ok l
  have hlen := fillS_len l
  have h16 := ino_any
  obtain ⟨d, hd⟩ : ∃ d, d = inoF dir := ⟨_, rfl⟩
  obtain ⟨n, hnn⟩ : ∃ n, n = inoF to := ⟨_, rfl⟩
  have h16a : ∀ W, Calls Try.prog 16 #[.int .i64 dir] W fun e w' => e = .returned (.int .i64 d) ∧ w' = W := fun W => by rw [hd]; exact h16 dir W
  have h16b : ∀ W, Calls Try.prog 16 #[.int .i64 to] W fun e w' => e = .returned (.int .i64 n) ∧ w' = W := fun W => by rw [hnn]; exact h16 to W
  have hdb : 1 ≤ d ∧ d ≤ 256 := by rw [hd]; exact inoF_bd _
  have hnb : 1 ≤ n ∧ n ≤ 256 := by rw [hnn]; exact inoF_bd _
  have hwf : (Lit.int .i64 d).wf = true := wf64 (by omega) (by omega)
  rw [← hd] at hw
  clear hd hnn h16
  generalize fillS l = S at *
  obtain ⟨L, hL⟩ : ∃ L, L = lstS S d := ⟨_, rfl⟩
  have hLl : L.length < 4000000000000 := by rw [hL, lst_len]; have := filt_le S (inDir d); omega
  have HO : Hid (Rise S ∧ (∀ r ∈ S, OkR r) ∧ S.length < 3000000000000) := ⟨ho.1, ho.2, by omega⟩
  have HL : Hid (lstS S d = L) := hL.symm
  obtain ⟨sz, hsz⟩ : ∃ sz : Nat, sz = (S.filter (inDir d)).length := ⟨_, rfl⟩
  obtain ⟨lk, hlk⟩ : ∃ lk : Nat, lk = (S.filter (toIno n)).length := ⟨_, rfl⟩
  have HSZ : Hid (((S.filter (inDir d)).length : Int) = (sz : Int)) := by rw [hsz]; exact rfl
  have HLK : Hid (((S.filter (toIno n)).length : Int) = (lk : Int)) := by rw [hlk]; exact rfl
  have hszb : sz < 4000000000000 := by rw [hsz]; have := filt_le S (inDir d); omega
  have hlkb : lk < 4000000000000 := by rw [hlk]; have := filt_le S (toIno n); omega
  clear ho hlen hL hp hn hsz hlk
  have hh := get_pos hw
  obtain ⟨g, hg⟩ : ∃ g, g = getS S d s := ⟨_, rfl⟩
  have HG : Hid (getS S d s = g) := hg.symm
  have HPE : Hid (putE S d s n = 81 ∧ putS S d s n = S) := by
    have e : putE S d s n = 81 := by
      obtain ⟨i, hi, _⟩ := getS_some hh
      have hv : valid s = true := (HO.out.2.1 _ hi).2.1
      simp [putE, isIno, hdb, hnb, hv, hh]
    exact ⟨e, by rw [putS, e]; rfl⟩
  have hw1 : (g == 0) = false := by rw [hg]; simpa using hw
  have hw2 : (g != 0) = true := by rw [hg]; simpa using hw
  clear hw hh hg
  go_enter Try.func6, Try.ntmps6
  go_wp2_with (first
    | (go_at_call 19; refine (ks_same H11 R11 true (by simp) hLl).mono ?_; rintro e w12 ⟨rfl, H12⟩)
    | (go_at_call 11; refine (ks_list H10 d L HL.out).mono ?_; rintro e w11 ⟨v11, rfl, H11, R11⟩)
    | (go_at_call 14; refine (ks_links H9 n _ HLK.out).mono ?_; rintro e w10 ⟨rfl, H10⟩)
    | (go_at_call 13; refine (ks_get H8 d hwf s _ HG.out).mono ?_; rintro e w9 ⟨rfl, H9⟩)
    | (go_at_call 18; refine (ks_put H7 d s n 81 S HPE.out.1 HPE.out.2 (by have := HO.out.2.2; omega)).mono ?_; rintro e w8 ⟨rfl, H8⟩)
    | (go_at_call 14; refine (ks_links H6 n _ HLK.out).mono ?_; rintro e w7 ⟨rfl, H7⟩)
    | (go_at_call 12; refine (ks_len H5 d _ HSZ.out).mono ?_; rintro e w6 ⟨rfl, H6⟩)
    | (go_at_call 20; refine (ks_copy H4 R4 hLl).mono ?_; rintro e w5 ⟨vb, rfl, H5⟩)
    | (go_at_call 11; refine (ks_list H3 d L HL.out).mono ?_; rintro e w4 ⟨v4, rfl, H4, R4⟩)
    | (go_at_call 13; refine (ks_get H2 d hwf s _ HG.out).mono ?_; rintro e w3 ⟨rfl, H3⟩)
    | (go_at_call 16; refine (h16a _).mono ?_; rintro e w0 ⟨rfl, hw0⟩; subst w0; clear h16a)
    | (go_at_call 16; refine (h16b _).mono ?_; rintro e w0 ⟨rfl, hw0⟩; subst w0)
    | (go_at_call 9; refine (ks_first H1).mono ?_; rintro e w2 ⟨rfl, H2⟩)
    | (go_at_call 10; refine h10.mono ?_; rintro e w1 ⟨rfl, H1⟩))
  all_goals go_ret
  all_goals first
    | exact ⟨rfl, H12.out.keep⟩
    | exact ⟨ret_bool (by simp), H12.out.keep⟩

set_option maxHeartbeats 4000000 in
set_option maxRecDepth 100000 in
theorem kept_bad (w : World) (p : Option Addr) (cap : Nat) (l : List OpT) (hp : OpIn w p l) (hn : l.length < 3000000000000) (dir : Int) (s : ByteArray) (to : Int) (hw : getS (fillS l) (inoF dir) s = 0) (hv : valid s = false) :
    Calls Try.prog 6 #[.slice p l.length cap, .int .i64 dir, .string s, .int .i64 to] w fun e w' => e = .returned (.bool true) ∧ Keeps (fun _ => False) w w' := by
  have h10 := ks_filled w p cap l hp hn
  have ho := fillS_ok l
  have hlen := fillS_len l
  have h16 := ino_any
  obtain ⟨d, hd⟩ : ∃ d, d = inoF dir := ⟨_, rfl⟩
  obtain ⟨n, hnn⟩ : ∃ n, n = inoF to := ⟨_, rfl⟩
  have h16a : ∀ W, Calls Try.prog 16 #[.int .i64 dir] W fun e w' => e = .returned (.int .i64 d) ∧ w' = W := fun W => by rw [hd]; exact h16 dir W
  have h16b : ∀ W, Calls Try.prog 16 #[.int .i64 to] W fun e w' => e = .returned (.int .i64 n) ∧ w' = W := fun W => by rw [hnn]; exact h16 to W
  have hdb : 1 ≤ d ∧ d ≤ 256 := by rw [hd]; exact inoF_bd _
  have hnb : 1 ≤ n ∧ n ≤ 256 := by rw [hnn]; exact inoF_bd _
  have hwf : (Lit.int .i64 d).wf = true := wf64 (by omega) (by omega)
  rw [← hd] at hw
  clear hd hnn h16
  generalize fillS l = S at *
  obtain ⟨L, hL⟩ : ∃ L, L = lstS S d := ⟨_, rfl⟩
  have hLl : L.length < 4000000000000 := by rw [hL, lst_len]; have := filt_le S (inDir d); omega
  have HO : Hid (Rise S ∧ (∀ r ∈ S, OkR r) ∧ S.length < 3000000000000) := ⟨ho.1, ho.2, by omega⟩
  have HL : Hid (lstS S d = L) := hL.symm
  obtain ⟨sz, hsz⟩ : ∃ sz : Nat, sz = (S.filter (inDir d)).length := ⟨_, rfl⟩
  obtain ⟨lk, hlk⟩ : ∃ lk : Nat, lk = (S.filter (toIno n)).length := ⟨_, rfl⟩
  have HSZ : Hid (((S.filter (inDir d)).length : Int) = (sz : Int)) := by rw [hsz]; exact rfl
  have HLK : Hid (((S.filter (toIno n)).length : Int) = (lk : Int)) := by rw [hlk]; exact rfl
  have hszb : sz < 4000000000000 := by rw [hsz]; have := filt_le S (inDir d); omega
  have hlkb : lk < 4000000000000 := by rw [hlk]; have := filt_le S (toIno n); omega
  clear ho hlen hL hp hn hsz hlk
  have HG : Hid (getS S d s = 0) := hw
  have HPE : Hid (putE S d s n = 80 ∧ putS S d s n = S) := by
    have e : putE S d s n = 80 := by simp [putE, isIno, hdb, hnb, hv]
    exact ⟨e, by rw [putS, e]; rfl⟩
  have h15 := good_any s
  rw [hv] at h15
  clear hw hv
  go_enter Try.func6, Try.ntmps6
  go_wp2_with (first
    | (go_at_call 19; refine (ks_same H11 R11 true (by simp) hLl).mono ?_; rintro e w12 ⟨rfl, H12⟩)
    | (go_at_call 11; refine (ks_list H8 d L HL.out).mono ?_; rintro e w11 ⟨v11, rfl, H11, R11⟩)
    | (go_at_call 15; refine (h15 _).mono ?_; rintro e w0 ⟨rfl, hw0⟩; subst w0)
    | (go_at_call 18; refine (ks_put H7 d s n 80 S HPE.out.1 HPE.out.2 (by have := HO.out.2.2; omega)).mono ?_; rintro e w8 ⟨rfl, H8⟩)
    | (go_at_call 14; refine (ks_links H6 n _ HLK.out).mono ?_; rintro e w7 ⟨rfl, H7⟩)
    | (go_at_call 12; refine (ks_len H5 d _ HSZ.out).mono ?_; rintro e w6 ⟨rfl, H6⟩)
    | (go_at_call 20; refine (ks_copy H4 R4 hLl).mono ?_; rintro e w5 ⟨vb, rfl, H5⟩)
    | (go_at_call 11; refine (ks_list H3 d L HL.out).mono ?_; rintro e w4 ⟨v4, rfl, H4, R4⟩)
    | (go_at_call 13; refine (ks_get H2 d hwf s _ HG.out).mono ?_; rintro e w3 ⟨rfl, H3⟩)
    | (go_at_call 16; refine (h16a _).mono ?_; rintro e w0 ⟨rfl, hw0⟩; subst w0; clear h16a)
    | (go_at_call 16; refine (h16b _).mono ?_; rintro e w0 ⟨rfl, hw0⟩; subst w0)
    | (go_at_call 9; refine (ks_first H1).mono ?_; rintro e w2 ⟨rfl, H2⟩)
    | (go_at_call 10; refine h10.mono ?_; rintro e w1 ⟨rfl, H1⟩))
  all_goals go_ret
  all_goals first
    | exact ⟨rfl, H12.out.keep⟩
    | exact ⟨ret_bool (by simp), H12.out.keep⟩

theorem ks_copy' {W w : World} {x bm : Nat} {S : List Rw} {base : Nat} {vb : Value} {L : List De} (h : Hid (KS W w x bm S base vb L)) {b : Nat} {v : Value} {M : List De} (hv : Hid (RowD w b v M)) (hM : M.length < 4000000000000) :
    Calls Try.prog 20 #[v] w fun e w' => ∃ p c, e = .returned (.slice p M.length c) ∧ Hid (KS W w' x bm S w.heap.size (.slice p M.length c) M) := by
  refine (ks_copy h hv hM).mono ?_
  rintro e w' ⟨v', rfl, H⟩
  obtain ⟨p, c, rfl⟩ := H.out.row.dsl.shape
  exact ⟨p, c, rfl, H⟩
theorem ks_list' {W w : World} {x bm : Nat} {S : List Rw} {base : Nat} {vb : Value} {L : List De} (h : Hid (KS W w x bm S base vb L)) (d : Int) (M : List De) (hM : lstS S d = M) (m : Nat) (hm : M.length = m) (h0 : 0 < m) :
    Calls Try.prog 11 #[.pointer (some ⟨x, 0, none⟩), .int .i64 d] w fun e w' => ∃ g c, e = .returned (.slice (some ⟨g, 0, none⟩) m c) ∧ Hid (KS W w' x bm S base vb L) ∧ Hid (RowD w' w.heap.size (.slice (some ⟨g, 0, none⟩) m c) M) := by
  refine (ks_list h d M hM).mono ?_
  rintro e w' ⟨v', rfl, H, R⟩
  subst hm
  rcases R.out.2 with ⟨_, h1⟩ | ⟨g, cap, cur, rfl, _⟩
  · omega
  · exact ⟨g, cap, rfl, H, R⟩
theorem RowD.at {w : World} {base g m c : Nat} {l : List De} (h : RowD w base (.slice (some ⟨g, 0, none⟩) m c) l) {i : Nat} (hi : i < l.length) : w.cell? ⟨g, i * 2, none⟩ = some (.string (l.getD i dz).1) ∧ w.cell? ⟨g, i * 2 + 1, none⟩ = some (.int .i64 (l.getD i dz).2) := by
  have hm : m = l.length := by
    rcases h.2 with ⟨e, _⟩ | ⟨g, cap, cur, e, _⟩ <;> cases e
    rfl
  subst hm
  constructor
  · rw [World.ownsRow.cellAt h (i * 2) (by omega)]; exact (dcells_at l i hi).1
  · rw [World.ownsRow.cellAt h (i * 2 + 1) (by omega)]; exact (dcells_at l i hi).2
theorem RowD.form {w : World} {base m c : Nat} {p : Option Addr} {l : List De} (h : RowD w base (.slice p m c) l) (h0 : 0 < l.length) : ∃ g, p = some ⟨g, 0, none⟩ := by
  rcases h.2 with ⟨e, h1⟩ | ⟨g, cap, cur, e, _⟩
  · omega
  · cases e; exact ⟨g, rfl⟩
theorem quiet_neqG {C : World → Prop} {ops : Array Oper} {Q : Act → Prop} {ac : Act} {o : Oper} {rest : List Oper} (hw : Region.wanted o (yielded ops ac.tmps) = true) (x y : Operand) (ho : o.op = .binOp .neq 30 x y 30) (a b : De) (hx : ac.eval x = .agg #[.string a.1, .int .i64 a.2]) (hy : ac.eval y = .agg #[.string b.1, .int .i64 b.2]) (r : Bool) (hr : (!decide (a = b)) = r)
    (h : wpQuiet Try.prog ops C Q rest (ac.put o.dst (.bool r))) : wpQuiet Try.prog ops C Q (o :: rest) ac := by
  unfold wpQuiet
  rw [if_pos hw]
  exact ⟨_, fun w _ => by unfold Oper.quietAt; rw [exec_neq30 a b w _ _ _ _ ho hx hy]; exact ⟨rfl, by rw [hr]⟩, h⟩

set_option maxHeartbeats 4000000 in
set_option maxRecDepth 100000 in
theorem kept_new (w : World) (p : Option Addr) (cap : Nat) (l : List OpT) (hp : OpIn w p l) (hn : l.length < 3000000000000) (dir : Int) (s : ByteArray) (to : Int) (hw : getS (fillS l) (inoF dir) s = 0) (hv : valid s = true) :
    Calls Try.prog 6 #[.slice p l.length cap, .int .i64 dir, .string s, .int .i64 to] w fun e w' => e = .returned (.bool true) ∧ Keeps (fun _ => False) w w' := by
  have h10 := ks_filled w p cap l hp hn
  have ho := fillS_ok l
  have hlen := fillS_len l
  have h16 := ino_any
  obtain ⟨d, hd⟩ : ∃ d, d = inoF dir := ⟨_, rfl⟩
  obtain ⟨n, hnn⟩ : ∃ n, n = inoF to := ⟨_, rfl⟩
  have h16a : ∀ W, Calls Try.prog 16 #[.int .i64 dir] W fun e w' => e = .returned (.int .i64 d) ∧ w' = W := fun W => by rw [hd]; exact h16 dir W
  have h16b : ∀ W, Calls Try.prog 16 #[.int .i64 to] W fun e w' => e = .returned (.int .i64 n) ∧ w' = W := fun W => by rw [hnn]; exact h16 to W
  have hdb : 1 ≤ d ∧ d ≤ 256 := by rw [hd]; exact inoF_bd _
  have hnb : 1 ≤ n ∧ n ≤ 256 := by rw [hnn]; exact inoF_bd _
  have hwf : (Lit.int .i64 d).wf = true := wf64 (by omega) (by omega)
  rw [← hd] at hw
  clear hd hnn h16
  generalize fillS l = S at *
  obtain ⟨L, hL⟩ : ∃ L, L = lstS S d := ⟨_, rfl⟩
  have hLl : L.length < 4000000000000 := by rw [hL, lst_len]; have := filt_le S (inDir d); omega
  have HO : Hid (Rise S ∧ (∀ r ∈ S, OkR r) ∧ S.length < 3000000000000) := ⟨ho.1, ho.2, by omega⟩
  have HL : Hid (lstS S d = L) := hL.symm
  obtain ⟨sz, hsz⟩ : ∃ sz : Nat, sz = (S.filter (inDir d)).length := ⟨_, rfl⟩
  obtain ⟨lk, hlk⟩ : ∃ lk : Nat, lk = (S.filter (toIno n)).length := ⟨_, rfl⟩
  have HSZ : Hid (((S.filter (inDir d)).length : Int) = (sz : Int)) := by rw [hsz]; exact rfl
  have HLK : Hid (((S.filter (toIno n)).length : Int) = (lk : Int)) := by rw [hlk]; exact rfl
  have hszb : sz < 4000000000000 := by rw [hsz]; have := filt_le S (inDir d); omega
  have hlkb : lk < 4000000000000 := by rw [hlk]; have := filt_le S (toIno n); omega
  clear ho hlen hL hp hn hsz hlk
  have HG : Hid (getS S d s = 0) := hw
  have hh := get_zero HO.out.2.1 hw
  have HPE : Hid (putE S d s n = 0 ∧ putS S d s n = insS (d, s, n) S) := by
    have e : putE S d s n = 0 := by simp [putE, isIno, hdb, hnb, hv, hh]
    exact ⟨e, by rw [putS, e]; rfl⟩
  have h15 := good_any s
  rw [hv] at h15
  obtain ⟨S', hS'⟩ : ∃ S', S' = insS (d, s, n) S := ⟨_, rfl⟩
  have hr' : Rise S' := by rw [hS']; exact ins_rise HO.out.1 hh
  have hmem : (d, s, n) ∈ S' := by rw [hS']; exact mem_ins.2 (Or.inl rfl)
  have hdel : delS S' d s = S := by rw [hS']; exact del_ins (x := (d, s, n)) hh
  obtain ⟨L', hL'⟩ : ∃ L', L' = lstS S' d := ⟨_, rfl⟩
  have hLf : L = L'.filter (oth s) := by rw [hL', ← HL.out, ← hdel]; exact lst_del S' d s
  have hLs : L'.length = L.length + 1 := by
    rw [hL', ← HL.out, lst_len, lst_len, hS', ins_filt]; simp [inDir]
  have hin : ∀ i, i < L'.length → (L'.getD i dz).1 = s → (L'.getD i dz).2 = n := by
    intro i hi he
    have hm : L'.getD i dz ∈ lstS S' d := by
      rw [← hL', List.getD_eq_getElem?_getD, List.getElem?_eq_getElem hi]; exact List.getElem_mem hi
    have h2 := mem_lst.1 hm
    have := hr'.inj h2 hmem ⟨rfl, he⟩
    exact congrArg (fun r => r.2.2) this
  have HF : Hid (L = L'.filter (oth s) ∧ L'.length = L.length + 1 ∧ (∀ i, i < L'.length → (L'.getD i dz).1 = s → (L'.getD i dz).2 = n) ∧ lstS S' d = L') := ⟨hLf, hLs, hin, hL'.symm⟩
  have HS : Hid (putS S d s n = S' ∧ S'.length < 4000000000000 ∧ getS S' d s = n ∧ dropE S' d s = 0 ∧ delS S' d s = S) := by
    refine ⟨by rw [hS']; exact HPE.out.2, by rw [hS', ins_len]; have := HO.out.2.2; omega, getS_mem hr' hmem, ?_, hdel⟩
    have : hasS S' d s = true := hasS_iff.2 ⟨_, hmem, rfl, rfl⟩
    simp [dropE, this]
  have HSZ' : Hid (((S'.filter (inDir d)).length : Int) = (sz : Int) + 1) := by
    have := HSZ.out
    show _ = _
    rw [hS', ins_filt]; simp [inDir] at this ⊢; omega
  have HLK' : Hid (((S'.filter (toIno n)).length : Int) = (lk : Int) + 1) := by
    have := HLK.out
    show _ = _
    rw [hS', ins_filt]; simp [toIno] at this ⊢; omega
  have HDN : Hid (dropE S d s = 82 ∧ delS S d s = S) := ⟨by simp [dropE, hh], del_none hh⟩
  obtain ⟨m, hm⟩ : ∃ m, m = L'.length := ⟨_, rfl⟩
  obtain ⟨M, hM⟩ : ∃ M, M = L.length := ⟨_, rfl⟩
  have HM : Hid (m = L'.length ∧ M = L.length ∧ m = M + 1) := ⟨hm, hM, by omega⟩
  have hm0 : 0 < m := by omega
  have hmb : m < 5000000000000 := by omega
  have hMb : M < 4000000000000 := by omega
  clear hw hh hv hr' hmem hdel hLf hLs hin hL' hm hM hS'
  go_enter Try.func6, Try.ntmps6
  go_wp2_with (first
    | (go_at_call 11; refine (ks_list' H11 d L' HF.out.2.2.2 m HM.out.1.symm hm0).mono ?_; rintro e w12 ⟨g, c, rfl, H12, R12⟩)
    | (go_at_call 14; refine (ks_links H10 n _ HLK'.out).mono ?_; rintro e w11 ⟨rfl, H11⟩)
    | (go_at_call 12; refine (ks_len H9 d _ HSZ'.out).mono ?_; rintro e w10 ⟨rfl, H10⟩)
    | (go_at_call 13; refine (ks_get H8 d hwf s _ HS.out.2.2.1).mono ?_; rintro e w9 ⟨rfl, H9⟩)
    | (go_at_call 15; refine (h15 _).mono ?_; rintro e w0 ⟨rfl, hw0⟩; subst w0)
    | (go_at_call 18; refine (ks_put H7 d s n 0 S' HPE.out.1 HS.out.1 HS.out.2.1).mono ?_; rintro e w8 ⟨rfl, H8⟩)
    | (go_at_call 14; refine (ks_links H6 n _ HLK.out).mono ?_; rintro e w7 ⟨rfl, H7⟩)
    | (go_at_call 12; refine (ks_len H5 d _ HSZ.out).mono ?_; rintro e w6 ⟨rfl, H6⟩)
    | (go_at_call 20; refine (ks_copy' H4 R4 hLl).mono ?_; rintro e w5 ⟨p2, c2, rfl, H5⟩)
    | (go_at_call 11; refine (ks_list H3 d L HL.out).mono ?_; rintro e w4 ⟨v4, rfl, H4, R4⟩)
    | (go_at_call 13; refine (ks_get H2 d hwf s _ HG.out).mono ?_; rintro e w3 ⟨rfl, H3⟩)
    | (go_at_call 16; refine (h16a _).mono ?_; rintro e w0 ⟨rfl, hw0⟩; subst w0; clear h16a)
    | (go_at_call 16; refine (h16b _).mono ?_; rintro e w0 ⟨rfl, hw0⟩; subst w0)
    | (go_at_call 9; refine (ks_first H1).mono ?_; rintro e w2 ⟨rfl, H2⟩)
    | (go_at_call 10; refine h10.mono ?_; rintro e w1 ⟨rfl, H1⟩))
  go_loopw [18, 19] (fun kv iv wr => ∃ i : Nat, i ≤ m ∧ iv = .int .i64 i ∧ ∃ k : Nat, k ≤ L.length ∧ kv = .int .i64 k ∧ Hid (k = ((L'.take i).filter (oth s)).length ∧ Keeps (fun _ => False) w12 wr)) (fun _ iv _ => m - (intOf iv).toNat)
  case atStart => exact ⟨0, Nat.zero_le _, rfl, 0, Nat.zero_le _, rfl, by simp [Hid]; exact Keeps.refl _ _⟩
  case round =>
    obtain ⟨i, hi, rfl, k, hk, rfl, HR⟩ := hrel
    have R := R12.out.grown HR.out.2
    have HKS : Hid (KS w wr (w.heap.size + 1) w.heap.size S' w4.heap.size (.slice p2 L.length c2) L) := H12.out.grown HR.out.2
    by_cases h1 : i < m
    · have hiL : i < L'.length := by rw [← HM.out.1]; exact h1
      obtain ⟨a0, a1⟩ := R.at hiL
      have hst := oth_step s hiL
      have hat := oth_at s hiL
      have hnn := HF.out.2.2.1 i hiL
      generalize L'.getD i dz = xa at a0 a1 hst hat hnn
      obtain ⟨s1, i1⟩ := xa
      simp only at a0 a1 hnn
      have h1' : (i : Int) < (m : Int) := by omega
      by_cases he : s1 = s
      · subst he
        obtain rfl := hnn rfl
        have hss : (s1 == s1) = true := (MapKept.bytes_beq s1 s1).2 rfl
        have hnn2 : (i1 != i1) = false := by simp
        have HT : Hid (k = ((L'.take (i + 1)).filter (oth s1)).length) := by
          show _ = _
          rw [hst]; simp [oth]; exact HR.out.1
        clear hst hat hnn R
        go_wp2
        go_roundw
        case rel => exact ⟨i + 1, by omega, by go_num, k, hk, rfl, HT.out, HR.out.2⟩
        case measure => simp [intOf]; omega
      · have hss : (s1 == s) = false := by
          rw [Bool.eq_false_iff]; exact fun e => he ((MapKept.bytes_beq s1 s).1 e)
        have hs2 : (s1.toList == s.toList) = false := by
          rw [Bool.eq_false_iff]
          intro e
          have e2 : s1.toList = s.toList := by simpa using e
          rw [ByteArray.toList_eq, ByteArray.toList_eq] at e2
          exact he (bytes_ext e2)
        have ho : oth s (s1, i1) = true := by simp [oth, he]
        have hkL := hat ho
        rw [← HF.out.1, ← HR.out.1] at hkL
        obtain ⟨g2, rfl⟩ := HKS.out.row.form (by omega)
        obtain ⟨b0, b1⟩ := HKS.out.row.at hkL.1
        rw [hkL.2] at b0 b1
        have HT : Hid (k + 1 = ((L'.take (i + 1)).filter (oth s)).length) := by
          show _ = _
          rw [hst, ho, List.length_append, ← HR.out.1]; rfl
        have hk1 : k < L.length := hkL.1
        have hk2 : (k : Int) < (L.length : Int) := by omega
        have hk3 : decide ((L.length : Int) ≤ (k : Int)) = false := by simp; omega
        have hk4 : decide (L.length ≤ k) = false := by simp; omega
        clear hst hat hnn R ho hkL he
        go_wp2
        refine wp_region_quiet_lit (by kernel_rfl) (by kernel_rfl) ?_
        repeat (first
          | (refine quiet_neqG (by rfl) _ _ rfl (s1, i1) (s1, i1) rfl rfl false (by simp) ?_)
          | quiet_step (fail))
        refine wpQuiet_nil ?_
        intro _ hw'
        obtain ⟨nq, rfl⟩ := hw'
        go_wp2
        go_roundw
        case rel => exact ⟨i + 1, by omega, by go_num, k + 1, by omega, by go_num, HT.out, HR.out.2.trans (Keeps.drewN _ _ _)⟩
        case measure => simp [intOf]; omega
    · have h1' : ¬ (i : Int) < (m : Int) := by omega
      have hkk : k = L.length := by
        rw [HR.out.1, List.take_of_length_le (by rw [← HM.out.1]; omega), ← HF.out.1]
      have e1 : m = L.length + 1 := by have := HM.out; omega
      have e3 : ((k : Int) != (L.length : Int)) = false := by simp [hkk]
      have e4 : ((m : Int) != (k : Int) + 1) = false := by simp; omega
      have e5 : ((k : Int) == (L.length : Int)) = true := by simp [hkk]
      have e6 : ((m : Int) == (k : Int) + 1) = true := by simp; omega
      have HKK : Hid (k = L.length ∧ m = L.length + 1) := ⟨hkk, e1⟩
      clear hkk e1 R
      go_wp2_with (first
        | (go_at_call 19; refine (ks_same H17 R17 true (by simp) hLl).mono ?_; rintro e w18 ⟨rfl, H18⟩)
        | (go_at_call 11; refine (ks_list H16 d L HL.out).mono ?_; rintro e w17 ⟨v17, rfl, H17, R17⟩)
        | (go_at_call 14; refine (ks_links H15 n _ HLK.out).mono ?_; rintro e w16 ⟨rfl, H16⟩)
        | (go_at_call 13; refine (ks_get H14 d hwf s _ HG.out).mono ?_; rintro e w15 ⟨rfl, H15⟩)
        | (go_at_call 21; refine (ks_drop H13 d hwf s 0 82 S HG.out HDN.out.1 HDN.out.2).mono ?_; rintro e w14 ⟨rfl, H14⟩)
        | (go_at_call 21; refine (ks_drop HKS d hwf s n 0 S HS.out.2.2.1 HS.out.2.2.2.1 HS.out.2.2.2.2).mono ?_; rintro e w13 ⟨rfl, H13⟩))
      all_goals go_ret
      all_goals first
        | exact ⟨rfl, H18.out.keep⟩
        | exact ⟨ret_bool (by simp), H18.out.keep⟩

end Go.Proofs.Ytendmohjodeelaa
