import Derived.Test.YtpgabmfpffaajaaDoorK12
namespace Go.Proofs.YtpgabmfpffaajaaDoor
open Go.RowKit Go.Maps
set_option maxRecDepth 100000

/-! The document's lines of a state. -/
structure Sta where
  pg : Int
  is : Int
  co : Int
  dt : Int
  nd : List (Nd × Value × Value × Value)
  fr : List (Int × Int)
def n10 (p : Nd × Value × Value × Value) : List Value := (ncell p.1 p.2.1 p.2.2.1 p.2.2.2).toList
def s2cell (s : Int × Int) : List Value := [.int .i64 s.1, .int .i64 s.2]
def tcell (t : Sta) (vn vf : Value) : Array Value := #[.int .i64 t.pg, .int .i64 t.is, .int .i64 t.co, .int .i64 t.dt, vn, vf]
def nwt (d : Nd) : Nat := 1 + d.mp.length + dwt d.nm + d.lg.length
def twt (l : List (Nd × Value × Value × Value)) : Nat := (l.map fun p => nwt p.1).sum
structure StaIn (t : Sta) : Prop where
  pg : In64 t.pg
  is : In64 t.is
  co : In64 t.co
  nd : ∀ p ∈ t.nd, NdIn p.1
  fr : ∀ s ∈ t.fr, In64 s.1 ∧ In64 s.2
  wt : twt t.nd + t.fr.length ≤ 1100000
structure StaAt (W : World) (t : Sta) (vn vf : Value) : Prop where
  nd : Row W vn t.nd.length (t.nd.flatMap n10)
  ins : ∀ p ∈ t.nd, NdAt W p.1 p.2.1 p.2.2.1 p.2.2.2
  fr : Row W vf t.fr.length (t.fr.flatMap s2cell)
theorem StaAt.keep {A B : World} {t : Sta} {vn vf : Value} (h : StaAt A t vn vf) (k : Keeps (fun _ => False) A B) : StaAt B t vn vf := ⟨h.nd.keep k, fun p hp => (h.ins p hp).keep k, h.fr.keep k⟩
theorem twt_len (l : List (Nd × Value × Value × Value)) : l.length ≤ twt l := by
  induction l with
  | nil => exact Nat.zero_le _
  | cons x l ih =>
    have e : twt (x :: l) = nwt x.1 + twt l := by simp [twt]
    rw [e, List.length_cons]; unfold nwt; omega
theorem twt_take (l : List (Nd × Value × Value × Value)) (k : Nat) : twt (l.take k) ≤ twt l := by
  have e : twt l = twt (l.take k) + twt (l.drop k) := by
    unfold twt
    rw [← List.sum_append, ← List.map_append, List.take_append_drop]
  omega
theorem nodB_size {d : Nd} (h : NdIn d) : (nodB d).size ≤ 1000 * nwt d := by
  have h1 := (n2B_size h).2
  have h2 := numB_size h.lg
  have h4 := dtsB_size h.nm
  have h5 := cat_le rnB 100 d.mp (fun a ha => rnB_size (h.mp a ha))
  have e1 : (⟨#[32, 108, 111, 103]⟩ : ByteArray).size = 4 := rfl
  have e2 : (⟨#[32, 109, 97, 112]⟩ : ByteArray).size = 4 := rfl
  have e3 : (⟨#[32, 110, 97, 109, 101, 115]⟩ : ByteArray).size = 6 := rfl
  have h6 : (n3B d).size ≤ 804 + d.lg.length * 40 := by
    unfold n3B
    split
    · simp only [ByteArray.size_append]; omega
    · omega
  unfold nodB nwt
  split
  · simp only [ByteArray.size_append]; omega
  · split
    · simp only [ByteArray.size_append]; omega
    · omega
def nlB (p : Nd × Value × Value × Value) : ByteArray := nodB p.1 ++ ⟨#[10]⟩
theorem nls_size {l : List (Nd × Value × Value × Value)} (h : ∀ p ∈ l, NdIn p.1) : (cat (l.map nlB)).size ≤ 1001 * twt l := by
  induction l with
  | nil => exact Nat.zero_le _
  | cons x l ih =>
    have h1 := ih (fun p hp => h p (by simp [hp]))
    have h2 := nodB_size (h x (by simp))
    have e : twt (x :: l) = nwt x.1 + twt l := by simp [twt]
    have e2 : (⟨#[10]⟩ : ByteArray).size = 1 := rfl
    have e3 : (nlB x).size = (nodB x.1).size + 1 := by unfold nlB; rw [ByteArray.size_append, e2]
    have e4 : 1 ≤ nwt x.1 := by unfold nwt; omega
    rw [cat_size] at h1 ⊢
    simp only [List.map_cons, List.sum_cons, e3]
    omega
def spB (s : Int × Int) : ByteArray := ((((⟨#[32]⟩ : ByteArray) ++ (iB s.1)) ++ (⟨#[43]⟩ : ByteArray)) ++ (iB s.2))
theorem spB_size {s : Int × Int} (h : In64 s.1 ∧ In64 s.2) : (spB s).size ≤ 80 := by
  unfold spB
  simp only [ByteArray.size_append]
  have := iB_size h.1
  have := iB_size h.2
  have : (⟨#[32]⟩ : ByteArray).size = 1 := rfl
  have : (⟨#[43]⟩ : ByteArray).size = 1 := rfl
  omega
def hdB (t : Sta) : ByteArray := (⟨#[32, 32, 115, 104, 97, 112, 101]⟩ : ByteArray) ++ numB [t.pg, t.is, t.co] ++ ⟨#[10]⟩
def staB (t : Sta) : ByteArray := hdB t ++ cat (t.nd.map nlB) ++ ⟨#[32, 32, 102, 114, 101, 101]⟩ ++ cat (t.fr.map spB)
theorem hdB_size {t : Sta} (h : StaIn t) : (hdB t).size ≤ 200 := by
  have h2 := numB_size (l := [t.pg, t.is, t.co]) (fun n hn => by
    simp only [List.mem_cons, List.not_mem_nil, or_false] at hn
    rcases hn with rfl | rfl | rfl
    · exact h.pg
    · exact h.is
    · exact h.co)
  simp only [List.length_cons, List.length_nil] at h2
  have e1 : (⟨#[10]⟩ : ByteArray).size = 1 := rfl
  have e2 : (⟨#[32, 32, 115, 104, 97, 112, 101]⟩ : ByteArray).size = 7 := rfl
  unfold hdB
  simp only [ByteArray.size_append]
  omega
theorem fill3 (x y z : Int) : Instr.fill (fun i => some (i * 1, 1)) ((Array.range (3 * 1)).map ((Value.int .i64 0).cells[· % (Value.int .i64 0).cells.size]!)) [(0, .int .i64 x), (1, .int .i64 y), (2, .int .i64 z)] = some (ints [x, y, z]).toArray := by kernel_rfl
theorem info3 : (Tryd.prog.info? 3).map (fun i => (i.zero, i.size, i.bytes)) = some (some (.int .i64 0), 1, 8) := by kernel_rfl
theorem wpList_b3 {ops : Array Oper} {rest : List Oper} {o : Oper} {a : Act} {W : World} {Q : Exit → Act → World → Prop} (hgd : o.guard = none) (x y z : Operand) (ho : o.op = .buildSlice 31 3 #[(0, x), (1, y), (2, z)]) (i j k : Int) (hx : a.eval x = .int .i64 i) (hy : a.eval y = .int .i64 j) (hz : a.eval z = .int .i64 k)
    (h : wpList Tryd.prog ops Q rest (a.put o.dst (.slice (some ⟨W.heap.size, 0, none⟩) 3 3)) (W.alloc (.cells (ints [i, j, k]).toArray 3))) : wpList Tryd.prog ops Q (o :: rest) a W := by
  obtain ⟨i0, hi, hz0, hz1, hz2⟩ := info_parts info3
  refine wpList_buildSlice hgd 31 3 3 _ ho (ints [i, j, k]).toArray i0 (.int .i64 0) Tryd.underlying31 hi hz0 (by rw [hz1]; decide) (by rw [hz1]; decide) ?_ h
  rw [hz1, show ((#[(0, x), (1, y), (2, z)] : Array (Nat × Operand)).map fun (i, x) => (i, a.eval x)).toList = [(0, a.eval x), (1, a.eval y), (2, a.eval z)] by simp, hx, hy, hz]
  exact fill3 i j k
theorem row_ints {W : World} (l : List Int) : Row (W.alloc (.cells (ints l).toArray 3)) (.slice (some ⟨W.heap.size, 0, none⟩) l.length l.length) l.length (ints l) :=
  ⟨_, l.length, rfl, Nat.le_refl _, fun _ => ⟨W.heap.size, 0, rfl, by rw [World.size_alloc]; omega, fun j u hj => by rw [Nat.zero_add]; exact new_cell W _ 3 j u (by rw [List.getElem?_toArray]; exact hj)⟩⟩
def ndz : Array Value := #[.int .i64 0, .int .i64 0, .int .i64 0, .int .i64 0, .slice none 0 0, .slice none 0 0, .int .i64 0, .int .i64 0, .slice none 0 0, .int .i64 0]
theorem size_nd : (Tryd.prog.info? 36).map (·.size) = some 10 := by kernel_rfl
theorem wpList_alloc_nd {ops : Array Oper} {rest : List Oper} {o : Oper} {a : Act} {w : World} {Q : Exit → Act → World → Prop} (hg : o.guard = none) (ho : o.op = .alloc 36)
    (h : wpList Tryd.prog ops Q rest (a.put o.dst (.pointer (some ⟨w.heap.size, 0, none⟩))) (w.alloc (.cells ndz 36))) : wpList Tryd.prog ops Q (o :: rest) a w := by
  refine wpList_plain hg fun K hK => ?_
  have hz := (zero_of_info (P := Tryd.prog) (t := 36) (v := .agg ndz) (n := 10) (by kernel_rfl)).1
  unfold Oper.wp execOp
  simp [ho, Instr.alloc, hz, newVar, newRow, Value.cells, Result.andThen]
  exact hK _ _ h
theorem wpList_store_nd {ops : Array Oper} {rest : List Oper} {o : Oper} {a : Act} {W : World} {Q : Exit → Act → World → Prop} (hgd : o.guard = none) (x y : Operand) (ho : o.op = .store 36 x y) (cs : Array Value) (hs : cs.size = 10) (h1 : cs.all (·.oneCell') = true) (hx : a.eval x = .pointer (some ⟨W.heap.size, 0, none⟩)) (hy : a.eval y = .agg cs)
    (h : wpList Tryd.prog ops Q rest (a.put o.dst undef) (W.alloc (.cells cs 36))) : wpList Tryd.prog ops Q (o :: rest) a (W.alloc (.cells ndz 36)) := by
  refine wpList_store_row hgd 36 x y ho W.heap.size cs hx hy 36 ndz (heap_last W _) (by rw [hs]; exact size_nd) (by rw [hs]; rfl) h1 ?_
  rw [World.setRow_alloc_new]; exact h
def spz : Array Value := #[.int .i64 0, .int .i64 0]
theorem size_sp : (Tryd.prog.info? 39).map (·.size) = some 2 := by kernel_rfl
theorem wpList_alloc_sp {ops : Array Oper} {rest : List Oper} {o : Oper} {a : Act} {w : World} {Q : Exit → Act → World → Prop} (hg : o.guard = none) (ho : o.op = .alloc 39)
    (h : wpList Tryd.prog ops Q rest (a.put o.dst (.pointer (some ⟨w.heap.size, 0, none⟩))) (w.alloc (.cells spz 39))) : wpList Tryd.prog ops Q (o :: rest) a w := by
  refine wpList_plain hg fun K hK => ?_
  have hz := (zero_of_info (P := Tryd.prog) (t := 39) (v := .agg spz) (n := 2) (by kernel_rfl)).1
  unfold Oper.wp execOp
  simp [ho, Instr.alloc, hz, newVar, newRow, Value.cells, Result.andThen]
  exact hK _ _ h
theorem wpList_store_sp {ops : Array Oper} {rest : List Oper} {o : Oper} {a : Act} {W : World} {Q : Exit → Act → World → Prop} (hgd : o.guard = none) (x y : Operand) (ho : o.op = .store 39 x y) (cs : Array Value) (hs : cs.size = 2) (h1 : cs.all (·.oneCell') = true) (hx : a.eval x = .pointer (some ⟨W.heap.size, 0, none⟩)) (hy : a.eval y = .agg cs)
    (h : wpList Tryd.prog ops Q rest (a.put o.dst undef) (W.alloc (.cells cs 39))) : wpList Tryd.prog ops Q (o :: rest) a (W.alloc (.cells spz 39)) := by
  refine wpList_store_row hgd 39 x y ho W.heap.size cs hx hy 39 spz (heap_last W _) (by rw [hs]; exact size_sp) (by rw [hs]; rfl) h1 ?_
  rw [World.setRow_alloc_new]; exact h
def dnz : Array Value := #[.string ⟨#[]⟩, .int .i64 0]
theorem size_dn : (Tryd.prog.info? 54).map (·.size) = some 2 := by kernel_rfl
theorem wpList_alloc_dn {ops : Array Oper} {rest : List Oper} {o : Oper} {a : Act} {w : World} {Q : Exit → Act → World → Prop} (hg : o.guard = none) (ho : o.op = .alloc 54)
    (h : wpList Tryd.prog ops Q rest (a.put o.dst (.pointer (some ⟨w.heap.size, 0, none⟩))) (w.alloc (.cells dnz 54))) : wpList Tryd.prog ops Q (o :: rest) a w := by
  refine wpList_plain hg fun K hK => ?_
  have hz := (zero_of_info (P := Tryd.prog) (t := 54) (v := .agg dnz) (n := 2) (by kernel_rfl)).1
  unfold Oper.wp execOp
  simp [ho, Instr.alloc, hz, newVar, newRow, Value.cells, Result.andThen]
  exact hK _ _ h
theorem wpList_store_dn {ops : Array Oper} {rest : List Oper} {o : Oper} {a : Act} {W : World} {Q : Exit → Act → World → Prop} (hgd : o.guard = none) (x y : Operand) (ho : o.op = .store 54 x y) (cs : Array Value) (hs : cs.size = 2) (h1 : cs.all (·.oneCell') = true) (hx : a.eval x = .pointer (some ⟨W.heap.size, 0, none⟩)) (hy : a.eval y = .agg cs)
    (h : wpList Tryd.prog ops Q rest (a.put o.dst undef) (W.alloc (.cells cs 54))) : wpList Tryd.prog ops Q (o :: rest) a (W.alloc (.cells dnz 54)) := by
  refine wpList_store_row hgd 54 x y ho W.heap.size cs hx hy 54 dnz (heap_last W _) (by rw [hs]; exact size_dn) (by rw [hs]; rfl) h1 ?_
  rw [World.setRow_alloc_new]; exact h
set_option maxHeartbeats 16000000 in
theorem rstate_any (w : World) (hv : Tab w) (t : Sta) (vn vf : Value) (hr : StaAt w t vn vf) (hi : StaIn t) :
    Calls Tryd.prog 4 #[.agg (tcell t vn vf)] w fun e w' => e = .returned (.string (staB t)) ∧ Keeps (fun _ => False) w w' := by
  obtain ⟨pn, cn, rfl, hcn, _⟩ := id hr.nd
  obtain ⟨pf, cf, rfl, hcf, _⟩ := id hr.fr
  have HR := Hid.mk' hr
  have HT := Hid.mk' hv
  have HB0 := Hid.mk' (heap_last w (.cells (tcell t (.slice pn t.nd.length cn) (.slice pf t.fr.length cf)) 27))
  have HK0 := Hid.mk' ((Keeps.refl (fun _ => False) w).alloc (.cells (tcell t (.slice pn t.nd.length cn) (.slice pf t.fr.length cf)) 27))
  have HC : Hid (∀ (W : World), Keeps (fun _ => False) (w.alloc (.cells (tcell t (.slice pn t.nd.length cn) (.slice pf t.fr.length cf)) 27)) W → ∀ (j : Nat) (u : Value), (tcell t (.slice pn t.nd.length cn) (.slice pf t.fr.length cf))[j]? = some u → W.cell? ⟨w.heap.size, j, none⟩ = some u) := by
    intro W k j u hj
    simp only [World.cell?, k.at HB0.out id]
    exact hj
  have zn := numB_size (l := [t.pg, t.is, t.co]) (fun n hn => by
    simp only [List.mem_cons, List.not_mem_nil, or_false] at hn
    rcases hn with rfl | rfl | rfl
    · exact hi.pg
    · exact hi.is
    · exact hi.co)
  simp only [List.length_cons, List.length_nil] at zn
  have HHD : Hid (hdB t = (⟨#[32, 32, 115, 104, 97, 112, 101]⟩ : ByteArray) ++ numB [t.pg, t.is, t.co] ++ ⟨#[10]⟩) := rfl
  have h6 : Calls Tryd.prog 6 #[.slice (some ⟨w.heap.size + 1, 0, none⟩) 3 3] ((w.alloc (.cells (tcell t (.slice pn t.nd.length cn) (.slice pf t.fr.length cf)) 27)).alloc (.cells (ints [t.pg, t.is, t.co]).toArray 3)) fun e w' => e = .returned (.string (numB [t.pg, t.is, t.co])) ∧ Keeps (fun _ => False) ((w.alloc (.cells (tcell t (.slice pn t.nd.length cn) (.slice pf t.fr.length cf)) 27)).alloc (.cells (ints [t.pg, t.is, t.co]).toArray 3)) w' := by
    have h := numbers_any _ (hv.keep (HK0.out.alloc (.cells (ints [t.pg, t.is, t.co]).toArray 3))) _ [t.pg, t.is, t.co] (row_ints _) (by simp) (fun n hn => by
      simp only [List.mem_cons, List.not_mem_nil, or_false] at hn
      rcases hn with rfl | rfl | rfl
      · exact hi.pg
      · exact hi.is
      · exact hi.co)
    rw [World.size_alloc] at h
    exact h
  generalize numB [t.pg, t.is, t.co] = NB at zn h6 HHD
  clear hr hv
  have c0 : (w.alloc (.cells (tcell t (.slice pn t.nd.length cn) (.slice pf t.fr.length cf)) 27)).cell? ⟨w.heap.size, 0, none⟩ = some (.int .i64 t.pg) := HC.out _ (Keeps.refl _ _) 0 _ rfl
  have c1 : (w.alloc (.cells (tcell t (.slice pn t.nd.length cn) (.slice pf t.fr.length cf)) 27)).cell? ⟨w.heap.size, 1, none⟩ = some (.int .i64 t.is) := HC.out _ (Keeps.refl _ _) 1 _ rfl
  have c2 : (w.alloc (.cells (tcell t (.slice pn t.nd.length cn) (.slice pf t.fr.length cf)) 27)).cell? ⟨w.heap.size, 2, none⟩ = some (.int .i64 t.co) := HC.out _ (Keeps.refl _ _) 2 _ rfl
  have zh := hdB_size hi
  go_enter Tryd.func4, Tryd.ntmps4
  have S0 := Hid.mk' True.intro
  go_wp2_with (first
    | (clear S0; refine wpList_b3 rfl _ _ _ rfl t.pg t.is t.co (by rfl) (by rfl) (by rfl) ?_; have S1 := Hid.mk' True.intro)
    | (clear S1; go_at_call 6; refine h6.mono ?_; clear h6; rintro e w1 ⟨rfl, hk1⟩; have HK1 := Hid.mk' ((HK0.out.alloc (.cells (ints [t.pg, t.is, t.co]).toArray 3)).trans hk1); have HC1 : Hid (∀ (W : World), Keeps (fun _ => False) w1 W → ∀ (j : Nat) (u : Value), (tcell t (.slice pn t.nd.length cn) (.slice pf t.fr.length cf))[j]? = some u → W.cell? ⟨w.heap.size, j, none⟩ = some u) := fun W k => HC.out W ((((Keeps.refl (fun _ => False) _).alloc _).trans hk1).trans k); clear hk1 HC; have S2 := Hid.mk' True.intro))
  clear S2 c0 c1 c2
  obtain ⟨s0, hs0⟩ : ∃ s0, (⟨#[32, 32, 115, 104, 97, 112, 101]⟩ : ByteArray) ++ NB ++ (⟨#[10]⟩ : ByteArray) = s0 := ⟨_, rfl⟩
  have HS0 : Hid (hdB t = s0) := by rw [← hs0]; exact HHD.out
  rw [hs0]
  clear hs0 HHD
  rw [HS0.out] at zh
  have hwt := hi.wt
  have hln := twt_len t.nd
  go_loopw [3, 4] (fun s i wr => ∃ (k : Nat) (x : ByteArray), k ≤ t.nd.length ∧ i = .int .i64 k ∧ s = .string x ∧ x.size ≤ 1200000000 ∧ Hid (x = s0 ++ cat ((t.nd.map nlB).take k)) ∧ Hid (Keeps (fun _ => False) w1 wr)) (fun _ i _ => t.nd.length - (intOf i).toNat)
  case atStart => exact ⟨0, _, Nat.zero_le _, rfl, rfl, by omega, bytes_ext (by simp [cat]), Keeps.refl _ _⟩
  case round =>
    obtain ⟨k, x, hk, rfl, rfl, hx, HX, HK⟩ := hrel
    have f3 : wr.cell? ⟨w.heap.size, 4, none⟩ = some (.slice pn t.nd.length cn) := HC1.out wr HK.out 4 _ rfl
    by_cases h1 : k < t.nd.length
    · have h1' : (k : Int) < (t.nd.length : Int) := by omega
      obtain ⟨⟨d, vm, vn, vl⟩, hd⟩ : ∃ n, t.nd[k]? = some n := ⟨t.nd[k], by simp [h1]⟩
      obtain ⟨b, o, c', e, _, hcell⟩ := ((HR.out.keep HK1.out).keep HK.out).nd.gets n10 10 (fun _ => rfl) hd
      injection e with e1 _ e3
      subst e1 e3
      have HRG : Hid (wr.rangeAt b (o + k * 10) (ncell d vm vn vl).toList) := fun j u hj => hcell j u hj
      have HND := Hid.mk' (hi.nd _ (List.mem_of_getElem? hd))
      have h7 := node_any wr (HT.out.keep (HK1.out.trans HK.out)) d vm vn vl (((HR.out.keep HK1.out).keep HK.out).ins _ (List.mem_of_getElem? hd)) HND.out
      have HX2 : Hid (x ++ (nodB d ++ (⟨#[10]⟩ : ByteArray)) = s0 ++ cat ((t.nd.map nlB).take (k + 1))) := by
        have h := HX.out
        show x ++ nlB (d, vm, vn, vl) = _
        rw [← List.map_take, cat_take nlB hd, h, List.map_take]
        exact ByteArray.append_assoc
      have HS2 : Hid (x.size + ((nodB d).size + 1) ≤ 1200000000) := by
        have h : (x ++ (nodB d ++ (⟨#[10]⟩ : ByteArray))).size = (s0 ++ cat ((t.nd.map nlB).take (k + 1))).size := by rw [HX2.out]
        rw [ByteArray.size_append, ByteArray.size_append, ByteArray.size_append, show (⟨#[10]⟩ : ByteArray).size = 1 from rfl, ← List.map_take] at h
        have h2 := nls_size (l := t.nd.take (k + 1)) (fun p hp => hi.nd p (List.mem_of_mem_take hp))
        have h3 := twt_take t.nd (k + 1)
        show _ ≤ _
        omega
      have hs2 := HS2.out
      clear hcell hd
      have S0 := Hid.mk' True.intro
      go_wp2_with (first
        | (clear S0; refine wpList_load_mid rfl 36 _ rfl b (o + k * 10) (by rfl) (ncell d vm vn vl).toList _ HRG.out Tryd.underlying36 rfl size_nd ?_; have S1 := Hid.mk' True.intro)
        | (clear S1; go_at_call 7; refine h7.mono ?_; clear h7; rintro e w2 ⟨rfl, hk2⟩; have HK2 := Hid.mk' hk2; clear hk2; have S2 := Hid.mk' True.intro))
      go_roundw
      case rel => first | exact ⟨k + 1, by omega, by omega, hs2, HX2.out, HK.out.trans HK2.out⟩ | exact ⟨k + 1, _, by omega, by go_num, rfl, by rw [ByteArray.size_append, ByteArray.size_append]; exact hs2, HX2.out, HK.out.trans HK2.out⟩
      case measure => simp [intOf]; omega
    · have h1' : ¬ (k : Int) < (t.nd.length : Int) := by omega
      have HX1 : Hid (x ++ ⟨#[32, 32, 102, 114, 101, 101]⟩ = s0 ++ cat (t.nd.map nlB) ++ ⟨#[32, 32, 102, 114, 101, 101]⟩) := by
        have h := HX.out
        rw [List.take_of_length_le (by simp; omega)] at h
        show _ = _
        rw [h]
      have zx : (x ++ ⟨#[32, 32, 102, 114, 101, 101]⟩ : ByteArray).size ≤ 1200000010 := by rw [ByteArray.size_append, show (⟨#[32, 32, 102, 114, 101, 101]⟩ : ByteArray).size = 6 from rfl]; omega
      go_wp2
      obtain ⟨s1, hs1⟩ : ∃ s1, x ++ (⟨#[32, 32, 102, 114, 101, 101]⟩ : ByteArray) = s1 := ⟨_, rfl⟩
      rw [hs1] at zx ⊢
      have HS1 : Hid (s1 = s0 ++ cat (t.nd.map nlB) ++ ⟨#[32, 32, 102, 114, 101, 101]⟩) := by rw [← hs1]; exact HX1.out
      have HK1w := Hid.mk' (HK1.out.trans HK.out)
      have HC2 : Hid (∀ (W : World), Keeps (fun _ => False) wr W → ∀ (j : Nat) (u : Value), (tcell t (.slice pn t.nd.length cn) (.slice pf t.fr.length cf))[j]? = some u → W.cell? ⟨w.heap.size, j, none⟩ = some u) := fun W k => HC1.out W (HK.out.trans k)
      clear hs1 HX HX1 f3 HC1
      go_loopw [3, 5] (fun s i wq => ∃ (k : Nat) (x : ByteArray), k ≤ t.fr.length ∧ i = .int .i64 k ∧ s = .string x ∧ x.size ≤ 1400000000 ∧ Hid (x = s1 ++ cat ((t.fr.map spB).take k)) ∧ Hid (Keeps (fun _ => False) wr wq)) (fun _ i _ => t.fr.length - (intOf i).toNat)
      case atStart => exact ⟨0, _, Nat.zero_le _, rfl, rfl, by omega, bytes_ext (by simp [cat]), Keeps.refl _ _⟩
      case round =>

        obtain ⟨k, x, hk, rfl, rfl, hx, HX, HKq⟩ := hrel
        have f4 : wr.cell? ⟨w.heap.size, 5, none⟩ = some (.slice pf t.fr.length cf) := HC2.out wr HKq.out 5 _ rfl
        by_cases h1 : k < t.fr.length
        · have h1' : (k : Int) < (t.fr.length : Int) := by omega
          obtain ⟨⟨f1, f2⟩, hd⟩ : ∃ n, t.fr[k]? = some n := ⟨t.fr[k], by simp [h1]⟩
          obtain ⟨b, o, c', e, _, hcell⟩ := ((HR.out.keep HK1w.out).keep HKq.out).fr.gets s2cell 2 (fun _ => rfl) hd
          injection e with e1 _ e3
          subst e1 e3
          obtain ⟨hf1, hf2⟩ := hi.fr _ (List.mem_of_getElem? hd)
          dsimp only at hf1 hf2
          have q0 := hcell 0 (.int .i64 f1) rfl
          have q1 := hcell 1 (.int .i64 f2) rfl
          rw [Nat.add_zero] at q0
          have y1 := iB_size hf1
          have y2 := iB_size hf2
          have HKQ := Hid.mk' (HK1w.out.trans HKq.out)
          have HX2 : Hid (x ++ (((((⟨#[32]⟩ : ByteArray) ++ (iB f1)) ++ (⟨#[43]⟩ : ByteArray)) ++ (iB f2))) = s1 ++ cat ((t.fr.map spB).take (k + 1))) := by
            have h := HX.out
            show x ++ spB (f1, f2) = _
            rw [← List.map_take, cat_take spB hd, h, List.map_take]
            exact ByteArray.append_assoc
          have HS2 : Hid ((x ++ (((((⟨#[32]⟩ : ByteArray) ++ (iB f1)) ++ (⟨#[43]⟩ : ByteArray)) ++ (iB f2)))).size ≤ 1400000000) := by
            show _ ≤ _
            rw [HX2.out, ByteArray.size_append, ← List.map_take]
            have h2 := cat_le spB 80 (t.fr.take (k + 1)) (fun a ha => spB_size (hi.fr a (List.mem_of_mem_take ha)))
            have h3 : (t.fr.take (k + 1)).length ≤ 1100000 := by simp; omega
            omega
          clear hcell hd
          go_upto_region 10 with (fail)
          have HKK0 := Hid.mk' (Keeps.drewN (fun _ => False) wr 1)
          refine wp_region_held_drew (S := fun wx => wx.cell? ⟨w.heap.size, 5, none⟩ = some (.slice (some ⟨b, o, none⟩) t.fr.length cf) ∧ wx.cell? ⟨b, o + k * 2, none⟩ = some (.int .i64 f1) ∧ wx.cell? ⟨b, o + k * 2 + 1, none⟩ = some (.int .i64 f2)) (by kernel_rfl) ⟨f4, q0, q1⟩ (fun hS => ?_)
          refine takeH 0 (some 44) (.string x) rfl rfl (by kernel_rfl) (by kernel_rfl) (by kernel_rfl) (fun _ _ _ h => h) (Or.inl ⟨by rfl, fun wx _ => by go_simp⟩) hS ?_
          try simp only [Act.put, List.setIfInBounds_toArray, List.set_cons_zero, List.set_cons_succ]
          refine takeH 1 (some 45) (.pointer (some ⟨w.heap.size, 5, none⟩)) rfl rfl (by kernel_rfl) (by kernel_rfl) (by kernel_rfl) (fun _ _ _ h => h) (Or.inl ⟨by rfl, fun wx _ => by go_simp⟩) hS ?_
          try simp only [Act.put, List.setIfInBounds_toArray, List.set_cons_zero, List.set_cons_succ]
          refine takeH 2 (some 46) (.slice (some ⟨b, o, none⟩) t.fr.length cf) rfl rfl (by kernel_rfl) (by kernel_rfl) (by kernel_rfl) (fun _ _ _ h => h) (Or.inl ⟨by rfl, fun wx ⟨s0, _, _⟩ => by go_simp⟩) hS ?_
          try simp only [Act.put, List.setIfInBounds_toArray, List.set_cons_zero, List.set_cons_succ]
          refine takeH 3 (some 47) (.int .i64 (k : Int)) rfl rfl (by kernel_rfl) (by kernel_rfl) (by kernel_rfl) (fun _ _ _ h => h) (Or.inl ⟨by rfl, fun wx _ => by go_simp⟩) hS ?_
          try simp only [Act.put, List.setIfInBounds_toArray, List.set_cons_zero, List.set_cons_succ]
          refine takeH 4 (some 48) (.pointer (some ⟨b, o + k * 2, none⟩)) rfl rfl (by kernel_rfl) (by kernel_rfl) (by kernel_rfl) (fun _ _ _ h => h) (Or.inl ⟨by rfl, fun wx _ => by go_simp⟩) hS ?_
          try simp only [Act.put, List.setIfInBounds_toArray, List.set_cons_zero, List.set_cons_succ]
          refine takeH 5 (some 49) (.pointer (some ⟨b, o + k * 2, none⟩)) rfl rfl (by kernel_rfl) (by kernel_rfl) (by kernel_rfl) (fun _ _ _ h => h) (Or.inl ⟨by rfl, fun wx _ => by go_simp⟩) hS ?_
          try simp only [Act.put, List.setIfInBounds_toArray, List.set_cons_zero, List.set_cons_succ]
          refine takeH 6 (some 50) (.int .i64 f1) rfl rfl (by kernel_rfl) (by kernel_rfl) (by kernel_rfl) (fun _ _ _ h => h) (Or.inl ⟨by rfl, fun wx ⟨_, s0, _⟩ => by go_simp⟩) hS ?_
          try simp only [Act.put, List.setIfInBounds_toArray, List.set_cons_zero, List.set_cons_succ]
          refine takeH 10 (some 54) (.pointer (some ⟨w.heap.size, 5, none⟩)) rfl rfl (by kernel_rfl) (by kernel_rfl) (by kernel_rfl) (fun _ _ _ h => h) (Or.inl ⟨by rfl, fun wx _ => by go_simp⟩) hS ?_
          try simp only [Act.put, List.setIfInBounds_toArray, List.set_cons_zero, List.set_cons_succ]
          refine takeH 11 (some 55) (.slice (some ⟨b, o, none⟩) t.fr.length cf) rfl rfl (by kernel_rfl) (by kernel_rfl) (by kernel_rfl) (fun _ _ _ h => h) (Or.inl ⟨by rfl, fun wx ⟨s0, _, _⟩ => by go_simp⟩) hS ?_
          try simp only [Act.put, List.setIfInBounds_toArray, List.set_cons_zero, List.set_cons_succ]
          refine takeH 12 (some 56) (.int .i64 (k : Int)) rfl rfl (by kernel_rfl) (by kernel_rfl) (by kernel_rfl) (fun _ _ _ h => h) (Or.inl ⟨by rfl, fun wx _ => by go_simp⟩) hS ?_
          try simp only [Act.put, List.setIfInBounds_toArray, List.set_cons_zero, List.set_cons_succ]
          refine takeH 13 (some 57) (.pointer (some ⟨b, o + k * 2, none⟩)) rfl rfl (by kernel_rfl) (by kernel_rfl) (by kernel_rfl) (fun _ _ _ h => h) (Or.inl ⟨by rfl, fun wx _ => by go_simp⟩) hS ?_
          try simp only [Act.put, List.setIfInBounds_toArray, List.set_cons_zero, List.set_cons_succ]
          refine takeH 14 (some 58) (.pointer (some ⟨b, o + k * 2 + 1, none⟩)) rfl rfl (by kernel_rfl) (by kernel_rfl) (by kernel_rfl) (fun _ _ _ h => h) (Or.inl ⟨by rfl, fun wx _ => by go_simp⟩) hS ?_
          try simp only [Act.put, List.setIfInBounds_toArray, List.set_cons_zero, List.set_cons_succ]
          refine takeH 15 (some 59) (.int .i64 f2) rfl rfl (by kernel_rfl) (by kernel_rfl) (by kernel_rfl) (fun _ _ _ h => h) (Or.inl ⟨by rfl, fun wx ⟨_, _, s0⟩ => by go_simp⟩) hS ?_
          try simp only [Act.put, List.setIfInBounds_toArray, List.set_cons_zero, List.set_cons_succ]
          refine wpAnyH_ready (rs := [7]) (by kernel_rfl) (by simp) (AllReadyH.cons rfl (fun K hK => ?_) AllReadyH.nil)
          go_simp
          go_at_call 8
          refine (itoa_any _ (HT.out.keep (HKQ.out.trans HKK0.out)) f1 hf1).mono ?_
          rintro e wk0 ⟨rfl, hk8⟩
          have HKK1 := Hid.mk' (HKK0.out.trans hk8)
          refine hK.out _ _ (⟨hk8.cell hS.1 id, hk8.cell hS.2.1 id, hk8.cell hS.2.2 id⟩) (fun hS => ?_)
          clear hK hk8
          try simp only [Act.put, List.setIfInBounds_toArray, List.set_cons_zero, List.set_cons_succ]
          refine takeH 8 (some 52) (.string ((⟨#[32]⟩ : ByteArray) ++ (iB f1))) rfl rfl (by kernel_rfl) (by kernel_rfl) (by kernel_rfl) (fun _ _ _ h => h) (Or.inl ⟨by rfl, fun wx _ => by go_simp <;> omega⟩) hS ?_
          try simp only [Act.put, List.setIfInBounds_toArray, List.set_cons_zero, List.set_cons_succ]
          refine takeH 9 (some 53) (.string (((⟨#[32]⟩ : ByteArray) ++ (iB f1)) ++ (⟨#[43]⟩ : ByteArray))) rfl rfl (by kernel_rfl) (by kernel_rfl) (by kernel_rfl) (fun _ _ _ h => h) (Or.inl ⟨by rfl, fun wx _ => by go_simp <;> omega⟩) hS ?_
          try simp only [Act.put, List.setIfInBounds_toArray, List.set_cons_zero, List.set_cons_succ]
          refine wpAnyH_ready (rs := [16]) (by kernel_rfl) (by simp) (AllReadyH.cons rfl (fun K hK => ?_) AllReadyH.nil)
          go_simp
          go_at_call 8
          refine (itoa_any _ (HT.out.keep (HKQ.out.trans HKK1.out)) f2 hf2).mono ?_
          rintro e wk1 ⟨rfl, hk8⟩
          have HKK2 := Hid.mk' (HKK1.out.trans hk8)
          refine hK.out _ _ (⟨hk8.cell hS.1 id, hk8.cell hS.2.1 id, hk8.cell hS.2.2 id⟩) (fun hS => ?_)
          clear hK hk8
          try simp only [Act.put, List.setIfInBounds_toArray, List.set_cons_zero, List.set_cons_succ]
          refine takeH 17 (some 61) (.string ((((⟨#[32]⟩ : ByteArray) ++ (iB f1)) ++ (⟨#[43]⟩ : ByteArray)) ++ (iB f2))) rfl rfl (by kernel_rfl) (by kernel_rfl) (by kernel_rfl) (fun _ _ _ h => h) (Or.inl ⟨by rfl, fun wx _ => by go_simp <;> omega⟩) hS ?_
          try simp only [Act.put, List.setIfInBounds_toArray, List.set_cons_zero, List.set_cons_succ]
          refine takeH 18 (some 62) (.string (x ++ ((((⟨#[32]⟩ : ByteArray) ++ (iB f1)) ++ (⟨#[43]⟩ : ByteArray)) ++ (iB f2)))) rfl rfl (by kernel_rfl) (by kernel_rfl) (by kernel_rfl) (fun _ _ _ h => h) (Or.inl ⟨by rfl, fun wx _ => by go_simp <;> omega⟩) hS ?_
          try simp only [Act.put, List.setIfInBounds_toArray, List.set_cons_zero, List.set_cons_succ]
          refine takeH 19 (some 3) (.string (x ++ ((((⟨#[32]⟩ : ByteArray) ++ (iB f1)) ++ (⟨#[43]⟩ : ByteArray)) ++ (iB f2)))) rfl rfl (by kernel_rfl) (by kernel_rfl) (by kernel_rfl) (fun _ _ _ h => h) (Or.inl ⟨by rfl, fun wx _ => by go_simp⟩) hS ?_
          try simp only [Act.put]
          refine wpAnyH_done (by kernel_rfl) ?_ _
          clear hS
          go_wp2
          go_roundw
          case rel => first
            | exact ⟨k + 1, by omega, by omega, by have h := HS2.out; have l1 : (⟨#[32]⟩ : ByteArray).size = 1 := rfl; have l2 : (⟨#[43]⟩ : ByteArray).size = 1 := rfl; simp only [ByteArray.size_append, l1, l2] at h; omega, HX2.out, HKq.out.trans HKK2.out⟩
            | exact ⟨k + 1, _, by omega, by go_num, rfl, HS2.out, HX2.out, HKq.out.trans HKK2.out⟩
          case measure => simp [intOf]; omega
        · have h1' : ¬ (k : Int) < (t.fr.length : Int) := by omega
          have HE : Hid (x = staB t) := by
            have h := HX.out
            rw [List.take_of_length_le (by simp; omega), HS1.out, ← HS0.out] at h
            exact h
          go_wp2
          go_ret
          exact ⟨by rw [HE.out]; first | done | rfl, HK1w.out.trans HKq.out⟩
end Go.Proofs.YtpgabmfpffaajaaDoor
