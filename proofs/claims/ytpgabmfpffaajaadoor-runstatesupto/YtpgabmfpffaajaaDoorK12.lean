import Derived.Test.YtpgabmfpffaajaaDoorK11
namespace Go.Proofs.YtpgabmfpffaajaaDoor
open Go.RowKit Go.Maps
set_option maxRecDepth 100000

/-! A node's line, as the document has it. -/
structure Nd where
  ino : Int
  kind : Int
  links : Int
  size : Int
  mp : List (Int × Int × Int)
  nm : List (ByteArray × Int)
  head : Int
  tail : Int
  lg : List Int
  ents : Int
def ncell (d : Nd) (vm vn vl : Value) : Array Value := #[.int .i64 d.ino, .int .i64 d.kind, .int .i64 d.links, .int .i64 d.size, vm, vn, .int .i64 d.head, .int .i64 d.tail, vl, .int .i64 d.ents]
def r3cell (r : Int × Int × Int) : List Value := [.int .i64 r.1, .int .i64 r.2.1, .int .i64 r.2.2]
/-- What is known of a node. -/
structure NdIn (d : Nd) : Prop where
  ino : In64 d.ino
  links : In64 d.links
  size : In64 d.size
  head : In64 d.head
  tail : In64 d.tail
  ents : In64 d.ents
  mp : ∀ r ∈ d.mp, In64 r.1 ∧ In64 r.2.1 ∧ In64 r.2.2
  nm : ∀ x ∈ d.nm, In64 x.2
  lg : ∀ n ∈ d.lg, In64 n
  wt : d.mp.length + dwt d.nm + d.lg.length ≤ 1200000
structure NdAt (W : World) (d : Nd) (vm vn vl : Value) : Prop where
  mp : Row W vm d.mp.length (d.mp.flatMap r3cell)
  nm : Row W vn d.nm.length (d.nm.flatMap dcell)
  lg : Row W vl d.lg.length (ints d.lg)
theorem NdAt.keep {A B : World} {d : Nd} {vm vn vl : Value} (h : NdAt A d vm vn vl) (k : Keeps (fun _ => False) A B) : NdAt B d vm vn vl := ⟨h.mp.keep k, h.nm.keep k, h.lg.keep k⟩
theorem dwt_len (l : List (ByteArray × Int)) : l.length ≤ dwt l := by
  induction l with
  | nil => exact Nat.zero_le _
  | cons x l ih =>
    have e : dwt (x :: l) = (x.1.size + 1) + dwt l := by simp [dwt]
    rw [e, List.length_cons]; omega
def rnz : Array Value := #[.int .i64 0, .int .i64 0, .int .i64 0]
theorem size_rn : (Tryd.prog.info? 45).map (·.size) = some 3 := by kernel_rfl
theorem wpList_alloc_rn {ops : Array Oper} {rest : List Oper} {o : Oper} {a : Act} {w : World} {Q : Exit → Act → World → Prop} (hg : o.guard = none) (ho : o.op = .alloc 45)
    (h : wpList Tryd.prog ops Q rest (a.put o.dst (.pointer (some ⟨w.heap.size, 0, none⟩))) (w.alloc (.cells rnz 45))) : wpList Tryd.prog ops Q (o :: rest) a w := by
  refine wpList_plain hg fun K hK => ?_
  have hz := (zero_of_info (P := Tryd.prog) (t := 45) (v := .agg rnz) (n := 3) (by kernel_rfl)).1
  unfold Oper.wp execOp
  simp [ho, Instr.alloc, hz, newVar, newRow, Value.cells, Result.andThen]
  exact hK _ _ h
theorem wpList_store_rn {ops : Array Oper} {rest : List Oper} {o : Oper} {a : Act} {W : World} {Q : Exit → Act → World → Prop} (hgd : o.guard = none) (x y : Operand) (ho : o.op = .store 45 x y) (cs : Array Value) (hs : cs.size = 3) (h1 : cs.all (·.oneCell') = true) (hx : a.eval x = .pointer (some ⟨W.heap.size, 0, none⟩)) (hy : a.eval y = .agg cs)
    (h : wpList Tryd.prog ops Q rest (a.put o.dst undef) (W.alloc (.cells cs 45))) : wpList Tryd.prog ops Q (o :: rest) a (W.alloc (.cells rnz 45)) := by
  refine wpList_store_row hgd 45 x y ho W.heap.size cs hx hy 45 rnz (heap_last W _) (by rw [hs]; exact size_rn) (by rw [hs]; rfl) h1 ?_
  rw [World.setRow_alloc_new]; exact h
def rnB (r : Int × Int × Int) : ByteArray := ((((((⟨#[32]⟩ : ByteArray) ++ (iB r.1)) ++ (⟨#[58]⟩ : ByteArray)) ++ (iB r.2.1)) ++ (⟨#[43]⟩ : ByteArray)) ++ (iB r.2.2))
theorem rnB_size {r : Int × Int × Int} (h : In64 r.1 ∧ In64 r.2.1 ∧ In64 r.2.2) : (rnB r).size ≤ 100 := by
  unfold rnB
  simp only [ByteArray.size_append]
  have := iB_size h.1
  have := iB_size h.2.1
  have := iB_size h.2.2
  have : (⟨#[32]⟩ : ByteArray).size = 1 := rfl
  have : (⟨#[58]⟩ : ByteArray).size = 1 := rfl
  have : (⟨#[43]⟩ : ByteArray).size = 1 := rfl
  omega
def n1B (d : Nd) : ByteArray := ((((((((⟨#[32, 32, 105, 110, 111, 100, 101, 32]⟩ : ByteArray) ++ (iB d.ino)) ++ (⟨#[32]⟩ : ByteArray)) ++ (kB d.kind)) ++ (⟨#[32]⟩ : ByteArray)) ++ (iB d.links)) ++ (⟨#[32, 115, 105, 122, 101, 32]⟩ : ByteArray)) ++ (iB d.size))
def n2B (d : Nd) : ByteArray := (n1B d ++ ((((((⟨#[32, 104, 101, 97, 100, 32]⟩ : ByteArray) ++ (iB d.head)) ++ (⟨#[32, 116, 97, 105, 108, 32]⟩ : ByteArray)) ++ (iB d.tail)) ++ (⟨#[32, 101, 110, 116, 114, 105, 101, 115, 32]⟩ : ByteArray)) ++ (iB d.ents)))
def n3B (d : Nd) : ByteArray := if 0 < d.lg.length then n2B d ++ ((⟨#[32, 108, 111, 103]⟩ : ByteArray) ++ numB d.lg) else n2B d
def nodB (d : Nd) : ByteArray := if d.kind = 1 ∧ 0 < d.mp.length then n3B d ++ ⟨#[32, 109, 97, 112]⟩ ++ cat (d.mp.map rnB) else if d.kind = 2 ∧ 0 < d.nm.length then n3B d ++ ((⟨#[32, 110, 97, 109, 101, 115]⟩ : ByteArray) ++ dtsB d.nm) else n3B d
theorem numB_size {l : List Int} (h : ∀ n ∈ l, In64 n) : (numB l).size ≤ l.length * 40 := cat_le nmB 40 l (fun a ha => nmB_size (h a ha))
theorem n2B_size {d : Nd} (h : NdIn d) : (n1B d).size ≤ 400 ∧ (n2B d).size ≤ 800 := by
  have z1 := iB_size h.ino
  have z2 := iB_size h.links
  have z3 := iB_size h.size
  have z4 := iB_size h.head
  have z5 := iB_size h.tail
  have z6 := iB_size h.ents
  have z7 := kB_size d.kind
  have e1 : (⟨#[32]⟩ : ByteArray).size = 1 := rfl
  have e2 : (⟨#[32, 32, 105, 110, 111, 100, 101, 32]⟩ : ByteArray).size = 8 := rfl
  have e3 : (⟨#[32, 115, 105, 122, 101, 32]⟩ : ByteArray).size = 6 := rfl
  have e4 : (⟨#[32, 104, 101, 97, 100, 32]⟩ : ByteArray).size = 6 := rfl
  have e5 : (⟨#[32, 116, 97, 105, 108, 32]⟩ : ByteArray).size = 6 := rfl
  have e6 : (⟨#[32, 101, 110, 116, 114, 105, 101, 115, 32]⟩ : ByteArray).size = 9 := rfl
  unfold n2B n1B
  simp only [ByteArray.size_append]
  omega
theorem n3B_size {d : Nd} (h : NdIn d) : (n3B d).size ≤ 60000000 := by
  have h1 := (n2B_size h).2
  have h2 := numB_size h.lg
  have h3 := h.wt
  have e : (⟨#[32, 108, 111, 103]⟩ : ByteArray).size = 4 := rfl
  unfold n3B
  split
  · simp only [ByteArray.size_append]; omega
  · omega
set_option maxHeartbeats 16000000 in
theorem node_any (w : World) (hv : Tab w) (d : Nd) (vm vn vl : Value) (hr : NdAt w d vm vn vl) (hi : NdIn d) :
    Calls Tryd.prog 7 #[.agg (ncell d vm vn vl)] w fun e w' => e = .returned (.string (nodB d)) ∧ Keeps (fun _ => False) w w' := by
  obtain ⟨pm, cm, rfl, hcm, _⟩ := id hr.mp
  obtain ⟨pn, cn, rfl, hcn, _⟩ := id hr.nm
  obtain ⟨pl, cl, rfl, hcl, _⟩ := id hr.lg
  have HR := Hid.mk' hr
  have HT := Hid.mk' hv
  have HI := Hid.mk' hi
  obtain ⟨W0, hW0, HK0, HB0⟩ : ∃ W0, w.alloc (.cells (ncell d (.slice pm d.mp.length cm) (.slice pn d.nm.length cn) (.slice pl d.lg.length cl)) 36) = W0 ∧ Hid (Keeps (fun _ => False) w W0) ∧ Hid (W0.heap[w.heap.size]? = some (.cells (ncell d (.slice pm d.mp.length cm) (.slice pn d.nm.length cn) (.slice pl d.lg.length cl)) 36)) := ⟨_, rfl, (Keeps.refl _ w).alloc _, heap_last w _⟩
  have HC : Hid (∀ (W : World), Keeps (fun _ => False) W0 W → ∀ (j : Nat) (u : Value), (ncell d (.slice pm d.mp.length cm) (.slice pn d.nm.length cn) (.slice pl d.lg.length cl))[j]? = some u → W.cell? ⟨w.heap.size, j, none⟩ = some u) := by
    intro W k j u hj
    simp only [World.cell?, k.at HB0.out id]
    exact hj
  clear hr hv
  have z1 := iB_size hi.ino
  have z2 := iB_size hi.links
  have z3 := iB_size hi.size
  have z4 := iB_size hi.head
  have z5 := iB_size hi.tail
  have z6 := iB_size hi.ents
  have z7 := kB_size d.kind
  have c0 := HC.out W0 (Keeps.refl _ _) 0 _ rfl
  have c1 := HC.out W0 (Keeps.refl _ _) 1 _ rfl
  have c2 := HC.out W0 (Keeps.refl _ _) 2 _ rfl
  have c3 := HC.out W0 (Keeps.refl _ _) 3 _ rfl
  go_enter Tryd.func7, Tryd.ntmps7
  go_upto_region 1 with (fail)
  try rw [hW0]
  clear hW0
  have HKK0 := Hid.mk' (Keeps.drewN (fun _ => False) W0 1)
  refine wp_region_held_drew (S := fun wx => wx.cell? ⟨w.heap.size, 0, none⟩ = some (.int .i64 d.ino) ∧ wx.cell? ⟨w.heap.size, 1, none⟩ = some (.int .i64 d.kind) ∧ wx.cell? ⟨w.heap.size, 2, none⟩ = some (.int .i64 d.links) ∧ wx.cell? ⟨w.heap.size, 3, none⟩ = some (.int .i64 d.size)) (by kernel_rfl) ⟨c0, c1, c2, c3⟩ (fun hS => ?_)
  refine takeH 0 (some 6) (.pointer (some ⟨w.heap.size, 0, none⟩)) rfl rfl (by kernel_rfl) (by kernel_rfl) (by kernel_rfl) (fun _ _ _ h => h) (Or.inl ⟨by rfl, fun wx _ => by go_simp⟩) hS ?_
  try simp only [Act.put, List.setIfInBounds_toArray, List.set_cons_zero, List.set_cons_succ]
  refine takeH 1 (some 7) (.int .i64 d.ino) rfl rfl (by kernel_rfl) (by kernel_rfl) (by kernel_rfl) (fun _ _ _ h => h) (Or.inl ⟨by rfl, fun wx ⟨s0, _, _, _⟩ => by go_simp⟩) hS ?_
  try simp only [Act.put, List.setIfInBounds_toArray, List.set_cons_zero, List.set_cons_succ]
  refine takeH 5 (some 11) (.pointer (some ⟨w.heap.size, 1, none⟩)) rfl rfl (by kernel_rfl) (by kernel_rfl) (by kernel_rfl) (fun _ _ _ h => h) (Or.inl ⟨by rfl, fun wx _ => by go_simp⟩) hS ?_
  try simp only [Act.put, List.setIfInBounds_toArray, List.set_cons_zero, List.set_cons_succ]
  refine takeH 6 (some 12) (.int .i64 d.kind) rfl rfl (by kernel_rfl) (by kernel_rfl) (by kernel_rfl) (fun _ _ _ h => h) (Or.inl ⟨by rfl, fun wx ⟨_, s0, _, _⟩ => by go_simp⟩) hS ?_
  try simp only [Act.put, List.setIfInBounds_toArray, List.set_cons_zero, List.set_cons_succ]
  refine takeH 10 (some 16) (.pointer (some ⟨w.heap.size, 2, none⟩)) rfl rfl (by kernel_rfl) (by kernel_rfl) (by kernel_rfl) (fun _ _ _ h => h) (Or.inl ⟨by rfl, fun wx _ => by go_simp⟩) hS ?_
  try simp only [Act.put, List.setIfInBounds_toArray, List.set_cons_zero, List.set_cons_succ]
  refine takeH 11 (some 17) (.int .i64 d.links) rfl rfl (by kernel_rfl) (by kernel_rfl) (by kernel_rfl) (fun _ _ _ h => h) (Or.inl ⟨by rfl, fun wx ⟨_, _, s0, _⟩ => by go_simp⟩) hS ?_
  try simp only [Act.put, List.setIfInBounds_toArray, List.set_cons_zero, List.set_cons_succ]
  refine takeH 15 (some 21) (.pointer (some ⟨w.heap.size, 3, none⟩)) rfl rfl (by kernel_rfl) (by kernel_rfl) (by kernel_rfl) (fun _ _ _ h => h) (Or.inl ⟨by rfl, fun wx _ => by go_simp⟩) hS ?_
  try simp only [Act.put, List.setIfInBounds_toArray, List.set_cons_zero, List.set_cons_succ]
  refine takeH 16 (some 22) (.int .i64 d.size) rfl rfl (by kernel_rfl) (by kernel_rfl) (by kernel_rfl) (fun _ _ _ h => h) (Or.inl ⟨by rfl, fun wx ⟨_, _, _, s0⟩ => by go_simp⟩) hS ?_
  try simp only [Act.put, List.setIfInBounds_toArray, List.set_cons_zero, List.set_cons_succ]
  refine wpAnyH_ready (rs := [2]) (by kernel_rfl) (by simp) (AllReadyH.cons rfl (fun K hK => ?_) AllReadyH.nil)
  go_simp
  go_at_call 8
  refine (itoa_any _ (HT.out.keep (HK0.out.trans HKK0.out)) d.ino HI.out.ino).mono ?_
  rintro e wk0 ⟨rfl, hk8⟩
  have HKK1 := Hid.mk' (HKK0.out.trans hk8)
  refine hK.out _ _ (⟨hk8.cell hS.1 id, hk8.cell hS.2.1 id, hk8.cell hS.2.2.1 id, hk8.cell hS.2.2.2 id⟩) (fun hS => ?_)
  clear hK hk8
  try simp only [Act.put, List.setIfInBounds_toArray, List.set_cons_zero, List.set_cons_succ]
  refine takeH 3 (some 9) (.string ((⟨#[32, 32, 105, 110, 111, 100, 101, 32]⟩ : ByteArray) ++ (iB d.ino))) rfl rfl (by kernel_rfl) (by kernel_rfl) (by kernel_rfl) (fun _ _ _ h => h) (Or.inl ⟨by rfl, fun wx _ => by go_simp <;> omega⟩) hS ?_
  try simp only [Act.put, List.setIfInBounds_toArray, List.set_cons_zero, List.set_cons_succ]
  refine takeH 4 (some 10) (.string (((⟨#[32, 32, 105, 110, 111, 100, 101, 32]⟩ : ByteArray) ++ (iB d.ino)) ++ (⟨#[32]⟩ : ByteArray))) rfl rfl (by kernel_rfl) (by kernel_rfl) (by kernel_rfl) (fun _ _ _ h => h) (Or.inl ⟨by rfl, fun wx _ => by go_simp <;> omega⟩) hS ?_
  try simp only [Act.put, List.setIfInBounds_toArray, List.set_cons_zero, List.set_cons_succ]
  refine wpAnyH_ready (rs := [7]) (by kernel_rfl) (by simp) (AllReadyH.cons rfl (fun K hK => ?_) AllReadyH.nil)
  go_simp
  go_at_call 14
  refine (rkind_any _ d.kind).mono ?_
  rintro e wk1 ⟨rfl, hk8⟩
  have HKK2 := Hid.mk' (HKK1.out.trans hk8)
  refine hK.out _ _ (⟨hk8.cell hS.1 id, hk8.cell hS.2.1 id, hk8.cell hS.2.2.1 id, hk8.cell hS.2.2.2 id⟩) (fun hS => ?_)
  clear hK hk8
  try simp only [Act.put, List.setIfInBounds_toArray, List.set_cons_zero, List.set_cons_succ]
  refine takeH 8 (some 14) (.string ((((⟨#[32, 32, 105, 110, 111, 100, 101, 32]⟩ : ByteArray) ++ (iB d.ino)) ++ (⟨#[32]⟩ : ByteArray)) ++ (kB d.kind))) rfl rfl (by kernel_rfl) (by kernel_rfl) (by kernel_rfl) (fun _ _ _ h => h) (Or.inl ⟨by rfl, fun wx _ => by go_simp <;> omega⟩) hS ?_
  try simp only [Act.put, List.setIfInBounds_toArray, List.set_cons_zero, List.set_cons_succ]
  refine takeH 9 (some 15) (.string (((((⟨#[32, 32, 105, 110, 111, 100, 101, 32]⟩ : ByteArray) ++ (iB d.ino)) ++ (⟨#[32]⟩ : ByteArray)) ++ (kB d.kind)) ++ (⟨#[32]⟩ : ByteArray))) rfl rfl (by kernel_rfl) (by kernel_rfl) (by kernel_rfl) (fun _ _ _ h => h) (Or.inl ⟨by rfl, fun wx _ => by go_simp <;> omega⟩) hS ?_
  try simp only [Act.put, List.setIfInBounds_toArray, List.set_cons_zero, List.set_cons_succ]
  refine wpAnyH_ready (rs := [12]) (by kernel_rfl) (by simp) (AllReadyH.cons rfl (fun K hK => ?_) AllReadyH.nil)
  go_simp
  go_at_call 8
  refine (itoa_any _ (HT.out.keep (HK0.out.trans HKK2.out)) d.links HI.out.links).mono ?_
  rintro e wk2 ⟨rfl, hk8⟩
  have HKK3 := Hid.mk' (HKK2.out.trans hk8)
  refine hK.out _ _ (⟨hk8.cell hS.1 id, hk8.cell hS.2.1 id, hk8.cell hS.2.2.1 id, hk8.cell hS.2.2.2 id⟩) (fun hS => ?_)
  clear hK hk8
  try simp only [Act.put, List.setIfInBounds_toArray, List.set_cons_zero, List.set_cons_succ]
  refine takeH 13 (some 19) (.string ((((((⟨#[32, 32, 105, 110, 111, 100, 101, 32]⟩ : ByteArray) ++ (iB d.ino)) ++ (⟨#[32]⟩ : ByteArray)) ++ (kB d.kind)) ++ (⟨#[32]⟩ : ByteArray)) ++ (iB d.links))) rfl rfl (by kernel_rfl) (by kernel_rfl) (by kernel_rfl) (fun _ _ _ h => h) (Or.inl ⟨by rfl, fun wx _ => by go_simp <;> omega⟩) hS ?_
  try simp only [Act.put, List.setIfInBounds_toArray, List.set_cons_zero, List.set_cons_succ]
  refine takeH 14 (some 20) (.string (((((((⟨#[32, 32, 105, 110, 111, 100, 101, 32]⟩ : ByteArray) ++ (iB d.ino)) ++ (⟨#[32]⟩ : ByteArray)) ++ (kB d.kind)) ++ (⟨#[32]⟩ : ByteArray)) ++ (iB d.links)) ++ (⟨#[32, 115, 105, 122, 101, 32]⟩ : ByteArray))) rfl rfl (by kernel_rfl) (by kernel_rfl) (by kernel_rfl) (fun _ _ _ h => h) (Or.inl ⟨by rfl, fun wx _ => by go_simp <;> omega⟩) hS ?_
  try simp only [Act.put, List.setIfInBounds_toArray, List.set_cons_zero, List.set_cons_succ]
  refine wpAnyH_ready (rs := [17]) (by kernel_rfl) (by simp) (AllReadyH.cons rfl (fun K hK => ?_) AllReadyH.nil)
  go_simp
  go_at_call 8
  refine (itoa_any _ (HT.out.keep (HK0.out.trans HKK3.out)) d.size HI.out.size).mono ?_
  rintro e wk3 ⟨rfl, hk8⟩
  have HKK4 := Hid.mk' (HKK3.out.trans hk8)
  refine hK.out _ _ (⟨hk8.cell hS.1 id, hk8.cell hS.2.1 id, hk8.cell hS.2.2.1 id, hk8.cell hS.2.2.2 id⟩) (fun hS => ?_)
  clear hK hk8
  try simp only [Act.put, List.setIfInBounds_toArray, List.set_cons_zero, List.set_cons_succ]
  refine takeH 18 (some 24) (.string ((((((((⟨#[32, 32, 105, 110, 111, 100, 101, 32]⟩ : ByteArray) ++ (iB d.ino)) ++ (⟨#[32]⟩ : ByteArray)) ++ (kB d.kind)) ++ (⟨#[32]⟩ : ByteArray)) ++ (iB d.links)) ++ (⟨#[32, 115, 105, 122, 101, 32]⟩ : ByteArray)) ++ (iB d.size))) rfl rfl (by kernel_rfl) (by kernel_rfl) (by kernel_rfl) (fun _ _ _ h => h) (Or.inl ⟨by rfl, fun wx _ => by go_simp <;> omega⟩) hS ?_
  try simp only [Act.put, List.setIfInBounds_toArray, List.set_cons_zero, List.set_cons_succ]
  refine takeH 19 (some 3) (.string ((((((((⟨#[32, 32, 105, 110, 111, 100, 101, 32]⟩ : ByteArray) ++ (iB d.ino)) ++ (⟨#[32]⟩ : ByteArray)) ++ (kB d.kind)) ++ (⟨#[32]⟩ : ByteArray)) ++ (iB d.links)) ++ (⟨#[32, 115, 105, 122, 101, 32]⟩ : ByteArray)) ++ (iB d.size))) rfl rfl (by kernel_rfl) (by kernel_rfl) (by kernel_rfl) (fun _ _ _ h => h) (Or.inl ⟨by rfl, fun wx _ => by go_simp⟩) hS ?_
  try simp only [Act.put]
  refine wpAnyH_done (by kernel_rfl) ?_ _
  clear hS
  have HK1 := Hid.mk' (HK0.out.trans HKK4.out)
  have k01 := HKK4.out
  obtain ⟨s1, hs1⟩ : ∃ s1, ((((((((⟨#[32, 32, 105, 110, 111, 100, 101, 32]⟩ : ByteArray) ++ (iB d.ino)) ++ (⟨#[32]⟩ : ByteArray)) ++ (kB d.kind)) ++ (⟨#[32]⟩ : ByteArray)) ++ (iB d.links)) ++ (⟨#[32, 115, 105, 122, 101, 32]⟩ : ByteArray)) ++ (iB d.size)) = s1 := ⟨_, rfl⟩
  have HE1 : Hid (n1B d = s1) := hs1
  have z0 : s1.size ≤ 400 := by rw [← HE1.out]; exact (n2B_size hi).1
  rw [hs1]
  clear hs1 c0 c1 c2 c3
  have c6 := HC.out _ k01 6 _ rfl
  have c7 := HC.out _ k01 7 _ rfl
  have c9 := HC.out _ k01 9 _ rfl
  have HC1 : Hid (∀ (W : World), Keeps (fun _ => False) wk3 W → ∀ (j : Nat) (u : Value), (ncell d (.slice pm d.mp.length cm) (.slice pn d.nm.length cn) (.slice pl d.lg.length cl))[j]? = some u → W.cell? ⟨w.heap.size, j, none⟩ = some u) := fun W k => HC.out W (k01.trans k)
  clear k01 HKK0 HKK1 HKK2 HKK3 HKK4 HC
  rename World => W1
  go_upto_region 2 with (fail)
  have HKK0 := Hid.mk' (Keeps.drewN (fun _ => False) W1 1)
  refine wp_region_held_drew (S := fun wx => wx.cell? ⟨w.heap.size, 6, none⟩ = some (.int .i64 d.head) ∧ wx.cell? ⟨w.heap.size, 7, none⟩ = some (.int .i64 d.tail) ∧ wx.cell? ⟨w.heap.size, 9, none⟩ = some (.int .i64 d.ents)) (by kernel_rfl) ⟨c6, c7, c9⟩ (fun hS => ?_)
  refine takeH 0 (some 25) (.string s1) rfl rfl (by kernel_rfl) (by kernel_rfl) (by kernel_rfl) (fun _ _ _ h => h) (Or.inl ⟨by rfl, fun wx _ => by go_simp⟩) hS ?_
  try simp only [Act.put, List.setIfInBounds_toArray, List.set_cons_zero, List.set_cons_succ]
  refine takeH 1 (some 26) (.pointer (some ⟨w.heap.size, 6, none⟩)) rfl rfl (by kernel_rfl) (by kernel_rfl) (by kernel_rfl) (fun _ _ _ h => h) (Or.inl ⟨by rfl, fun wx _ => by go_simp⟩) hS ?_
  try simp only [Act.put, List.setIfInBounds_toArray, List.set_cons_zero, List.set_cons_succ]
  refine takeH 2 (some 27) (.int .i64 d.head) rfl rfl (by kernel_rfl) (by kernel_rfl) (by kernel_rfl) (fun _ _ _ h => h) (Or.inl ⟨by rfl, fun wx ⟨s0, _, _⟩ => by go_simp⟩) hS ?_
  try simp only [Act.put, List.setIfInBounds_toArray, List.set_cons_zero, List.set_cons_succ]
  refine takeH 6 (some 31) (.pointer (some ⟨w.heap.size, 7, none⟩)) rfl rfl (by kernel_rfl) (by kernel_rfl) (by kernel_rfl) (fun _ _ _ h => h) (Or.inl ⟨by rfl, fun wx _ => by go_simp⟩) hS ?_
  try simp only [Act.put, List.setIfInBounds_toArray, List.set_cons_zero, List.set_cons_succ]
  refine takeH 7 (some 32) (.int .i64 d.tail) rfl rfl (by kernel_rfl) (by kernel_rfl) (by kernel_rfl) (fun _ _ _ h => h) (Or.inl ⟨by rfl, fun wx ⟨_, s0, _⟩ => by go_simp⟩) hS ?_
  try simp only [Act.put, List.setIfInBounds_toArray, List.set_cons_zero, List.set_cons_succ]
  refine takeH 11 (some 36) (.pointer (some ⟨w.heap.size, 9, none⟩)) rfl rfl (by kernel_rfl) (by kernel_rfl) (by kernel_rfl) (fun _ _ _ h => h) (Or.inl ⟨by rfl, fun wx _ => by go_simp⟩) hS ?_
  try simp only [Act.put, List.setIfInBounds_toArray, List.set_cons_zero, List.set_cons_succ]
  refine takeH 12 (some 37) (.int .i64 d.ents) rfl rfl (by kernel_rfl) (by kernel_rfl) (by kernel_rfl) (fun _ _ _ h => h) (Or.inl ⟨by rfl, fun wx ⟨_, _, s0⟩ => by go_simp⟩) hS ?_
  try simp only [Act.put, List.setIfInBounds_toArray, List.set_cons_zero, List.set_cons_succ]
  refine wpAnyH_ready (rs := [3]) (by kernel_rfl) (by simp) (AllReadyH.cons rfl (fun K hK => ?_) AllReadyH.nil)
  go_simp
  go_at_call 8
  refine (itoa_any _ (HT.out.keep (HK1.out.trans HKK0.out)) d.head HI.out.head).mono ?_
  rintro e wk0 ⟨rfl, hk8⟩
  have HKK1 := Hid.mk' (HKK0.out.trans hk8)
  refine hK.out _ _ (⟨hk8.cell hS.1 id, hk8.cell hS.2.1 id, hk8.cell hS.2.2 id⟩) (fun hS => ?_)
  clear hK hk8
  try simp only [Act.put, List.setIfInBounds_toArray, List.set_cons_zero, List.set_cons_succ]
  refine takeH 4 (some 29) (.string ((⟨#[32, 104, 101, 97, 100, 32]⟩ : ByteArray) ++ (iB d.head))) rfl rfl (by kernel_rfl) (by kernel_rfl) (by kernel_rfl) (fun _ _ _ h => h) (Or.inl ⟨by rfl, fun wx _ => by go_simp <;> omega⟩) hS ?_
  try simp only [Act.put, List.setIfInBounds_toArray, List.set_cons_zero, List.set_cons_succ]
  refine takeH 5 (some 30) (.string (((⟨#[32, 104, 101, 97, 100, 32]⟩ : ByteArray) ++ (iB d.head)) ++ (⟨#[32, 116, 97, 105, 108, 32]⟩ : ByteArray))) rfl rfl (by kernel_rfl) (by kernel_rfl) (by kernel_rfl) (fun _ _ _ h => h) (Or.inl ⟨by rfl, fun wx _ => by go_simp <;> omega⟩) hS ?_
  try simp only [Act.put, List.setIfInBounds_toArray, List.set_cons_zero, List.set_cons_succ]
  refine wpAnyH_ready (rs := [8]) (by kernel_rfl) (by simp) (AllReadyH.cons rfl (fun K hK => ?_) AllReadyH.nil)
  go_simp
  go_at_call 8
  refine (itoa_any _ (HT.out.keep (HK1.out.trans HKK1.out)) d.tail HI.out.tail).mono ?_
  rintro e wk1 ⟨rfl, hk8⟩
  have HKK2 := Hid.mk' (HKK1.out.trans hk8)
  refine hK.out _ _ (⟨hk8.cell hS.1 id, hk8.cell hS.2.1 id, hk8.cell hS.2.2 id⟩) (fun hS => ?_)
  clear hK hk8
  try simp only [Act.put, List.setIfInBounds_toArray, List.set_cons_zero, List.set_cons_succ]
  refine takeH 9 (some 34) (.string ((((⟨#[32, 104, 101, 97, 100, 32]⟩ : ByteArray) ++ (iB d.head)) ++ (⟨#[32, 116, 97, 105, 108, 32]⟩ : ByteArray)) ++ (iB d.tail))) rfl rfl (by kernel_rfl) (by kernel_rfl) (by kernel_rfl) (fun _ _ _ h => h) (Or.inl ⟨by rfl, fun wx _ => by go_simp <;> omega⟩) hS ?_
  try simp only [Act.put, List.setIfInBounds_toArray, List.set_cons_zero, List.set_cons_succ]
  refine takeH 10 (some 35) (.string (((((⟨#[32, 104, 101, 97, 100, 32]⟩ : ByteArray) ++ (iB d.head)) ++ (⟨#[32, 116, 97, 105, 108, 32]⟩ : ByteArray)) ++ (iB d.tail)) ++ (⟨#[32, 101, 110, 116, 114, 105, 101, 115, 32]⟩ : ByteArray))) rfl rfl (by kernel_rfl) (by kernel_rfl) (by kernel_rfl) (fun _ _ _ h => h) (Or.inl ⟨by rfl, fun wx _ => by go_simp <;> omega⟩) hS ?_
  try simp only [Act.put, List.setIfInBounds_toArray, List.set_cons_zero, List.set_cons_succ]
  refine wpAnyH_ready (rs := [13]) (by kernel_rfl) (by simp) (AllReadyH.cons rfl (fun K hK => ?_) AllReadyH.nil)
  go_simp
  go_at_call 8
  refine (itoa_any _ (HT.out.keep (HK1.out.trans HKK2.out)) d.ents HI.out.ents).mono ?_
  rintro e wk2 ⟨rfl, hk8⟩
  have HKK3 := Hid.mk' (HKK2.out.trans hk8)
  refine hK.out _ _ (⟨hk8.cell hS.1 id, hk8.cell hS.2.1 id, hk8.cell hS.2.2 id⟩) (fun hS => ?_)
  clear hK hk8
  try simp only [Act.put, List.setIfInBounds_toArray, List.set_cons_zero, List.set_cons_succ]
  refine takeH 14 (some 39) (.string ((((((⟨#[32, 104, 101, 97, 100, 32]⟩ : ByteArray) ++ (iB d.head)) ++ (⟨#[32, 116, 97, 105, 108, 32]⟩ : ByteArray)) ++ (iB d.tail)) ++ (⟨#[32, 101, 110, 116, 114, 105, 101, 115, 32]⟩ : ByteArray)) ++ (iB d.ents))) rfl rfl (by kernel_rfl) (by kernel_rfl) (by kernel_rfl) (fun _ _ _ h => h) (Or.inl ⟨by rfl, fun wx _ => by go_simp <;> omega⟩) hS ?_
  try simp only [Act.put, List.setIfInBounds_toArray, List.set_cons_zero, List.set_cons_succ]
  refine takeH 15 (some 40) (.string (s1 ++ ((((((⟨#[32, 104, 101, 97, 100, 32]⟩ : ByteArray) ++ (iB d.head)) ++ (⟨#[32, 116, 97, 105, 108, 32]⟩ : ByteArray)) ++ (iB d.tail)) ++ (⟨#[32, 101, 110, 116, 114, 105, 101, 115, 32]⟩ : ByteArray)) ++ (iB d.ents)))) rfl rfl (by kernel_rfl) (by kernel_rfl) (by kernel_rfl) (fun _ _ _ h => h) (Or.inl ⟨by rfl, fun wx _ => by go_simp <;> omega⟩) hS ?_
  try simp only [Act.put, List.setIfInBounds_toArray, List.set_cons_zero, List.set_cons_succ]
  refine takeH 16 (some 3) (.string (s1 ++ ((((((⟨#[32, 104, 101, 97, 100, 32]⟩ : ByteArray) ++ (iB d.head)) ++ (⟨#[32, 116, 97, 105, 108, 32]⟩ : ByteArray)) ++ (iB d.tail)) ++ (⟨#[32, 101, 110, 116, 114, 105, 101, 115, 32]⟩ : ByteArray)) ++ (iB d.ents)))) rfl rfl (by kernel_rfl) (by kernel_rfl) (by kernel_rfl) (fun _ _ _ h => h) (Or.inl ⟨by rfl, fun wx _ => by go_simp⟩) hS ?_
  try simp only [Act.put]
  refine wpAnyH_done (by kernel_rfl) ?_ _
  clear hS
  have HK2 := Hid.mk' (HK1.out.trans HKK3.out)
  have k12 := HKK3.out
  obtain ⟨s2, hs2⟩ : ∃ s2, (s1 ++ ((((((⟨#[32, 104, 101, 97, 100, 32]⟩ : ByteArray) ++ (iB d.head)) ++ (⟨#[32, 116, 97, 105, 108, 32]⟩ : ByteArray)) ++ (iB d.tail)) ++ (⟨#[32, 101, 110, 116, 114, 105, 101, 115, 32]⟩ : ByteArray)) ++ (iB d.ents))) = s2 := ⟨_, rfl⟩
  have HE2 : Hid (n2B d = s2) := by have h := hs2; rw [← HE1.out] at h; exact h
  have z8 : s2.size ≤ 800 := by rw [← HE2.out]; exact (n2B_size hi).2
  rw [hs2]
  clear hs2 c6 c7 c9
  have HC2 : Hid (∀ (W : World), Keeps (fun _ => False) wk2 W → ∀ (j : Nat) (u : Value), (ncell d (.slice pm d.mp.length cm) (.slice pn d.nm.length cn) (.slice pl d.lg.length cl))[j]? = some u → W.cell? ⟨w.heap.size, j, none⟩ = some u) := fun W k => HC1.out W (k12.trans k)
  clear k12 HKK0 HKK1 HKK2 HKK3 HC1 HK1 z1 z2 z3 z4 z5 z6 z7
  rename World => W2
  have c8 : W2.cell? ⟨w.heap.size, 8, none⟩ = some (.slice pl d.lg.length cl) := HC2.out W2 (Keeps.refl _ _) 8 _ rfl
  go_upto_if 44 with (fail)
  go_cut [3, 44] from 44 to 50 (fun s _ wx => s = .string (n3B d) ∧ Hid (Keeps (fun _ => False) W2 wx))
  case first =>
    by_cases hl : 0 < d.lg.length
    · have hl' : (0 : Int) < (d.lg.length : Int) := by omega
      have hzn := numB_size hi.lg
      have hzw := hi.wt
      have h6 := numbers_any W2 (HT.out.keep HK2.out) (.slice pl d.lg.length cl) d.lg (HR.out.keep HK2.out).lg (by omega) hi.lg
      go_wp2_with (first | (go_at_call 6; refine h6.mono ?_; clear h6; rintro e w6 ⟨rfl, hk6⟩; have HK6 := Hid.mk' hk6; clear hk6))
      go_meet
      case rel => exact ⟨by unfold n3B; rw [if_pos hl, HE2.out], HK6.out⟩
    · have hl' : ¬ (0 : Int) < (d.lg.length : Int) := by omega
      go_wp2
      go_meet
      case rel => exact ⟨by unfold n3B; rw [if_neg hl, HE2.out], Keeps.refl _ _⟩
  case rest =>
    obtain ⟨hcut1, HKc⟩ := hcut
    subst hcut1
    have HK3 := Hid.mk' (HK2.out.trans HKc.out)
    have HC3 : Hid (∀ (W : World), Keeps (fun _ => False) wc W → ∀ (j : Nat) (u : Value), (ncell d (.slice pm d.mp.length cm) (.slice pn d.nm.length cn) (.slice pl d.lg.length cl))[j]? = some u → W.cell? ⟨w.heap.size, j, none⟩ = some u) := fun W k => HC2.out W (HKc.out.trans k)
    have HN : Hid (nodB d = if d.kind = 1 ∧ 0 < d.mp.length then n3B d ++ ⟨#[32, 109, 97, 112]⟩ ++ cat (d.mp.map rnB) else if d.kind = 2 ∧ 0 < d.nm.length then n3B d ++ ((⟨#[32, 110, 97, 109, 101, 115]⟩ : ByteArray) ++ dtsB d.nm) else n3B d) := rfl
    have z9 := n3B_size hi
    clear HC2 HKc c8 HK2 HE2 z8 z0 HE1
    generalize n3B d = s3 at HN z9 ⊢
    have hzw := hi.wt
    have e1 : wc.cell? ⟨w.heap.size, 1, none⟩ = some (.int .i64 d.kind) := HC3.out wc (Keeps.refl _ _) 1 _ rfl
    have e4 : wc.cell? ⟨w.heap.size, 4, none⟩ = some (.slice pm d.mp.length cm) := HC3.out wc (Keeps.refl _ _) 4 _ rfl
    have e5 : wc.cell? ⟨w.heap.size, 5, none⟩ = some (.slice pn d.nm.length cn) := HC3.out wc (Keeps.refl _ _) 5 _ rfl
    by_cases hk1 : d.kind = 1
    · rw [hk1] at e1
      by_cases hm : 0 < d.mp.length
      · have hm' : (0 : Int) < (d.mp.length : Int) := by omega
        have HF : Hid (nodB d = s3 ++ ⟨#[32, 109, 97, 112]⟩ ++ cat (d.mp.map rnB)) := by show _ = _; rw [HN.out, if_pos ⟨hk1, hm⟩]
        clear HN
        go_wp2
        go_loopw [3, 4] (fun s i wr => ∃ (k : Nat) (x : ByteArray), k ≤ d.mp.length ∧ i = .int .i64 k ∧ s = .string x ∧ x.size ≤ 300000000 ∧ Hid (x = s3 ++ ⟨#[32, 109, 97, 112]⟩ ++ cat ((d.mp.take k).map rnB)) ∧ Hid (Keeps (fun _ => False) wc wr)) (fun _ i _ => d.mp.length - (intOf i).toNat)
        case atStart => exact ⟨0, _, Nat.zero_le _, rfl, rfl, by rw [ByteArray.size_append, show (⟨#[32, 109, 97, 112]⟩ : ByteArray).size = 4 from rfl]; omega, bytes_ext (by simp [cat]), Keeps.refl _ _⟩
        case round =>
          obtain ⟨k, x, hk, rfl, rfl, hx, HX, HK⟩ := hrel
          have f4 : wr.cell? ⟨w.heap.size, 4, none⟩ = some (.slice pm d.mp.length cm) := HC3.out wr HK.out 4 _ rfl
          have f1 : wr.cell? ⟨w.heap.size, 1, none⟩ = some (.int .i64 d.kind) := HC3.out wr HK.out 1 _ rfl
          rw [hk1] at f1
          clear e1 e4 e5
          by_cases h1 : k < d.mp.length
          · have h1' : (k : Int) < (d.mp.length : Int) := by omega
            obtain ⟨⟨r1, r2, r3⟩, hd⟩ : ∃ n, d.mp[k]? = some n := ⟨d.mp[k], by simp [h1]⟩
            obtain ⟨b, o, c', e, _, hcell⟩ := ((HR.out.keep HK3.out).keep HK.out).mp.gets r3cell 3 (fun _ => rfl) hd
            injection e with e1 _ e3
            subst e1 e3
            obtain ⟨hr1, hr2, hr3⟩ := hi.mp _ (List.mem_of_getElem? hd)
            dsimp only at hr1 hr2 hr3
            have HRG : Hid (wr.rangeAt b (o + k * 3) (#[.int .i64 r1, .int .i64 r2, .int .i64 r3] : Array Value).toList) := fun j u hj => hcell j u hj
            have y1 := iB_size hr1
            have y2 := iB_size hr2
            have y3 := iB_size hr3
            have HX2 : Hid (x ++ (((((((⟨#[32]⟩ : ByteArray) ++ (iB r1)) ++ (⟨#[58]⟩ : ByteArray)) ++ (iB r2)) ++ (⟨#[43]⟩ : ByteArray)) ++ (iB r3))) = s3 ++ ⟨#[32, 109, 97, 112]⟩ ++ cat ((d.mp.take (k + 1)).map rnB)) := by
              show _ = _
              have h := HX.out
              show x ++ rnB (r1, r2, r3) = _
              rw [cat_take rnB hd, h]
              exact ByteArray.append_assoc
            have HS2 : Hid ((x ++ (((((((⟨#[32]⟩ : ByteArray) ++ (iB r1)) ++ (⟨#[58]⟩ : ByteArray)) ++ (iB r2)) ++ (⟨#[43]⟩ : ByteArray)) ++ (iB r3)))).size ≤ 300000000) := by
              show _ ≤ _
              rw [HX2.out]
              have h2 := cat_le rnB 100 (d.mp.take (k + 1)) (fun a ha => rnB_size (hi.mp a (List.mem_of_mem_take ha)))
              have h3 : (d.mp.take (k + 1)).length ≤ 1200000 := by simp; omega
              rw [ByteArray.size_append, ByteArray.size_append, show (⟨#[32, 109, 97, 112]⟩ : ByteArray).size = 4 from rfl]
              omega
            obtain ⟨WQ, hWQ, HKQ0, q0, q1, q2⟩ : ∃ WQ, wr.alloc (.cells #[.int .i64 r1, .int .i64 r2, .int .i64 r3] 45) = WQ ∧ Hid (Keeps (fun _ => False) wr WQ) ∧ WQ.cell? ⟨wr.heap.size, 0, none⟩ = some (.int .i64 r1) ∧ WQ.cell? ⟨wr.heap.size, 1, none⟩ = some (.int .i64 r2) ∧ WQ.cell? ⟨wr.heap.size, 2, none⟩ = some (.int .i64 r3) := ⟨_, rfl, (Keeps.refl _ wr).alloc _, new_cell wr _ _ 0 _ rfl, new_cell wr _ _ 1 _ rfl, new_cell wr _ _ 2 _ rfl⟩
            have HKQ := Hid.mk' ((HK3.out.trans HK.out).trans HKQ0.out)
            have HWQ := Hid.mk' hWQ
            clear hcell hd hWQ
            have S0 := Hid.mk' True.intro
            go_upto_region 11 with (first
              | (clear S0; refine wpList_load_mid rfl 45 _ rfl b (o + k * 3) (by rfl) (#[.int .i64 r1, .int .i64 r2, .int .i64 r3] : Array Value).toList _ HRG.out Tryd.underlying45 rfl size_rn ?_; have S1 := Hid.mk' True.intro)
              | (clear S1; refine wpList_alloc_rn rfl rfl ?_; have S2 := Hid.mk' True.intro)
              | (clear S2; refine wpList_store_rn rfl _ _ rfl #[.int .i64 r1, .int .i64 r2, .int .i64 r3] rfl (by simp [Value.oneCell']) (by rfl) (by rfl) ?_; rw [HWQ.out]; have S3 := Hid.mk' True.intro))
            clear S3
            have HKK0 := Hid.mk' (Keeps.drewN (fun _ => False) WQ 1)
            refine wp_region_held_drew (S := fun wx => wx.cell? ⟨wr.heap.size, 0, none⟩ = some (.int .i64 r1) ∧ wx.cell? ⟨wr.heap.size, 1, none⟩ = some (.int .i64 r2) ∧ wx.cell? ⟨wr.heap.size, 2, none⟩ = some (.int .i64 r3)) (by kernel_rfl) ⟨q0, q1, q2⟩ (fun hS => ?_)
            refine takeH 0 (some 74) (.string x) rfl rfl (by kernel_rfl) (by kernel_rfl) (by kernel_rfl) (fun _ _ _ h => h) (Or.inl ⟨by rfl, fun wx _ => by go_simp⟩) hS ?_
            try simp only [Act.put, List.setIfInBounds_toArray, List.set_cons_zero, List.set_cons_succ]
            refine takeH 1 (some 75) (.pointer (some ⟨wr.heap.size, 0, none⟩)) rfl rfl (by kernel_rfl) (by kernel_rfl) (by kernel_rfl) (fun _ _ _ h => h) (Or.inl ⟨by rfl, fun wx _ => by go_simp⟩) hS ?_
            try simp only [Act.put, List.setIfInBounds_toArray, List.set_cons_zero, List.set_cons_succ]
            refine takeH 2 (some 76) (.int .i64 r1) rfl rfl (by kernel_rfl) (by kernel_rfl) (by kernel_rfl) (fun _ _ _ h => h) (Or.inl ⟨by rfl, fun wx ⟨s0, _, _⟩ => by go_simp⟩) hS ?_
            try simp only [Act.put, List.setIfInBounds_toArray, List.set_cons_zero, List.set_cons_succ]
            refine takeH 6 (some 80) (.pointer (some ⟨wr.heap.size, 1, none⟩)) rfl rfl (by kernel_rfl) (by kernel_rfl) (by kernel_rfl) (fun _ _ _ h => h) (Or.inl ⟨by rfl, fun wx _ => by go_simp⟩) hS ?_
            try simp only [Act.put, List.setIfInBounds_toArray, List.set_cons_zero, List.set_cons_succ]
            refine takeH 7 (some 81) (.int .i64 r2) rfl rfl (by kernel_rfl) (by kernel_rfl) (by kernel_rfl) (fun _ _ _ h => h) (Or.inl ⟨by rfl, fun wx ⟨_, s0, _⟩ => by go_simp⟩) hS ?_
            try simp only [Act.put, List.setIfInBounds_toArray, List.set_cons_zero, List.set_cons_succ]
            refine takeH 11 (some 85) (.pointer (some ⟨wr.heap.size, 2, none⟩)) rfl rfl (by kernel_rfl) (by kernel_rfl) (by kernel_rfl) (fun _ _ _ h => h) (Or.inl ⟨by rfl, fun wx _ => by go_simp⟩) hS ?_
            try simp only [Act.put, List.setIfInBounds_toArray, List.set_cons_zero, List.set_cons_succ]
            refine takeH 12 (some 86) (.int .i64 r3) rfl rfl (by kernel_rfl) (by kernel_rfl) (by kernel_rfl) (fun _ _ _ h => h) (Or.inl ⟨by rfl, fun wx ⟨_, _, s0⟩ => by go_simp⟩) hS ?_
            try simp only [Act.put, List.setIfInBounds_toArray, List.set_cons_zero, List.set_cons_succ]
            refine wpAnyH_ready (rs := [3]) (by kernel_rfl) (by simp) (AllReadyH.cons rfl (fun K hK => ?_) AllReadyH.nil)
            go_simp
            go_at_call 8
            refine (itoa_any _ (HT.out.keep (HKQ.out.trans HKK0.out)) r1 hr1).mono ?_
            rintro e wk0 ⟨rfl, hk8⟩
            have HKK1 := Hid.mk' (HKK0.out.trans hk8)
            refine hK.out _ _ (⟨hk8.cell hS.1 id, hk8.cell hS.2.1 id, hk8.cell hS.2.2 id⟩) (fun hS => ?_)
            clear hK hk8
            try simp only [Act.put, List.setIfInBounds_toArray, List.set_cons_zero, List.set_cons_succ]
            refine takeH 4 (some 78) (.string ((⟨#[32]⟩ : ByteArray) ++ (iB r1))) rfl rfl (by kernel_rfl) (by kernel_rfl) (by kernel_rfl) (fun _ _ _ h => h) (Or.inl ⟨by rfl, fun wx _ => by go_simp <;> omega⟩) hS ?_
            try simp only [Act.put, List.setIfInBounds_toArray, List.set_cons_zero, List.set_cons_succ]
            refine takeH 5 (some 79) (.string (((⟨#[32]⟩ : ByteArray) ++ (iB r1)) ++ (⟨#[58]⟩ : ByteArray))) rfl rfl (by kernel_rfl) (by kernel_rfl) (by kernel_rfl) (fun _ _ _ h => h) (Or.inl ⟨by rfl, fun wx _ => by go_simp <;> omega⟩) hS ?_
            try simp only [Act.put, List.setIfInBounds_toArray, List.set_cons_zero, List.set_cons_succ]
            refine wpAnyH_ready (rs := [8]) (by kernel_rfl) (by simp) (AllReadyH.cons rfl (fun K hK => ?_) AllReadyH.nil)
            go_simp
            go_at_call 8
            refine (itoa_any _ (HT.out.keep (HKQ.out.trans HKK1.out)) r2 hr2).mono ?_
            rintro e wk1 ⟨rfl, hk8⟩
            have HKK2 := Hid.mk' (HKK1.out.trans hk8)
            refine hK.out _ _ (⟨hk8.cell hS.1 id, hk8.cell hS.2.1 id, hk8.cell hS.2.2 id⟩) (fun hS => ?_)
            clear hK hk8
            try simp only [Act.put, List.setIfInBounds_toArray, List.set_cons_zero, List.set_cons_succ]
            refine takeH 9 (some 83) (.string ((((⟨#[32]⟩ : ByteArray) ++ (iB r1)) ++ (⟨#[58]⟩ : ByteArray)) ++ (iB r2))) rfl rfl (by kernel_rfl) (by kernel_rfl) (by kernel_rfl) (fun _ _ _ h => h) (Or.inl ⟨by rfl, fun wx _ => by go_simp <;> omega⟩) hS ?_
            try simp only [Act.put, List.setIfInBounds_toArray, List.set_cons_zero, List.set_cons_succ]
            refine takeH 10 (some 84) (.string (((((⟨#[32]⟩ : ByteArray) ++ (iB r1)) ++ (⟨#[58]⟩ : ByteArray)) ++ (iB r2)) ++ (⟨#[43]⟩ : ByteArray))) rfl rfl (by kernel_rfl) (by kernel_rfl) (by kernel_rfl) (fun _ _ _ h => h) (Or.inl ⟨by rfl, fun wx _ => by go_simp <;> omega⟩) hS ?_
            try simp only [Act.put, List.setIfInBounds_toArray, List.set_cons_zero, List.set_cons_succ]
            refine wpAnyH_ready (rs := [13]) (by kernel_rfl) (by simp) (AllReadyH.cons rfl (fun K hK => ?_) AllReadyH.nil)
            go_simp
            go_at_call 8
            refine (itoa_any _ (HT.out.keep (HKQ.out.trans HKK2.out)) r3 hr3).mono ?_
            rintro e wk2 ⟨rfl, hk8⟩
            have HKK3 := Hid.mk' (HKK2.out.trans hk8)
            refine hK.out _ _ (⟨hk8.cell hS.1 id, hk8.cell hS.2.1 id, hk8.cell hS.2.2 id⟩) (fun hS => ?_)
            clear hK hk8
            try simp only [Act.put, List.setIfInBounds_toArray, List.set_cons_zero, List.set_cons_succ]
            refine takeH 14 (some 88) (.string ((((((⟨#[32]⟩ : ByteArray) ++ (iB r1)) ++ (⟨#[58]⟩ : ByteArray)) ++ (iB r2)) ++ (⟨#[43]⟩ : ByteArray)) ++ (iB r3))) rfl rfl (by kernel_rfl) (by kernel_rfl) (by kernel_rfl) (fun _ _ _ h => h) (Or.inl ⟨by rfl, fun wx _ => by go_simp <;> omega⟩) hS ?_
            try simp only [Act.put, List.setIfInBounds_toArray, List.set_cons_zero, List.set_cons_succ]
            refine takeH 15 (some 89) (.string (x ++ ((((((⟨#[32]⟩ : ByteArray) ++ (iB r1)) ++ (⟨#[58]⟩ : ByteArray)) ++ (iB r2)) ++ (⟨#[43]⟩ : ByteArray)) ++ (iB r3)))) rfl rfl (by kernel_rfl) (by kernel_rfl) (by kernel_rfl) (fun _ _ _ h => h) (Or.inl ⟨by rfl, fun wx _ => by go_simp <;> omega⟩) hS ?_
            try simp only [Act.put, List.setIfInBounds_toArray, List.set_cons_zero, List.set_cons_succ]
            refine takeH 16 (some 3) (.string (x ++ ((((((⟨#[32]⟩ : ByteArray) ++ (iB r1)) ++ (⟨#[58]⟩ : ByteArray)) ++ (iB r2)) ++ (⟨#[43]⟩ : ByteArray)) ++ (iB r3)))) rfl rfl (by kernel_rfl) (by kernel_rfl) (by kernel_rfl) (fun _ _ _ h => h) (Or.inl ⟨by rfl, fun wx _ => by go_simp⟩) hS ?_
            try simp only [Act.put]
            refine wpAnyH_done (by kernel_rfl) ?_ _
            clear hS
            go_wp2
            go_roundw
            case rel =>
              refine ⟨k + 1, by omega, by omega, ?_, ?_, HK.out.trans (HKQ0.out.trans HKK3.out)⟩
              · have h : (x ++ (((((((⟨#[32]⟩ : ByteArray) ++ (iB r1)) ++ (⟨#[58]⟩ : ByteArray)) ++ (iB r2)) ++ (⟨#[43]⟩ : ByteArray)) ++ (iB r3)))).size ≤ 300000000 := HS2.out
                have l1 : (⟨#[32]⟩ : ByteArray).size = 1 := rfl
                have l2 : (⟨#[58]⟩ : ByteArray).size = 1 := rfl
                have l3 : (⟨#[43]⟩ : ByteArray).size = 1 := rfl
                simp only [ByteArray.size_append, l1, l2, l3] at h
                omega
              · have h := HX2.out
                rw [List.map_take] at h
                exact h
            case measure => simp [intOf]; omega
          · have h1' : ¬ (k : Int) < (d.mp.length : Int) := by omega
            have HE : Hid (x = nodB d) := by show _ = _; rw [HF.out, HX.out, List.take_of_length_le (by omega)]
            go_wp2
            go_ret
            exact ⟨by rw [HE.out]; first | done | rfl, HK3.out.trans HK.out⟩
      · have hm' : ¬ (0 : Int) < (d.mp.length : Int) := by omega
        have HF : Hid (nodB d = s3) := by show _ = _; rw [HN.out, if_neg (fun h => hm h.2), if_neg (fun h => by rw [hk1] at h; exact absurd h.1 (by decide))]
        go_wp2
        go_ret
        exact ⟨by rw [HF.out]; first | done | rfl, HK3.out⟩
    · have hk1' : ((d.kind : Int) == 1) = false := beq_eq_false_iff_ne.2 hk1
      by_cases hk2 : d.kind = 2
      · rw [hk2] at e1
        by_cases hm : 0 < d.nm.length
        · have hm' : (0 : Int) < (d.nm.length : Int) := by omega
          have HF : Hid (nodB d = s3 ++ ((⟨#[32, 110, 97, 109, 101, 115]⟩ : ByteArray) ++ dtsB d.nm)) := by show _ = _; rw [HN.out, if_neg (fun h => hk1 h.1), if_pos ⟨hk2, hm⟩]
          have hzd := dtsB_size hi.nm
          have h15 := dents_any wc (HT.out.keep HK3.out) (.slice pn d.nm.length cn) d.nm (HR.out.keep HK3.out).nm (by omega) (by have := dwt_len d.nm; omega) hi.nm
          clear HN hk1' hk1
          go_wp2_with (first | (go_at_call 15; refine h15.mono ?_; clear h15; rintro e w6 ⟨rfl, hk6⟩; have HK6 := Hid.mk' hk6; clear hk6))
          go_ret
          exact ⟨by rw [HF.out]; first | done | rfl, HK3.out.trans HK6.out⟩
        · have hm' : ¬ (0 : Int) < (d.nm.length : Int) := by omega
          have HF : Hid (nodB d = s3) := by show _ = _; rw [HN.out, if_neg (fun h => hk1 h.1), if_neg (fun h => hm h.2)]
          clear HN hk1' hk1
          go_wp2
          go_ret
          exact ⟨by rw [HF.out]; first | done | rfl, HK3.out⟩
      · have HF : Hid (nodB d = s3) := by show _ = _; rw [HN.out, if_neg (fun h => hk1 h.1), if_neg (fun h => hk2 h.1)]
        have hk2' : ((d.kind : Int) == 2) = false := beq_eq_false_iff_ne.2 hk2
        clear HN
        go_wp2
        go_ret
        exact ⟨by rw [HF.out]; first | done | rfl, HK3.out⟩
end Go.Proofs.YtpgabmfpffaajaaDoor
