import Derived.Test.YtdlhdompemkjfaaGreatDoorK04
import Derived.Deep.Cut
namespace Go.Proofs.YtdlhdompemkjfaaGreatDoor
open Go.RowKit Go.Maps
set_option maxRecDepth 100000

/-- The six variables of kinds. -/
structure VB (W : World) (bA bB bN bM bK bL : Nat) : Prop where
  a : W.heap[bA]? = some (.cells (acell .A) 74 (0, 0))
  b : W.heap[bB]? = some (.cells (acell .B) 74 (0, 0))
  n : W.heap[bN]? = some (.cells (acell .N) 74 (0, 0))
  m : W.heap[bM]? = some (.cells (acell .M) 74 (0, 0))
  k : W.heap[bK]? = some (.cells (acell .K) 74 (0, 0))
  l : W.heap[bL]? = some (.cells (acell .L) 74 (0, 0))
theorem VB.keep {A B : World} {bA bB bN bM bK bL : Nat} (h : VB A bA bB bN bM bK bL) (k : Keeps (fun _ => False) A B) : VB B bA bB bN bM bK bL :=
  ⟨k.at h.a id, k.at h.b id, k.at h.n id, k.at h.m id, k.at h.k id, k.at h.l id⟩
/-- The table of kinds in memory. -/
def KdsAt (W : World) (g : Nat) : Prop := g < W.heap.size ∧ ∀ (i : Nat) (k : Kd), kds[i]? = some k → W.cell? ⟨g, 3 * i, none⟩ = some (.int .i64 k.num) ∧ W.cell? ⟨g, 3 * i + 1, none⟩ = some (.string k.word) ∧ ∃ v, W.cell? ⟨g, 3 * i + 2, none⟩ = some v ∧ ArgsAt W v k.args
theorem KdsAt.keep {A B : World} {g : Nat} (h : KdsAt A g) (k : Keeps (fun _ => False) A B) : KdsAt B g := by
  refine ⟨Nat.lt_of_lt_of_le h.1 k.size, fun i d hd => ?_⟩
  obtain ⟨c0, c1, v, c2, ha⟩ := h.2 i d hd
  exact ⟨k.cell c0 id, k.cell c1 id, v, k.cell c2 id, ha.keep k⟩
theorem wpList_alloc_d {ops : Array Oper} {rest : List Oper} {o : Oper} {a : Act} {w : World} {Q : Exit → Act → World → Prop} (hg : o.guard = none) (d : Tmp) (hd : o.dst = some d) (ho : o.op = .alloc 74) (g : Nat) (hw : w.heap.size = g)
    (h : wpList Tryz.prog ops Q rest (a.put (some d) (.pointer (some ⟨g, 0, none⟩))) (w.alloc (.cells azero 74))) : wpList Tryz.prog ops Q (o :: rest) a w := by
  subst hw
  exact wpList_alloc_a hg ho (by rw [hd]; exact h)
theorem wpList_args' {ops : Array Oper} {rest : List Oper} {o : Oper} {a : Act} {W : World} {Q : Exit → Act → World → Prop} (hgd : o.guard = none) (d : Tmp) (hd : o.dst = some d) (n : Nat) (parts : Array (Nat × Operand)) (ho : o.op = .buildSlice 61 n parts)
    (l : List Ar) (hn : n = l.length) (hp : 0 < l.length) (hl : l.length ≤ 3) (hf : Instr.fill (fun i => some (i * 4, 4)) ((Array.range (n * 4)).map (azero[· % 4]!)) (parts.map fun (i, x) => (i, a.eval x)).toList = some (acells l).toArray)
    (h : ∀ (g : Nat) (W' : World), ArgsAt W' (.slice (some ⟨g, 0, none⟩) n n) l → Keeps (fun _ => False) W W' → wpList Tryz.prog ops Q rest (a.put (some d) (.slice (some ⟨g, 0, none⟩) n n)) W') : wpList Tryz.prog ops Q (o :: rest) a W := by
  refine wpList_args hgd n parts ho l hn hp hl ?_ (by rw [hd]; exact h)
  intro ie z hie hz
  obtain ⟨i0, hi, hz0, hz1, hz2⟩ := info_parts info74
  rw [hi] at hie
  cases hie
  rw [hz0] at hz
  cases hz
  rw [hz1]
  exact hf
def kzero : Array Value := #[.int .i64 0, .string ⟨#[]⟩, .slice none 0 0]
theorem info63 : (Tryz.prog.info? 63).map (fun i => (i.zero, i.size, i.bytes)) = some (some (.agg kzero), 3, 48) := by kernel_rfl
theorem size63 : (Tryz.prog.info? 63).map (·.size) = some 3 := by kernel_rfl
theorem wpList_kds {ops : Array Oper} {rest : List Oper} {o : Oper} {a : Act} {W : World} {Q : Exit → Act → World → Prop} (hgd : o.guard = none) (d : Tmp) (hd : o.dst = some d) (parts : Array (Nat × Operand)) (ho : o.op = .buildSlice 69 21 parts)
    (cs : List Value) (hf : Instr.fill (fun i => some (i * 3, 3)) ((Array.range (21 * 3)).map (kzero[· % 3]!)) (parts.map fun (i, x) => (i, a.eval x)).toList = some cs.toArray)
    (h : ∀ (g : Nat) (W' : World), g < W'.heap.size → (∀ (j : Nat) (u : Value), cs[j]? = some u → W'.cell? ⟨g, j, none⟩ = some u) → Keeps (fun _ => False) W W' → wpList Tryz.prog ops Q rest (a.put (some d) (.slice (some ⟨g, 0, none⟩) 21 21)) W') : wpList Tryz.prog ops Q (o :: rest) a W := by
  obtain ⟨i0, hi, hz0, hz1, hz2⟩ := info_parts info63
  refine wpList_buildSlice hgd 69 63 21 parts ho cs.toArray i0 (.agg kzero) Tryz.underlying69 hi hz0 (by rw [hz1]; decide) (by rw [hz1]; decide) (by rw [hz1]; exact hf) ?_
  rw [hd]
  refine h _ _ (by rw [World.size_alloc]; omega) (fun j u hj => ?_) ((Keeps.refl _ W).alloc _)
  have h2 := heap_last W (.cells cs.toArray 63)
  simp only [World.cell?, h2, List.getElem?_toArray]
  exact hj
theorem two_blocks (w : World) (o1 o2 : Obj) : ((w.alloc o1).alloc o2).heap[w.heap.size]? = some o1 ∧ ((w.alloc o1).alloc o2).heap[w.heap.size + 1]? = some o2 := by
  have b1 := heap_last w o1
  have b2 := heap_last (w.alloc o1) o2
  rw [World.size_alloc] at b2
  exact ⟨((Keeps.refl (fun _ => False) (w.alloc o1)).alloc o2).at b1 id, b2⟩
theorem four_blocks (w : World) (o1 o2 o3 o4 : Obj) : ((((w.alloc o1).alloc o2).alloc o3).alloc o4).heap[w.heap.size]? = some o1 ∧ ((((w.alloc o1).alloc o2).alloc o3).alloc o4).heap[w.heap.size + 1]? = some o2 ∧ ((((w.alloc o1).alloc o2).alloc o3).alloc o4).heap[w.heap.size + 2]? = some o3 ∧ ((((w.alloc o1).alloc o2).alloc o3).alloc o4).heap[w.heap.size + 3]? = some o4 := by
  have b1 := two_blocks w o1 o2
  have b2 := two_blocks ((w.alloc o1).alloc o2) o3 o4
  rw [World.size_alloc, World.size_alloc] at b2
  have k := ((Keeps.refl (fun _ => False) ((w.alloc o1).alloc o2)).alloc o3).alloc o4
  exact ⟨k.at b1.1 id, k.at b1.2 id, b2.1, b2.2⟩

theorem fill1 (c0 : Ar) : Instr.fill (fun i => some (i * 4, 4)) ((Array.range (1 * 4)).map (azero[· % 4]!)) [(0, .agg (acell c0))] = some (acells [c0]).toArray := by cases c0 <;> kernel_rfl
theorem fill2 (c0 c1 : Ar) : Instr.fill (fun i => some (i * 4, 4)) ((Array.range (2 * 4)).map (azero[· % 4]!)) [(0, .agg (acell c0)), (1, .agg (acell c1))] = some (acells [c0, c1]).toArray := by cases c0 <;> cases c1 <;> kernel_rfl
theorem fill3 (c0 c1 c2 : Ar) : Instr.fill (fun i => some (i * 4, 4)) ((Array.range (3 * 4)).map (azero[· % 4]!)) [(0, .agg (acell c0)), (1, .agg (acell c1)), (2, .agg (acell c2))] = some (acells [c0, c1, c2]).toArray := by cases c0 <;> cases c1 <;> cases c2 <;> kernel_rfl
/-- What is known of a frame: its size, no deferred calls, some of its slots. -/
structure FR (n : Nat) (L : List (Nat × Value)) (a : Act) : Prop where
  size : a.tmps.size = n
  defers : a.defers = []
  get : ∀ (i t : Nat) (v : Value), L[i]? = some (t, v) → a.eval (.tmp t) = v
theorem eval_put_self {a : Act} {d n : Nat} {v : Value} (hs : a.tmps.size = n) (hd : d < n) : (a.put (some d) v).eval (.tmp d) = v := by
  subst hs
  simp [Act.put, Act.eval, hd]
theorem eval_put_other {a : Act} {d t : Nat} {v : Value} (h : d ≠ t) : (a.put (some d) v).eval (.tmp t) = a.eval (.tmp t) := by
  simp [Act.put, Act.eval, h]
theorem FR.put {n : Nat} {L : List (Nat × Value)} {a : Act} (h : FR n L a) (d : Nat) (v : Value) (hd : d < n) (hn : (L.map (·.1)).contains d = false) : FR n ((d, v) :: L) (a.put (some d) v) := by
  refine ⟨by simp [Act.put, h.size], by simp [Act.put, h.defers], fun i t u hi => ?_⟩
  cases i with
  | zero =>
    have e := Option.some.inj hi
    cases e
    exact eval_put_self h.size hd
  | succ i =>
    have hi' : L[i]? = some (t, u) := hi
    have hm : t ∈ L.map (·.1) := List.mem_map.2 ⟨(t, u), List.mem_of_getElem? hi', rfl⟩
    have hne : d ≠ t := by
      rintro rfl
      have : (L.map (·.1)).contains d = true := List.contains_iff_mem.2 hm
      rw [hn] at this; cases this
    rw [eval_put_other hne]
    exact h.get i t u hi'
section
variable {OPS : Array Oper} {rest : List Oper} {o : Oper} {a : Act} {W : World} {Q : Exit → Act → World → Prop} {n : Nat} {L : List (Nat × Value)}
theorem st_load (HF : FR n L a) (hgd : o.guard = none) (t d i b : Nat) (c : Ar) (ho : o.op = .load 74 (.tmp t)) (hd : o.dst = some d) (hi : L[i]? = some (t, .pointer (some ⟨b, 0, none⟩))) (hb : W.heap[b]? = some (.cells (acell c) 74 (0, 0))) (hdn : d < n) (hn : (L.map (·.1)).contains d = false)
    (h : ∀ a', FR n ((d, .agg (acell c)) :: L) a' → wpList Tryz.prog OPS Q rest a' W) : wpList Tryz.prog OPS Q (o :: rest) a W := by
  refine wpList_load_row hgd 74 (.tmp t) ho b (HF.get i t _ hi) 74 (acell c) (0, 0) _ hb Tryz.underlying74 rfl size74 ?_
  rw [hd]
  exact h _ (HF.put d _ hdn hn)
theorem st_args1 (HF : FR n L a) (hgd : o.guard = none) (d t0 i0 : Nat) (c0 : Ar) (ho : o.op = .buildSlice 61 1 #[(0, .tmp t0)]) (hd : o.dst = some d) (h0 : L[i0]? = some (t0, .agg (acell c0))) (hdn : d < n) (hn : (L.map (·.1)).contains d = false)
    (h : ∀ (g : Nat) (W' : World) (a' : Act), ArgsAt W' (.slice (some ⟨g, 0, none⟩) 1 1) [c0] → Keeps (fun _ => False) W W' → FR n ((d, .slice (some ⟨g, 0, none⟩) 1 1) :: L) a' → wpList Tryz.prog OPS Q rest a' W') : wpList Tryz.prog OPS Q (o :: rest) a W := by
  have e0 := HF.get i0 t0 _ h0
  refine wpList_args' hgd d hd 1 _ ho [c0] rfl (by simp) (by simp) ?_ (fun g W' hA hk => h g W' _ hA hk (HF.put d _ hdn hn))
  rw [show ((#[(0, Operand.tmp t0)] : Array (Nat × Operand)).map fun (i, x) => (i, a.eval x)).toList = [(0, a.eval (.tmp t0))] by simp, e0]
  exact fill1 c0
theorem st_args2 (HF : FR n L a) (hgd : o.guard = none) (d t0 i0 t1 i1 : Nat) (c0 c1 : Ar) (ho : o.op = .buildSlice 61 2 #[(0, .tmp t0), (1, .tmp t1)]) (hd : o.dst = some d) (h0 : L[i0]? = some (t0, .agg (acell c0))) (h1 : L[i1]? = some (t1, .agg (acell c1))) (hdn : d < n) (hn : (L.map (·.1)).contains d = false)
    (h : ∀ (g : Nat) (W' : World) (a' : Act), ArgsAt W' (.slice (some ⟨g, 0, none⟩) 2 2) [c0, c1] → Keeps (fun _ => False) W W' → FR n ((d, .slice (some ⟨g, 0, none⟩) 2 2) :: L) a' → wpList Tryz.prog OPS Q rest a' W') : wpList Tryz.prog OPS Q (o :: rest) a W := by
  have e0 := HF.get i0 t0 _ h0
  have e1 := HF.get i1 t1 _ h1
  refine wpList_args' hgd d hd 2 _ ho [c0, c1] rfl (by simp) (by simp) ?_ (fun g W' hA hk => h g W' _ hA hk (HF.put d _ hdn hn))
  rw [show ((#[(0, Operand.tmp t0), (1, Operand.tmp t1)] : Array (Nat × Operand)).map fun (i, x) => (i, a.eval x)).toList = [(0, a.eval (.tmp t0)), (1, a.eval (.tmp t1))] by simp, e0, e1]
  exact fill2 c0 c1
theorem st_args3 (HF : FR n L a) (hgd : o.guard = none) (d t0 i0 t1 i1 t2 i2 : Nat) (c0 c1 c2 : Ar) (ho : o.op = .buildSlice 61 3 #[(0, .tmp t0), (1, .tmp t1), (2, .tmp t2)]) (hd : o.dst = some d) (h0 : L[i0]? = some (t0, .agg (acell c0))) (h1 : L[i1]? = some (t1, .agg (acell c1))) (h2 : L[i2]? = some (t2, .agg (acell c2))) (hdn : d < n) (hn : (L.map (·.1)).contains d = false)
    (h : ∀ (g : Nat) (W' : World) (a' : Act), ArgsAt W' (.slice (some ⟨g, 0, none⟩) 3 3) [c0, c1, c2] → Keeps (fun _ => False) W W' → FR n ((d, .slice (some ⟨g, 0, none⟩) 3 3) :: L) a' → wpList Tryz.prog OPS Q rest a' W') : wpList Tryz.prog OPS Q (o :: rest) a W := by
  have e0 := HF.get i0 t0 _ h0
  have e1 := HF.get i1 t1 _ h1
  have e2 := HF.get i2 t2 _ h2
  refine wpList_args' hgd d hd 3 _ ho [c0, c1, c2] rfl (by simp) (by simp) ?_ (fun g W' hA hk => h g W' _ hA hk (HF.put d _ hdn hn))
  rw [show ((#[(0, Operand.tmp t0), (1, Operand.tmp t1), (2, Operand.tmp t2)] : Array (Nat × Operand)).map fun (i, x) => (i, a.eval x)).toList = [(0, a.eval (.tmp t0)), (1, a.eval (.tmp t1)), (2, a.eval (.tmp t2))] by simp, e0, e1, e2]
  exact fill3 c0 c1 c2
theorem built_k (z : Int) (s : ByteArray) (p : Option Addr) (l c : Nat) : Tryz.prog.built 63 [(0, .int .i64 z), (1, .string s), (2, .slice p l c)] = some #[.int .i64 z, .string s, .slice p l c] := by kernel_rfl
theorem st_build (HF : FR n L a) (hgd : o.guard = none) (d t i : Nat) (z : Int) (s : ByteArray) (p : Option Addr) (l c : Nat) (ho : o.op = .build 63 #[(0, .const (.int .i64 z)), (1, .const (.string s)), (2, .tmp t)]) (hd : o.dst = some d) (hi : L[i]? = some (t, .slice p l c)) (hdn : d < n) (hn : (L.map (·.1)).contains d = false)
    (h : ∀ a', FR n ((d, .agg #[.int .i64 z, .string s, .slice p l c]) :: L) a' → wpList Tryz.prog OPS Q rest a' W) : wpList Tryz.prog OPS Q (o :: rest) a W := by
  refine wpList_buildTo hgd 63 _ ho (some d) hd _ ?_ (h _ (HF.put d _ hdn hn))
  rw [show ((#[(0, Operand.const (.int .i64 z)), (1, .const (.string s)), (2, .tmp t)] : Array (Nat × Operand)).map fun (i, x) => (i, a.eval x)).toList = [(0, .int .i64 z), (1, .string s), (2, a.eval (.tmp t))] by simp [Act.eval], HF.get i t _ hi]
  exact built_k z s p l c
theorem st_build0 (HF : FR n L a) (hgd : o.guard = none) (d : Nat) (z : Int) (s : ByteArray) (ho : o.op = .build 63 #[(0, .const (.int .i64 z)), (1, .const (.string s)), (2, .const (.slice none 0 0))]) (hd : o.dst = some d) (hdn : d < n) (hn : (L.map (·.1)).contains d = false)
    (h : ∀ a', FR n ((d, .agg #[.int .i64 z, .string s, .slice none 0 0]) :: L) a' → wpList Tryz.prog OPS Q rest a' W) : wpList Tryz.prog OPS Q (o :: rest) a W := by
  refine wpList_buildTo hgd 63 _ ho (some d) hd _ ?_ (h _ (HF.put d _ hdn hn))
  rw [show ((#[(0, Operand.const (.int .i64 z)), (1, .const (.string s)), (2, .const (.slice none 0 0))] : Array (Nat × Operand)).map fun (i, x) => (i, a.eval x)).toList = [(0, .int .i64 z), (1, .string s), (2, .slice none 0 0)] by simp [Act.eval]]
  exact built_k z s none 0 0
theorem st_kds (HF : FR n L a) (hgd : o.guard = none) (d : Nat) (parts : Array (Nat × Operand)) (ps : List (Nat × Value)) (ho : o.op = .buildSlice 69 21 parts) (hd : o.dst = some d) (hps : (parts.map fun (i, x) => (i, a.eval x)).toList = ps) (cs : List Value) (hdn : d < n) (hn : (L.map (·.1)).contains d = false)
    (hf : Instr.fill (fun i => some (i * 3, 3)) ((Array.range (21 * 3)).map (kzero[· % 3]!)) ps = some cs.toArray)
    (h : ∀ (g : Nat) (W' : World) (a' : Act), g < W'.heap.size → (∀ (j : Nat) (u : Value), cs[j]? = some u → W'.cell? ⟨g, j, none⟩ = some u) → Keeps (fun _ => False) W W' → FR n ((d, .slice (some ⟨g, 0, none⟩) 21 21) :: L) a' → wpList Tryz.prog OPS Q rest a' W') : wpList Tryz.prog OPS Q (o :: rest) a W :=
  wpList_kds hgd d hd parts ho cs (by rw [hps]; exact hf) (fun g W' h1 h2 h3 => h g W' _ h1 h2 h3 (HF.put d _ hdn hn))
theorem st_assign (HF : FR n L a) (hgd : o.guard = none) (d t i : Nat) (v : Value) (ho : o.op = .assign (.tmp t)) (hd : o.dst = some d) (hi : L[i]? = some (t, v)) (hdn : d < n) (hn : (L.map (·.1)).contains d = false)
    (h : ∀ a', FR n ((d, v) :: L) a' → wpList Tryz.prog OPS Q rest a' W) : wpList Tryz.prog OPS Q (o :: rest) a W := by
  refine Go.Great.wpList_readTo hgd (some d) hd v ?_ (h _ (HF.put d _ hdn hn))
  unfold execOp
  rw [ho]
  simp [HF.get i t _ hi]
end
theorem wpList_ops {P : Program} {l : List Oper} {a : Act} {w : World} {Q : Exit → Act → World → Prop} (h : ∀ OPS, wpList P OPS Q l a w) : wpList P l.toArray Q l a w := h _
theorem wpList_frame {P : Program} {OPS : Array Oper} {l : List Oper} {a : Act} {w : World} {Q : Exit → Act → World → Prop} (n : Nat) (L : List (Nat × Value)) (hF : FR n L a) (h : ∀ a', FR n L a' → wpList P OPS Q l a' w) : wpList P OPS Q l a w := h a hF

set_option maxHeartbeats 8000000 in
theorem kinds_any (w : World) : Calls Tryz.prog 34 #[] w fun e w' => ∃ g, e = .returned (.slice (some ⟨g, 0, none⟩) 21 21) ∧ Hid (KdsAt w' g ∧ Keeps (fun _ => False) w w') := by
  have hA := argA_any
  have hB := argB_any
  have hN := argN_any
  have hM := argM_any
  have hK := argK_any
  have hL := argL_any
  go_enter Tryz.func34, Tryz.ntmps34
  go_upto_region 3 with (first
    | (go_at_call 49; refine (hA _).mono ?_; clear hA; rintro e w1 ⟨rfl, kA⟩; have HKA := Hid.mk' kA; clear kA)
    | (go_at_call 50; refine (hB _).mono ?_; clear hB; rintro e w2 ⟨rfl, kB⟩; have HKB := Hid.mk' kB; clear kB)
    | (go_at_call 51; refine (hN _).mono ?_; clear hN; rintro e w5 ⟨rfl, kN⟩; have HKN := Hid.mk' kN; clear kN)
    | (go_at_call 52; refine (hM _).mono ?_; clear hM; rintro e w6 ⟨rfl, kM⟩; have HKM := Hid.mk' kM; clear kM)
    | (go_at_call 53; refine (hK _).mono ?_; clear hK; rintro e w7 ⟨rfl, kK⟩; have HKK := Hid.mk' kK; clear kK)
    | (go_at_call 54; refine (hL _).mono ?_; clear hL; rintro e w8 ⟨rfl, kL⟩; have HKL := Hid.mk' kL; clear kL)
    | (refine wpList_alloc_d rfl 1 rfl rfl w2.heap.size (by simp only [World.size_alloc]) ?_)
    | (refine wpList_alloc_d rfl 2 rfl rfl (w2.heap.size + 1) (by simp only [World.size_alloc]) ?_)
    | (refine wpList_alloc_d rfl 3 rfl rfl w8.heap.size (by simp only [World.size_alloc]) ?_)
    | (refine wpList_alloc_d rfl 4 rfl rfl (w8.heap.size + 1) (by simp only [World.size_alloc]) ?_)
    | (refine wpList_alloc_d rfl 5 rfl rfl (w8.heap.size + 2) (by simp only [World.size_alloc]) ?_)
    | (refine wpList_alloc_d rfl 6 rfl rfl (w8.heap.size + 3) (by simp only [World.size_alloc]) ?_)
    | (refine wpList_store_a rfl (.tmp 1) (.tmp 7) rfl _ .A (by rfl) (by rfl) ((two_blocks w2 _ _).1) ?_; intro w3 hb hk; have H3 := Hid.mk' (And.intro hb (And.intro (hk.at (two_blocks w2 _ _).2 (by omega)) ((((Keeps.refl (fun _ => False) w2).alloc _).alloc _).then hk (fun k e => Or.inr (by omega))))); clear hb hk)
    | (refine wpList_store_a rfl (.tmp 2) (.tmp 8) rfl _ .B (by rfl) (by rfl) (H3.out.2.1) ?_; intro w4 hb hk; have H4 := Hid.mk' (And.intro (hk.at H3.out.1 (by omega)) (And.intro hb (H3.out.2.2.then hk (fun k e => Or.inr (by omega))))); clear hb hk H3)
    | (refine wpList_store_a rfl (.tmp 3) (.tmp 9) rfl _ .N (by rfl) (by rfl) ((four_blocks w8 _ _ _ _).1) ?_; intro w9 hb hk; have H9 := Hid.mk' (And.intro hb (And.intro (hk.at (four_blocks w8 _ _ _ _).2.1 (by omega)) (And.intro (hk.at (four_blocks w8 _ _ _ _).2.2.1 (by omega)) (And.intro (hk.at (four_blocks w8 _ _ _ _).2.2.2 (by omega)) ((((((Keeps.refl (fun _ => False) w8).alloc _).alloc _).alloc _).alloc _).then hk (fun k e => Or.inr (by omega))))))); clear hb hk)
    | (refine wpList_store_a rfl (.tmp 4) (.tmp 10) rfl _ .M (by rfl) (by rfl) (H9.out.2.1) ?_; intro w10 hb hk; have H10 := Hid.mk' (And.intro (hk.at H9.out.1 (by omega)) (And.intro hb (And.intro (hk.at H9.out.2.2.1 (by omega)) (And.intro (hk.at H9.out.2.2.2.1 (by omega)) (H9.out.2.2.2.2.then hk (fun k e => Or.inr (by omega))))))); clear hb hk H9)
    | (refine wpList_store_a rfl (.tmp 5) (.tmp 11) rfl _ .K (by rfl) (by rfl) (H10.out.2.2.1) ?_; intro w11 hb hk; have H11 := Hid.mk' (And.intro (hk.at H10.out.1 (by omega)) (And.intro (hk.at H10.out.2.1 (by omega)) (And.intro hb (And.intro (hk.at H10.out.2.2.2.1 (by omega)) (H10.out.2.2.2.2.then hk (fun k e => Or.inr (by omega))))))); clear hb hk H10)
    | (refine wpList_store_a rfl (.tmp 6) (.tmp 12) rfl _ .L (by rfl) (by rfl) (H11.out.2.2.2.1) ?_; intro w12 hb hk; have H12 := Hid.mk' (And.intro (hk.at H11.out.1 (by omega)) (And.intro (hk.at H11.out.2.1 (by omega)) (And.intro (hk.at H11.out.2.2.1 (by omega)) (And.intro hb (H11.out.2.2.2.2.then hk (fun k e => Or.inr (by omega))))))); clear hb hk H11; have HT := Hid.mk' ((HKN.out.trans HKM.out).trans ((HKK.out.trans HKL.out).trans H12.out.2.2.2.2)); have HV := Hid.mk' (VB.mk (HT.out.at H4.out.1 id) (HT.out.at H4.out.2.1 id) H12.out.1 H12.out.2.1 H12.out.2.2.1 H12.out.2.2.2.1); have HB := Hid.mk' ((HKA.out.trans HKB.out).trans (H4.out.2.2.trans HT.out)); clear HT H12 H4 HKA HKB HKN HKM HKK HKL))
  simp only [List.append_eq, List.cons_append, List.nil_append]
  refine wp_region_lit ?_
  refine wpList_ops fun OPS => ?_
  refine wpList_frame 81 [(1, .pointer (some ⟨w2.heap.size, 0, none⟩)), (2, .pointer (some ⟨w2.heap.size + 1, 0, none⟩)), (3, .pointer (some ⟨w8.heap.size, 0, none⟩)), (4, .pointer (some ⟨w8.heap.size + 1, 0, none⟩)), (5, .pointer (some ⟨w8.heap.size + 2, 0, none⟩)), (6, .pointer (some ⟨w8.heap.size + 3, 0, none⟩))] ⟨rfl, rfl, fun i t v hi => ?_⟩ ?_
  · match i, hi with
    | 0, hi => cases Option.some.inj hi; rfl
    | 1, hi => cases Option.some.inj hi; rfl
    | 2, hi => cases Option.some.inj hi; rfl
    | 3, hi => cases Option.some.inj hi; rfl
    | 4, hi => cases Option.some.inj hi; rfl
    | 5, hi => cases Option.some.inj hi; rfl
    | i + 6, hi => exact absurd hi (by simp)
  intro a0 F
  refine st_load F rfl 3 13 2 w8.heap.size .N rfl rfl rfl HV.out.n (by decide) (by rfl) fun a0 F => ?_
  refine st_load F rfl 4 14 4 (w8.heap.size + 1) .M rfl rfl rfl HV.out.m (by decide) (by rfl) fun a0 F => ?_
  refine st_load F rfl 5 15 6 (w8.heap.size + 2) .K rfl rfl rfl HV.out.k (by decide) (by rfl) fun a0 F => ?_
  refine st_args3 F rfl 16 13 2 14 1 15 0 .N .M .K rfl rfl rfl rfl rfl (by decide) (by rfl) fun g1 x1 a0 ha hk F => ?_
  replace HV := Hid.mk' (HV.out.keep hk)
  have HA1 := Hid.mk' (And.intro ha hk)
  clear ha hk
  refine st_build F rfl 17 16 0 1 ⟨#[109, 107, 102, 115]⟩ _ _ _ rfl rfl rfl (by decide) (by rfl) fun a0 F => ?_
  refine st_load F rfl 3 18 7 w8.heap.size .N rfl rfl rfl HV.out.n (by decide) (by rfl) fun a0 F => ?_
  refine st_load F rfl 6 19 11 (w8.heap.size + 3) .L rfl rfl rfl HV.out.l (by decide) (by rfl) fun a0 F => ?_
  refine st_args2 F rfl 20 18 1 19 0 .N .L rfl rfl rfl rfl (by decide) (by rfl) fun g2 x2 a0 ha hk F => ?_
  replace HV := Hid.mk' (HV.out.keep hk)
  have HA2 := Hid.mk' (And.intro ha hk)
  clear ha hk
  refine st_build F rfl 21 20 0 2 ⟨#[109, 111, 117, 110, 116]⟩ _ _ _ rfl rfl rfl (by decide) (by rfl) fun a0 F => ?_
  refine st_build0 F rfl 22 3 ⟨#[117, 110, 109, 111, 117, 110, 116]⟩ rfl rfl (by decide) (by rfl) fun a0 F => ?_
  refine st_load F rfl 1 23 10 w2.heap.size .A rfl rfl rfl HV.out.a (by decide) (by rfl) fun a0 F => ?_
  refine st_args1 F rfl 24 23 0 .A rfl rfl rfl (by decide) (by rfl) fun g4 x4 a0 ha hk F => ?_
  replace HV := Hid.mk' (HV.out.keep hk)
  have HA4 := Hid.mk' (And.intro ha hk)
  clear ha hk
  refine st_build F rfl 25 24 0 4 ⟨#[99, 114, 101, 97, 116, 101]⟩ _ _ _ rfl rfl rfl (by decide) (by rfl) fun a0 F => ?_
  refine st_load F rfl 1 26 13 w2.heap.size .A rfl rfl rfl HV.out.a (by decide) (by rfl) fun a0 F => ?_
  refine st_args1 F rfl 27 26 0 .A rfl rfl rfl (by decide) (by rfl) fun g5 x5 a0 ha hk F => ?_
  replace HV := Hid.mk' (HV.out.keep hk)
  have HA5 := Hid.mk' (And.intro ha hk)
  clear ha hk
  refine st_build F rfl 28 27 0 5 ⟨#[109, 107, 100, 105, 114]⟩ _ _ _ rfl rfl rfl (by decide) (by rfl) fun a0 F => ?_
  refine st_load F rfl 1 29 16 w2.heap.size .A rfl rfl rfl HV.out.a (by decide) (by rfl) fun a0 F => ?_
  refine st_args1 F rfl 30 29 0 .A rfl rfl rfl (by decide) (by rfl) fun g6 x6 a0 ha hk F => ?_
  replace HV := Hid.mk' (HV.out.keep hk)
  have HA6 := Hid.mk' (And.intro ha hk)
  clear ha hk
  refine st_build F rfl 31 30 0 6 ⟨#[117, 110, 108, 105, 110, 107]⟩ _ _ _ rfl rfl rfl (by decide) (by rfl) fun a0 F => ?_
  refine st_load F rfl 1 32 19 w2.heap.size .A rfl rfl rfl HV.out.a (by decide) (by rfl) fun a0 F => ?_
  refine st_args1 F rfl 33 32 0 .A rfl rfl rfl (by decide) (by rfl) fun g7 x7 a0 ha hk F => ?_
  replace HV := Hid.mk' (HV.out.keep hk)
  have HA7 := Hid.mk' (And.intro ha hk)
  clear ha hk
  refine st_build F rfl 34 33 0 7 ⟨#[114, 109, 100, 105, 114]⟩ _ _ _ rfl rfl rfl (by decide) (by rfl) fun a0 F => ?_
  refine st_load F rfl 1 35 22 w2.heap.size .A rfl rfl rfl HV.out.a (by decide) (by rfl) fun a0 F => ?_
  refine st_load F rfl 2 36 24 (w2.heap.size + 1) .B rfl rfl rfl HV.out.b (by decide) (by rfl) fun a0 F => ?_
  refine st_args2 F rfl 37 35 1 36 0 .A .B rfl rfl rfl rfl (by decide) (by rfl) fun g8 x8 a0 ha hk F => ?_
  replace HV := Hid.mk' (HV.out.keep hk)
  have HA8 := Hid.mk' (And.intro ha hk)
  clear ha hk
  refine st_build F rfl 38 37 0 8 ⟨#[114, 101, 110, 97, 109, 101]⟩ _ _ _ rfl rfl rfl (by decide) (by rfl) fun a0 F => ?_
  refine st_load F rfl 1 39 26 w2.heap.size .A rfl rfl rfl HV.out.a (by decide) (by rfl) fun a0 F => ?_
  refine st_load F rfl 2 40 28 (w2.heap.size + 1) .B rfl rfl rfl HV.out.b (by decide) (by rfl) fun a0 F => ?_
  refine st_args2 F rfl 41 39 1 40 0 .A .B rfl rfl rfl rfl (by decide) (by rfl) fun g9 x9 a0 ha hk F => ?_
  replace HV := Hid.mk' (HV.out.keep hk)
  have HA9 := Hid.mk' (And.intro ha hk)
  clear ha hk
  refine st_build F rfl 42 41 0 9 ⟨#[108, 105, 110, 107]⟩ _ _ _ rfl rfl rfl (by decide) (by rfl) fun a0 F => ?_
  refine st_load F rfl 1 43 30 w2.heap.size .A rfl rfl rfl HV.out.a (by decide) (by rfl) fun a0 F => ?_
  refine st_load F rfl 3 44 33 w8.heap.size .N rfl rfl rfl HV.out.n (by decide) (by rfl) fun a0 F => ?_
  refine st_load F rfl 4 45 35 (w8.heap.size + 1) .M rfl rfl rfl HV.out.m (by decide) (by rfl) fun a0 F => ?_
  refine st_args3 F rfl 46 43 2 44 1 45 0 .A .N .M rfl rfl rfl rfl rfl (by decide) (by rfl) fun g10 x10 a0 ha hk F => ?_
  replace HV := Hid.mk' (HV.out.keep hk)
  have HA10 := Hid.mk' (And.intro ha hk)
  clear ha hk
  refine st_build F rfl 47 46 0 10 ⟨#[114, 101, 97, 100]⟩ _ _ _ rfl rfl rfl (by decide) (by rfl) fun a0 F => ?_
  refine st_load F rfl 1 48 35 w2.heap.size .A rfl rfl rfl HV.out.a (by decide) (by rfl) fun a0 F => ?_
  refine st_load F rfl 3 49 38 w8.heap.size .N rfl rfl rfl HV.out.n (by decide) (by rfl) fun a0 F => ?_
  refine st_load F rfl 2 50 38 (w2.heap.size + 1) .B rfl rfl rfl HV.out.b (by decide) (by rfl) fun a0 F => ?_
  refine st_args3 F rfl 51 48 2 49 1 50 0 .A .N .B rfl rfl rfl rfl rfl (by decide) (by rfl) fun g11 x11 a0 ha hk F => ?_
  replace HV := Hid.mk' (HV.out.keep hk)
  have HA11 := Hid.mk' (And.intro ha hk)
  clear ha hk
  refine st_build F rfl 52 51 0 11 ⟨#[119, 114, 105, 116, 101]⟩ _ _ _ rfl rfl rfl (by decide) (by rfl) fun a0 F => ?_
  refine st_load F rfl 1 53 40 w2.heap.size .A rfl rfl rfl HV.out.a (by decide) (by rfl) fun a0 F => ?_
  refine st_load F rfl 3 54 43 w8.heap.size .N rfl rfl rfl HV.out.n (by decide) (by rfl) fun a0 F => ?_
  refine st_args2 F rfl 55 53 1 54 0 .A .N rfl rfl rfl rfl (by decide) (by rfl) fun g12 x12 a0 ha hk F => ?_
  replace HV := Hid.mk' (HV.out.keep hk)
  have HA12 := Hid.mk' (And.intro ha hk)
  clear ha hk
  refine st_build F rfl 56 55 0 12 ⟨#[116, 114, 117, 110, 99, 97, 116, 101]⟩ _ _ _ rfl rfl rfl (by decide) (by rfl) fun a0 F => ?_
  refine st_load F rfl 1 57 44 w2.heap.size .A rfl rfl rfl HV.out.a (by decide) (by rfl) fun a0 F => ?_
  refine st_args1 F rfl 58 57 0 .A rfl rfl rfl (by decide) (by rfl) fun g13 x13 a0 ha hk F => ?_
  replace HV := Hid.mk' (HV.out.keep hk)
  have HA13 := Hid.mk' (And.intro ha hk)
  clear ha hk
  refine st_build F rfl 59 58 0 13 ⟨#[115, 116, 97, 116]⟩ _ _ _ rfl rfl rfl (by decide) (by rfl) fun a0 F => ?_
  refine st_load F rfl 1 60 47 w2.heap.size .A rfl rfl rfl HV.out.a (by decide) (by rfl) fun a0 F => ?_
  refine st_args1 F rfl 61 60 0 .A rfl rfl rfl (by decide) (by rfl) fun g14 x14 a0 ha hk F => ?_
  replace HV := Hid.mk' (HV.out.keep hk)
  have HA14 := Hid.mk' (And.intro ha hk)
  clear ha hk
  refine st_build F rfl 62 61 0 14 ⟨#[108, 105, 115, 116]⟩ _ _ _ rfl rfl rfl (by decide) (by rfl) fun a0 F => ?_
  refine st_build0 F rfl 63 15 ⟨#[119, 97, 108, 107]⟩ rfl rfl (by decide) (by rfl) fun a0 F => ?_
  refine st_build0 F rfl 64 16 ⟨#[105, 110, 102, 111]⟩ rfl rfl (by decide) (by rfl) fun a0 F => ?_
  refine st_load F rfl 3 65 54 w8.heap.size .N rfl rfl rfl HV.out.n (by decide) (by rfl) fun a0 F => ?_
  refine st_args1 F rfl 66 65 0 .N rfl rfl rfl (by decide) (by rfl) fun g17 x17 a0 ha hk F => ?_
  replace HV := Hid.mk' (HV.out.keep hk)
  have HA17 := Hid.mk' (And.intro ha hk)
  clear ha hk
  refine st_build F rfl 67 66 0 17 ⟨#[97, 114, 109]⟩ _ _ _ rfl rfl rfl (by decide) (by rfl) fun a0 F => ?_
  refine st_load F rfl 6 68 60 (w8.heap.size + 3) .L rfl rfl rfl HV.out.l (by decide) (by rfl) fun a0 F => ?_
  refine st_args1 F rfl 69 68 0 .L rfl rfl rfl (by decide) (by rfl) fun g18 x18 a0 ha hk F => ?_
  replace HV := Hid.mk' (HV.out.keep hk)
  have HA18 := Hid.mk' (And.intro ha hk)
  clear ha hk
  refine st_build F rfl 70 69 0 18 ⟨#[99, 114, 97, 115, 104]⟩ _ _ _ rfl rfl rfl (by decide) (by rfl) fun a0 F => ?_
  refine st_load F rfl 3 71 60 w8.heap.size .N rfl rfl rfl HV.out.n (by decide) (by rfl) fun a0 F => ?_
  refine st_load F rfl 4 72 62 (w8.heap.size + 1) .M rfl rfl rfl HV.out.m (by decide) (by rfl) fun a0 F => ?_
  refine st_args2 F rfl 73 71 1 72 0 .N .M rfl rfl rfl rfl (by decide) (by rfl) fun g19 x19 a0 ha hk F => ?_
  replace HV := Hid.mk' (HV.out.keep hk)
  have HA19 := Hid.mk' (And.intro ha hk)
  clear ha hk
  refine st_build F rfl 74 73 0 19 ⟨#[112, 111, 107, 101]⟩ _ _ _ rfl rfl rfl (by decide) (by rfl) fun a0 F => ?_
  refine st_build0 F rfl 75 20 ⟨#[115, 116, 97, 116, 101]⟩ rfl rfl (by decide) (by rfl) fun a0 F => ?_
  refine st_load F rfl 3 76 65 w8.heap.size .N rfl rfl rfl HV.out.n (by decide) (by rfl) fun a0 F => ?_
  refine st_load F rfl 6 77 69 (w8.heap.size + 3) .L rfl rfl rfl HV.out.l (by decide) (by rfl) fun a0 F => ?_
  refine st_args2 F rfl 78 76 1 77 0 .N .L rfl rfl rfl rfl (by decide) (by rfl) fun g21 x21 a0 ha hk F => ?_
  replace HV := Hid.mk' (HV.out.keep hk)
  have HA21 := Hid.mk' (And.intro ha hk)
  clear ha hk
  refine st_build F rfl 79 78 0 21 ⟨#[115, 99, 97, 110]⟩ _ _ _ rfl rfl rfl (by decide) (by rfl) fun a0 F => ?_
  refine st_kds F rfl 80 _ [(0, .agg #[.int .i64 1, .string ⟨#[109, 107, 102, 115]⟩, .slice (some ⟨g1, 0, none⟩) 3 3]), (1, .agg #[.int .i64 2, .string ⟨#[109, 111, 117, 110, 116]⟩, .slice (some ⟨g2, 0, none⟩) 2 2]), (2, .agg #[.int .i64 3, .string ⟨#[117, 110, 109, 111, 117, 110, 116]⟩, .slice none 0 0]), (3, .agg #[.int .i64 4, .string ⟨#[99, 114, 101, 97, 116, 101]⟩, .slice (some ⟨g4, 0, none⟩) 1 1]), (4, .agg #[.int .i64 5, .string ⟨#[109, 107, 100, 105, 114]⟩, .slice (some ⟨g5, 0, none⟩) 1 1]), (5, .agg #[.int .i64 6, .string ⟨#[117, 110, 108, 105, 110, 107]⟩, .slice (some ⟨g6, 0, none⟩) 1 1]), (6, .agg #[.int .i64 7, .string ⟨#[114, 109, 100, 105, 114]⟩, .slice (some ⟨g7, 0, none⟩) 1 1]), (7, .agg #[.int .i64 8, .string ⟨#[114, 101, 110, 97, 109, 101]⟩, .slice (some ⟨g8, 0, none⟩) 2 2]), (8, .agg #[.int .i64 9, .string ⟨#[108, 105, 110, 107]⟩, .slice (some ⟨g9, 0, none⟩) 2 2]), (9, .agg #[.int .i64 10, .string ⟨#[114, 101, 97, 100]⟩, .slice (some ⟨g10, 0, none⟩) 3 3]), (10, .agg #[.int .i64 11, .string ⟨#[119, 114, 105, 116, 101]⟩, .slice (some ⟨g11, 0, none⟩) 3 3]), (11, .agg #[.int .i64 12, .string ⟨#[116, 114, 117, 110, 99, 97, 116, 101]⟩, .slice (some ⟨g12, 0, none⟩) 2 2]), (12, .agg #[.int .i64 13, .string ⟨#[115, 116, 97, 116]⟩, .slice (some ⟨g13, 0, none⟩) 1 1]), (13, .agg #[.int .i64 14, .string ⟨#[108, 105, 115, 116]⟩, .slice (some ⟨g14, 0, none⟩) 1 1]), (14, .agg #[.int .i64 15, .string ⟨#[119, 97, 108, 107]⟩, .slice none 0 0]), (15, .agg #[.int .i64 16, .string ⟨#[105, 110, 102, 111]⟩, .slice none 0 0]), (16, .agg #[.int .i64 17, .string ⟨#[97, 114, 109]⟩, .slice (some ⟨g17, 0, none⟩) 1 1]), (17, .agg #[.int .i64 18, .string ⟨#[99, 114, 97, 115, 104]⟩, .slice (some ⟨g18, 0, none⟩) 1 1]), (18, .agg #[.int .i64 19, .string ⟨#[112, 111, 107, 101]⟩, .slice (some ⟨g19, 0, none⟩) 2 2]), (19, .agg #[.int .i64 20, .string ⟨#[115, 116, 97, 116, 101]⟩, .slice none 0 0]), (20, .agg #[.int .i64 21, .string ⟨#[115, 99, 97, 110]⟩, .slice (some ⟨g21, 0, none⟩) 2 2])] rfl rfl (by
    rw [show (Array.map (fun x : Nat × Operand => match x with | (i, x) => (i, a0.eval x)) _).toList = [(0, a0.eval (.tmp 17)), (1, a0.eval (.tmp 21)), (2, a0.eval (.tmp 22)), (3, a0.eval (.tmp 25)), (4, a0.eval (.tmp 28)), (5, a0.eval (.tmp 31)), (6, a0.eval (.tmp 34)), (7, a0.eval (.tmp 38)), (8, a0.eval (.tmp 42)), (9, a0.eval (.tmp 47)), (10, a0.eval (.tmp 52)), (11, a0.eval (.tmp 56)), (12, a0.eval (.tmp 59)), (13, a0.eval (.tmp 62)), (14, a0.eval (.tmp 63)), (15, a0.eval (.tmp 64)), (16, a0.eval (.tmp 67)), (17, a0.eval (.tmp 70)), (18, a0.eval (.tmp 74)), (19, a0.eval (.tmp 75)), (20, a0.eval (.tmp 79))] by simp]
    rw [F.get 62 17 _ rfl, F.get 58 21 _ rfl, F.get 57 22 _ rfl, F.get 54 25 _ rfl, F.get 51 28 _ rfl, F.get 48 31 _ rfl, F.get 45 34 _ rfl, F.get 41 38 _ rfl, F.get 37 42 _ rfl, F.get 32 47 _ rfl, F.get 27 52 _ rfl, F.get 23 56 _ rfl, F.get 20 59 _ rfl, F.get 17 62 _ rfl, F.get 16 63 _ rfl, F.get 15 64 _ rfl, F.get 12 67 _ rfl, F.get 9 70 _ rfl, F.get 5 74 _ rfl, F.get 4 75 _ rfl, F.get 0 79 _ rfl]) [.int .i64 1, .string ⟨#[109, 107, 102, 115]⟩, .slice (some ⟨g1, 0, none⟩) 3 3, .int .i64 2, .string ⟨#[109, 111, 117, 110, 116]⟩, .slice (some ⟨g2, 0, none⟩) 2 2, .int .i64 3, .string ⟨#[117, 110, 109, 111, 117, 110, 116]⟩, .slice none 0 0, .int .i64 4, .string ⟨#[99, 114, 101, 97, 116, 101]⟩, .slice (some ⟨g4, 0, none⟩) 1 1, .int .i64 5, .string ⟨#[109, 107, 100, 105, 114]⟩, .slice (some ⟨g5, 0, none⟩) 1 1, .int .i64 6, .string ⟨#[117, 110, 108, 105, 110, 107]⟩, .slice (some ⟨g6, 0, none⟩) 1 1, .int .i64 7, .string ⟨#[114, 109, 100, 105, 114]⟩, .slice (some ⟨g7, 0, none⟩) 1 1, .int .i64 8, .string ⟨#[114, 101, 110, 97, 109, 101]⟩, .slice (some ⟨g8, 0, none⟩) 2 2, .int .i64 9, .string ⟨#[108, 105, 110, 107]⟩, .slice (some ⟨g9, 0, none⟩) 2 2, .int .i64 10, .string ⟨#[114, 101, 97, 100]⟩, .slice (some ⟨g10, 0, none⟩) 3 3, .int .i64 11, .string ⟨#[119, 114, 105, 116, 101]⟩, .slice (some ⟨g11, 0, none⟩) 3 3, .int .i64 12, .string ⟨#[116, 114, 117, 110, 99, 97, 116, 101]⟩, .slice (some ⟨g12, 0, none⟩) 2 2, .int .i64 13, .string ⟨#[115, 116, 97, 116]⟩, .slice (some ⟨g13, 0, none⟩) 1 1, .int .i64 14, .string ⟨#[108, 105, 115, 116]⟩, .slice (some ⟨g14, 0, none⟩) 1 1, .int .i64 15, .string ⟨#[119, 97, 108, 107]⟩, .slice none 0 0, .int .i64 16, .string ⟨#[105, 110, 102, 111]⟩, .slice none 0 0, .int .i64 17, .string ⟨#[97, 114, 109]⟩, .slice (some ⟨g17, 0, none⟩) 1 1, .int .i64 18, .string ⟨#[99, 114, 97, 115, 104]⟩, .slice (some ⟨g18, 0, none⟩) 1 1, .int .i64 19, .string ⟨#[112, 111, 107, 101]⟩, .slice (some ⟨g19, 0, none⟩) 2 2, .int .i64 20, .string ⟨#[115, 116, 97, 116, 101]⟩, .slice none 0 0, .int .i64 21, .string ⟨#[115, 99, 97, 110]⟩, .slice (some ⟨g21, 0, none⟩) 2 2] (by decide) (by rfl) (by kernel_rfl) fun g W' a0 hg hc hk F => ?_
  refine st_assign F rfl 0 80 0 _ rfl rfl rfl (by decide) (by rfl) fun a0 F => ?_
  refine wpList_nil ?_
  go_wp2
  have hr := results_tmp (fn := Tryz.f34) (t := 0) rfl a0.tmps Tryz.prog W'
  rw [show a0.tmps.getD 0 undef = .slice (some ⟨g, 0, none⟩) 21 21 by simpa [Act.eval] using F.get 0 0 _ rfl] at hr
  refine bodyPost_ret hr F.defers ?_
  obtain ⟨hg, hc, hk⟩ := And.intro hg (And.intro hc hk)
  have y21 := HA21.out.2.trans hk
  have y19 := HA19.out.2.trans y21
  have y18 := HA18.out.2.trans y19
  have y17 := HA17.out.2.trans y18
  have y14 := HA14.out.2.trans y17
  have y13 := HA13.out.2.trans y14
  have y12 := HA12.out.2.trans y13
  have y11 := HA11.out.2.trans y12
  have y10 := HA10.out.2.trans y11
  have y9 := HA9.out.2.trans y10
  have y8 := HA8.out.2.trans y9
  have y7 := HA7.out.2.trans y8
  have y6 := HA6.out.2.trans y7
  have y5 := HA5.out.2.trans y6
  have y4 := HA4.out.2.trans y5
  have y2 := HA2.out.2.trans y4
  have y1 := HA1.out.2.trans y2
  refine ⟨g, rfl, ⟨hg, ?_⟩, HB.out.trans y1⟩
  intro i k hi
  match i, hi with
  | 0, hi =>
    have e : k = ⟨1, ⟨#[109, 107, 102, 115]⟩, [.N, .M, .K]⟩ := (Option.some.inj hi).symm
    subst e
    exact ⟨hc 0 _ rfl, hc 1 _ rfl, _, hc 2 _ rfl, HA1.out.1.keep y2⟩
  | 1, hi =>
    have e : k = ⟨2, ⟨#[109, 111, 117, 110, 116]⟩, [.N, .L]⟩ := (Option.some.inj hi).symm
    subst e
    exact ⟨hc 3 _ rfl, hc 4 _ rfl, _, hc 5 _ rfl, HA2.out.1.keep y4⟩
  | 2, hi =>
    have e : k = ⟨3, ⟨#[117, 110, 109, 111, 117, 110, 116]⟩, []⟩ := (Option.some.inj hi).symm
    subst e
    exact ⟨hc 6 _ rfl, hc 7 _ rfl, _, hc 8 _ rfl, ArgsAt.nil _⟩
  | 3, hi =>
    have e : k = ⟨4, ⟨#[99, 114, 101, 97, 116, 101]⟩, [.A]⟩ := (Option.some.inj hi).symm
    subst e
    exact ⟨hc 9 _ rfl, hc 10 _ rfl, _, hc 11 _ rfl, HA4.out.1.keep y5⟩
  | 4, hi =>
    have e : k = ⟨5, ⟨#[109, 107, 100, 105, 114]⟩, [.A]⟩ := (Option.some.inj hi).symm
    subst e
    exact ⟨hc 12 _ rfl, hc 13 _ rfl, _, hc 14 _ rfl, HA5.out.1.keep y6⟩
  | 5, hi =>
    have e : k = ⟨6, ⟨#[117, 110, 108, 105, 110, 107]⟩, [.A]⟩ := (Option.some.inj hi).symm
    subst e
    exact ⟨hc 15 _ rfl, hc 16 _ rfl, _, hc 17 _ rfl, HA6.out.1.keep y7⟩
  | 6, hi =>
    have e : k = ⟨7, ⟨#[114, 109, 100, 105, 114]⟩, [.A]⟩ := (Option.some.inj hi).symm
    subst e
    exact ⟨hc 18 _ rfl, hc 19 _ rfl, _, hc 20 _ rfl, HA7.out.1.keep y8⟩
  | 7, hi =>
    have e : k = ⟨8, ⟨#[114, 101, 110, 97, 109, 101]⟩, [.A, .B]⟩ := (Option.some.inj hi).symm
    subst e
    exact ⟨hc 21 _ rfl, hc 22 _ rfl, _, hc 23 _ rfl, HA8.out.1.keep y9⟩
  | 8, hi =>
    have e : k = ⟨9, ⟨#[108, 105, 110, 107]⟩, [.A, .B]⟩ := (Option.some.inj hi).symm
    subst e
    exact ⟨hc 24 _ rfl, hc 25 _ rfl, _, hc 26 _ rfl, HA9.out.1.keep y10⟩
  | 9, hi =>
    have e : k = ⟨10, ⟨#[114, 101, 97, 100]⟩, [.A, .N, .M]⟩ := (Option.some.inj hi).symm
    subst e
    exact ⟨hc 27 _ rfl, hc 28 _ rfl, _, hc 29 _ rfl, HA10.out.1.keep y11⟩
  | 10, hi =>
    have e : k = ⟨11, ⟨#[119, 114, 105, 116, 101]⟩, [.A, .N, .B]⟩ := (Option.some.inj hi).symm
    subst e
    exact ⟨hc 30 _ rfl, hc 31 _ rfl, _, hc 32 _ rfl, HA11.out.1.keep y12⟩
  | 11, hi =>
    have e : k = ⟨12, ⟨#[116, 114, 117, 110, 99, 97, 116, 101]⟩, [.A, .N]⟩ := (Option.some.inj hi).symm
    subst e
    exact ⟨hc 33 _ rfl, hc 34 _ rfl, _, hc 35 _ rfl, HA12.out.1.keep y13⟩
  | 12, hi =>
    have e : k = ⟨13, ⟨#[115, 116, 97, 116]⟩, [.A]⟩ := (Option.some.inj hi).symm
    subst e
    exact ⟨hc 36 _ rfl, hc 37 _ rfl, _, hc 38 _ rfl, HA13.out.1.keep y14⟩
  | 13, hi =>
    have e : k = ⟨14, ⟨#[108, 105, 115, 116]⟩, [.A]⟩ := (Option.some.inj hi).symm
    subst e
    exact ⟨hc 39 _ rfl, hc 40 _ rfl, _, hc 41 _ rfl, HA14.out.1.keep y17⟩
  | 14, hi =>
    have e : k = ⟨15, ⟨#[119, 97, 108, 107]⟩, []⟩ := (Option.some.inj hi).symm
    subst e
    exact ⟨hc 42 _ rfl, hc 43 _ rfl, _, hc 44 _ rfl, ArgsAt.nil _⟩
  | 15, hi =>
    have e : k = ⟨16, ⟨#[105, 110, 102, 111]⟩, []⟩ := (Option.some.inj hi).symm
    subst e
    exact ⟨hc 45 _ rfl, hc 46 _ rfl, _, hc 47 _ rfl, ArgsAt.nil _⟩
  | 16, hi =>
    have e : k = ⟨17, ⟨#[97, 114, 109]⟩, [.N]⟩ := (Option.some.inj hi).symm
    subst e
    exact ⟨hc 48 _ rfl, hc 49 _ rfl, _, hc 50 _ rfl, HA17.out.1.keep y18⟩
  | 17, hi =>
    have e : k = ⟨18, ⟨#[99, 114, 97, 115, 104]⟩, [.L]⟩ := (Option.some.inj hi).symm
    subst e
    exact ⟨hc 51 _ rfl, hc 52 _ rfl, _, hc 53 _ rfl, HA18.out.1.keep y19⟩
  | 18, hi =>
    have e : k = ⟨19, ⟨#[112, 111, 107, 101]⟩, [.N, .M]⟩ := (Option.some.inj hi).symm
    subst e
    exact ⟨hc 54 _ rfl, hc 55 _ rfl, _, hc 56 _ rfl, HA19.out.1.keep y21⟩
  | 19, hi =>
    have e : k = ⟨20, ⟨#[115, 116, 97, 116, 101]⟩, []⟩ := (Option.some.inj hi).symm
    subst e
    exact ⟨hc 57 _ rfl, hc 58 _ rfl, _, hc 59 _ rfl, ArgsAt.nil _⟩
  | 20, hi =>
    have e : k = ⟨21, ⟨#[115, 99, 97, 110]⟩, [.N, .L]⟩ := (Option.some.inj hi).symm
    subst e
    exact ⟨hc 60 _ rfl, hc 61 _ rfl, _, hc 62 _ rfl, HA21.out.1.keep hk⟩
  | n + 21, hi =>
    have : kds.length = 21 := rfl
    rw [List.getElem?_eq_none (by omega)] at hi
    cases hi
end Go.Proofs.YtdlhdompemkjfaaGreatDoor
