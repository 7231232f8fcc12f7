import Derived.Test.YtpgabmfpffaajaaDoorK07
import Derived.Test.YtpgabmfpffaajaaDoorK08
import Derived.Test.YtpgabmfpffaajaaDoorK09
import Derived.Lib.SmallJoins
import Derived.Lib.ItoaLen
import Derived.Deep.WholeRow
import Derived.Deep.MidRow
import Derived.Deep.RegionHeld3
import Derived.Great.BuildSlice
import Derived.Great.Walk
import Derived.Deep.Cut
import Derived.Deep.DeepCutAuto
import Derived.Deep.CutRange
namespace Go.Proofs.YtpgabmfpffaajaaDoor
open Go.RowKit Go.Maps
set_option maxRecDepth 100000

/-! What RunStates wants of memory. -/
theorem var_keep {a b : World} (k : Keeps (fun _ => False) a b) {n : String} {x : Array Value} (h : a.var? Tryd.prog n = some x) : b.var? Tryd.prog n = some x := by
  unfold World.var? at h ⊢
  cases hg : Tryd.prog.globalNamed n with
  | none => rw [hg] at h; cases h
  | some g =>
    rw [hg] at h
    simp only [Option.bind_some] at h ⊢
    cases hb : a.heap[g]? with
    | none => rw [hb] at h; cases h
    | some o => rw [k.at hb id]; rw [hb] at h; exact h
theorem Keeps.grow (w : World) (k : Nat) (os : Array Obj) : Keeps (fun _ => False) w (Go.Sort.grow (w.drewN k) os) := by
  refine ⟨rfl, rfl, rfl, by simp [Go.Sort.grow, World.drewN], fun i hi _ => ?_⟩
  show (w.heap ++ os)[i]? = w.heap[i]?
  rw [Array.getElem?_append_left hi]
def Tab (w : World) : Prop := Lib.TabIs Tryd.prog w "internal/strconv.uint64pow10" .u64 Lib.pow10Tab
theorem Tab.keep {a b : World} (h : Tab a) (k : Keeps (fun _ => False) a b) : Tab b := var_keep k h
def In64 (n : Int) : Prop := -9223372036854775808 ≤ n ∧ n ≤ 9223372036854775807
def ints (l : List Int) : List Value := l.map (Value.int .i64)
theorem new_cell (W : World) (cs : Array Value) (t : TypeId) (j : Nat) (v : Value) (h : cs[j]? = some v) : (W.alloc (.cells cs t)).cell? ⟨W.heap.size, j, none⟩ = some v := by
  have h2 := heap_last W (.cells cs t)
  simp only [World.cell?, h2]; exact h
theorem takeH {ops : Array Oper} {Q : Exit → Act → World → Prop} {md : Region.Mode} {S : World → Prop} (i : Nat) (dst : Option Tmp) (v : Value) {oi : Oper} {fuel : Nat} {listed : Array Bool} {a : Act} {w : World} (hi : ops[i]? = some oi) (hd : oi.dst = dst)
    (hs : Region.noSelect ops = true) (hf : Region.free md ops listed i = true) (hr : (Region.ready md ops listed).contains i = true)
    (hQ : ∀ c a w, Q (.panic c) (a.put dst v) w → Q (.panic c) a w) (hy : YieldsIf Tryd.prog ops S oi v a) (hS : S w)
    (h : wpAnyH Tryd.prog md ops Q S fuel (listed.setIfInBounds i true) (a.put dst v) w) : wpAnyH Tryd.prog md ops Q S (fuel + 1) listed a w := by
  subst hd
  exact wpAnyH_take hi hs hf hr hQ hy hS h
theorem rangeAt_block {W : World} {b : Nat} {cs : Array Value} {t : TypeId} {f : Nat × Nat} (h : W.heap[b]? = some (.cells cs t f)) (cs' : Array Value) (e : cs' = cs := by rfl) : W.rangeAt b 0 cs'.toList := by
  subst e
  intro j u hj
  rw [Array.getElem?_toList] at hj
  simp only [World.cell?, h, Nat.zero_add]; exact hj
def strs (l : List ByteArray) : List Value := l.map Value.string
theorem info9 : (Tryd.prog.info? 9).map (fun i => (i.zero, i.size, i.bytes)) = some (some (.string ⟨#[]⟩), 1, 16) := by kernel_rfl
/-- A list of texts of one's own, new since w. -/
def SR (w W : World) (v : Value) (l : List ByteArray) : Prop := W.ownsRow w.heap.size 9 1 v l.length (strs l) ∧ Keeps (fun _ => False) w W
theorem SR.nil (w : World) : SR w w (.slice none 0 0) [] := ⟨World.ownsRow_nil _ _ _ _, Keeps.refl _ _⟩
theorem SR.keep {w A B : World} {v : Value} {l : List ByteArray} (h : SR w A v l) (k : Keeps (fun _ => False) A B) : SR w B v l := ⟨own_grow h.1 k, h.2.trans k⟩
theorem wpList_apps {ops : Array Oper} {rest : List Oper} {o : Oper} {a : Act} {Q : Exit → Act → World → Prop} (hgd : o.guard = none) (s x : Operand)
    (ho : o.op = .call { callee := .builtin .append, args := #[s, x], argTypes := #[41, 41] }) (w W : World) (v : Value) (l : List ByteArray) (hs : a.eval s = v) (h : SR w W v l) (t : ByteArray)
    (hx : a.eval x = .slice (some ⟨W.heap.size, 0, none⟩) 1 1) (hl : l.length ≤ 1000000000)
    (K : ∀ v' W', SR w W' v' (l ++ [t]) → wpList Tryd.prog ops Q rest (a.put o.dst v') W') : wpList Tryd.prog ops Q (o :: rest) a (W.alloc (.cells #[.string t] 9)) := by
  obtain ⟨i0, hi, hz0, hz1, hz2⟩ := info_parts info9
  refine wpList_append_own_at _ hgd s x 41 ho w.heap.size 9 i0 (.string ⟨#[]⟩) 1 16 Tryd.underlying41 hi hz0 hz1 hz2 rfl (by decide) v l.length (strs l) hs (h.1.alloc _) ⟨W.heap.size, 0, none⟩ 1 1 [.string t] hx rfl (cell_one_new _ _ _) (by simp [Value.oneCell']) (by unfold maxLen; omega) (by omega) (by rw [World.size_alloc]; have := h.2.size; omega) ?_
  intro v' W' hown hgr _ _
  refine K v' W' ⟨?_, ?_⟩
  · have : strs (l ++ [t]) = strs l ++ [.string t] := by simp [strs]
    rw [this, List.length_append]; exact hown
  · exact (h.2.alloc _).step hgr (fun k hk => Or.inr ((h.1.lt k hk).1))
theorem ints_get {l : List Int} {k : Nat} {n : Int} (h : l[k]? = some n) : (ints l)[k]? = some (.int .i64 n) := by
  simp [ints, h]
section
variable {P : Program} {w : World}
/-- append of a list, of nothing too, to a row of the call's own. -/
theorem run_append_any (base : Nat) (t ty e : TypeId) (i : TypeInfo) (z : Value) (size bytes : Nat) (ht : P.underlying t = some (.slice e)) (hi : P.info? e = some i) (hz : i.zero = some z)
    (hsize : i.size = size) (hby : i.bytes = bytes) (hzs : z.cells.size = size) (hsz : 0 < size) (v : Value) (n : Nat) (xs : List Value) (hown : w.ownsRow base e size v n xs) (p : Option Addr) (m c : Nat) (news : List Value) (hl : news.length = m * size)
    (hx : 0 < m → ∃ ad, p = some ad ∧ ∀ j u, news[j]? = some u → w.cell? (ad.add j) = some u) (h1 : ∀ u ∈ news, u.oneCell' = true) (h63 : n + m ≤ maxLen) (hbytes : (n + m) * bytes ≤ 140737488355328) (hbase : base ≤ w.heap.size) :
    ∃ v' w', (Builtin.append_ #[t, t] ty #[v, .slice p m c]).run P w = .ok v' w' ∧ w'.ownsRow base e size v' (n + m) (xs ++ news) ∧ w.grownBy w' v.ownBlock := by
  rcases p with _ | ad
  · have hm : m = 0 := by
      rcases Nat.eq_zero_or_pos m with h | h
      · exact h
      · obtain ⟨ad, h2, _⟩ := hx h; cases h2
    subst hm
    have hx0 : news = [] := List.length_eq_zero_iff.1 (by simpa using hl)
    subst hx0
    have hsame : w.grownBy w v.ownBlock := ⟨rfl, rfl, rfl, Nat.le_refl _, fun _ _ _ => rfl⟩
    refine ⟨v, w, ?_, by simpa using hown, hsame⟩
    rcases hown.2 with ⟨rfl, _⟩ | ⟨g, cap, cur, rfl, _, _, hle, _⟩
    · cases c <;> simp [Builtin.append_, run_underlying ht, sizeOf, typeInfo, hi, Builtin.lenOf, Builtin.firstCells]
    · cases c <;> simp [Builtin.append_, run_underlying ht, sizeOf, typeInfo, hi, Builtin.lenOf, Builtin.firstCells, hle, storeCells]
  · have hnews : ∀ j u, news[j]? = some u → w.cell? (ad.add j) = some u := by
      rcases Nat.eq_zero_or_pos m with h | h
      · subst h
        have hx0 : news = [] := List.length_eq_zero_iff.1 (by simpa using hl)
        intro j u hj; rw [hx0] at hj; simp at hj
      · obtain ⟨ad', h2, h3⟩ := hx h
        cases h2; exact h3
    obtain ⟨v', w', hr, h2, h3, _, _⟩ := run_append_own_at (P := P) w base t ty e i z size bytes ht hi hz hsize hby hzs hsz v n xs hown ad m c news hl hnews h1 h63 hbytes hbase
    exact ⟨v', w', hr, h2, h3⟩

theorem wpList_append_any {ops : Array Oper} {rest : List Oper} {o : Oper} {a : Act} {Q : Exit → Act → World → Prop} (hgd : o.guard = none) (s x : Operand) (t : TypeId)
    (ho : o.op = .call { callee := .builtin .append, args := #[s, x], argTypes := #[t, t] }) (base : Nat)
    (e : TypeId) (i : TypeInfo) (z : Value) (size bytes : Nat) (ht : P.underlying t = some (.slice e)) (hi : P.info? e = some i) (hz : i.zero = some z)
    (hsize : i.size = size) (hby : i.bytes = bytes) (hzs : z.cells.size = size) (hsz : 0 < size) (v : Value) (n : Nat) (xs : List Value) (hs : a.eval s = v) (hown : w.ownsRow base e size v n xs) (p : Option Addr) (m c : Nat) (news : List Value) (hx : a.eval x = .slice p m c) (hl : news.length = m * size)
    (hc : 0 < m → ∃ ad, p = some ad ∧ ∀ j u, news[j]? = some u → w.cell? (ad.add j) = some u) (h1 : ∀ u ∈ news, u.oneCell' = true) (h63 : n + m ≤ maxLen) (hbytes : (n + m) * bytes ≤ 140737488355328) (hbase : base ≤ w.heap.size)
    (h : ∀ v' w', w'.ownsRow base e size v' (n + m) (xs ++ news) → w.grownBy w' v.ownBlock → wpList P ops Q rest (a.put o.dst v') w') : wpList P ops Q (o :: rest) a w := by
  refine wpList_plain hgd fun K hK => ?_
  obtain ⟨v', w', hr, h2, h3⟩ := run_append_any (P := P) (w := w) base t o.type e i z size bytes ht hi hz hsize hby hzs hsz v n xs hown p m c news hl hc h1 h63 hbytes hbase
  unfold Oper.wp execOp
  simp only [ho, resolve, invoke, builtin, Sem.run_bind, Sem.run_pure, Result.andThen_ok, List.map_toArray, List.map_cons, List.map_nil, hs, hx, hr]
  exact hK _ _ (h v' w' h2 h3)

end
theorem strs_len (l : List ByteArray) : (strs l).length = l.length := by simp [strs]
theorem strs_one (l : List ByteArray) : ∀ u ∈ strs l, u.oneCell' = true := by
  intro u hu
  obtain ⟨x, _, rfl⟩ := List.mem_map.1 hu
  rfl
/-- append of texts, of none too, to texts of one's own. -/
theorem wpList_appl {ops : Array Oper} {rest : List Oper} {o : Oper} {a : Act} {Q : Exit → Act → World → Prop} (hgd : o.guard = none) (s x : Operand)
    (ho : o.op = .call { callee := .builtin .append, args := #[s, x], argTypes := #[41, 41] }) (w W : World) (v : Value) (l : List ByteArray) (hs : a.eval s = v) (h : SR w W v l) (z : Value) (m : List ByteArray)
    (hx : a.eval x = z) (hz : Row W z m.length (strs m)) (hl : l.length + m.length ≤ 1000000000)
    (K : ∀ v' W', SR w W' v' (l ++ m) → wpList Tryd.prog ops Q rest (a.put o.dst v') W') : wpList Tryd.prog ops Q (o :: rest) a W := by
  obtain ⟨i0, hi, hz0, hz1, hz2⟩ := info_parts info9
  obtain ⟨p, c, rfl, _, hc⟩ := hz
  refine wpList_append_any hgd s x 41 ho w.heap.size 9 i0 (.string ⟨#[]⟩) 1 16 Tryd.underlying41 hi hz0 hz1 hz2 rfl (by decide) v l.length (strs l) hs h.1 p m.length c (strs m) hx (by rw [strs_len, Nat.mul_one]) ?_ (strs_one m) (by unfold maxLen; omega) (by omega) h.2.size ?_
  · intro h0
    obtain ⟨b, o, rfl, _, hcell⟩ := hc h0
    exact ⟨_, rfl, fun j u hj => by rw [addr_add]; exact hcell j u hj⟩
  · intro v' W' hown hgr
    refine K v' W' ⟨?_, ?_⟩
    · have : strs (l ++ m) = strs l ++ strs m := by simp [strs]
      rw [this, List.length_append]; exact hown
    · exact h.2.step hgr (fun k hk => Or.inr ((h.1.lt k hk).1))

/-! Texts. -/
def iB (n : Int) : ByteArray := mkB (Lib.itoa n)
theorem iB_size {n : Int} (h : In64 n) : (iB n).size ≤ 30 := by
  unfold iB
  rw [mkB_size]
  have := Lib.itoa_length_le n h.1 h.2
  omega
set_option maxHeartbeats 1000000 in
theorem itoa_any (w : World) (hv : Tab w) (n : Int) (hn : In64 n) : Calls Tryd.prog 8 #[.int .i64 n] w fun e w' => e = .returned (.string (iB n)) ∧ Keeps (fun _ => False) w w' := by
  refine (Tryd.strconv_Itoa n hn.1 hn.2 w hv).mono ?_
  rintro e w2 ⟨rfl, hw2⟩
  obtain ⟨k, os, rfl⟩ := hw2
  exact ⟨rfl, Keeps.grow _ _ _⟩
set_option maxHeartbeats 1000000 in
theorem number_any (w : World) (hv : Tab w) (n : Int) (hn : In64 n) : Calls Tryd.prog 10 #[.int .i64 n] w fun e w' => e = .returned (.string (iB n)) ∧ Keeps (fun _ => False) w w' := by
  have h := itoa_any w hv n hn
  go_enter Tryd.func10, Tryd.ntmps10
  go_wp2_with (first | (go_at_call 8; refine h.mono ?_; clear h; rintro e w1 ⟨rfl, hk1⟩))
  go_ret
  exact ⟨rfl, hk1⟩
def kB (k : Int) : ByteArray := if k = 1 then ⟨#[102, 105, 108, 101]⟩ else if k = 2 then ⟨#[100, 105, 114]⟩ else ⟨#[102, 114, 101, 101]⟩
theorem kB_size (k : Int) : (kB k).size ≤ 4 := by
  unfold kB
  split
  · decide
  · split <;> decide
set_option maxHeartbeats 1000000 in
theorem rkind_any (w : World) (k : Int) : Calls Tryd.prog 14 #[.int .i64 k] w fun e w' => e = .returned (.string (kB k)) ∧ Keeps (fun _ => False) w w' := by
  unfold kB
  by_cases h1 : k = 1
  · subst h1
    go_enter Tryd.func14, Tryd.ntmps14
    go_wp2
    go_ret
    exact ⟨rfl, Keeps.refl _ _⟩
  · by_cases h2 : k = 2
    · subst h2
      go_enter Tryd.func14, Tryd.ntmps14
      go_wp2
      go_ret
      exact ⟨rfl, Keeps.refl _ _⟩
    · rw [if_neg h1, if_neg h2]
      go_enter Tryd.func14, Tryd.ntmps14
      go_wp2
      go_ret
      exact ⟨rfl, Keeps.refl _ _⟩
set_option maxHeartbeats 1000000 in
theorem kindWord_any (w : World) (k : Int) : Calls Tryd.prog 18 #[.int .i64 k] w fun e w' => e = .returned (.string (kB k)) ∧ Keeps (fun _ => False) w w' := by
  unfold kB
  by_cases h1 : k = 1
  · subst h1
    go_enter Tryd.func18, Tryd.ntmps18
    go_wp2
    go_ret
    exact ⟨rfl, Keeps.refl _ _⟩
  · by_cases h2 : k = 2
    · subst h2
      go_enter Tryd.func18, Tryd.ntmps18
      go_wp2
      go_ret
      exact ⟨rfl, Keeps.refl _ _⟩
    · rw [if_neg h1, if_neg h2]
      go_enter Tryd.func18, Tryd.ntmps18
      go_wp2
      go_ret
      exact ⟨rfl, Keeps.refl _ _⟩
/-- Texts one behind the other. -/
def cat (l : List ByteArray) : ByteArray := l.foldl (· ++ ·) ⟨#[]⟩
theorem cat_snoc (l : List ByteArray) (x : ByteArray) : cat (l ++ [x]) = cat l ++ x := by simp [cat]
theorem cat_take {α : Type} (f : α → ByteArray) {l : List α} {k : Nat} {a : α} (h : l[k]? = some a) : cat ((l.take (k + 1)).map f) = cat ((l.take k).map f) ++ f a := by
  rw [List.take_add_one, h, List.map_append]
  exact cat_snoc _ _
theorem cat_data : ∀ l : List ByteArray, (cat l).data.toList = l.flatMap (·.data.toList) := by
  intro l
  have h : ∀ (l : List ByteArray) (a : ByteArray), (l.foldl (· ++ ·) a).data.toList = a.data.toList ++ l.flatMap (·.data.toList) := by
    intro l
    induction l with
    | nil => intro a; simp
    | cons x l ih => intro a; rw [List.foldl_cons, ih]; simp
  have := h l ⟨#[]⟩
  simpa [cat] using this
theorem cat_size (l : List ByteArray) : (cat l).size = (l.map (·.size)).sum := by
  rw [size_len, cat_data]
  induction l with
  | nil => rfl
  | cons x l ih => rw [List.flatMap_cons, List.length_append, ih, List.map_cons, List.sum_cons, size_len]
theorem bytes_ext {a b : ByteArray} (h : a.data.toList = b.data.toList) : a = b := by
  have : a.data = b.data := Array.ext' h
  cases a; cases b; cases this; rfl
end Go.Proofs.YtpgabmfpffaajaaDoor
