import Derived.Test.YtdlhdompemkjfaaGreatDoorK28
import Derived.Test.YtdlhdompemkjfaaGreatDoorK29
import Derived.Lib.AppendStr
namespace Go.Proofs.YtdlhdompemkjfaaGreatDoor
open Go.RowKit Go.Maps
set_option maxRecDepth 100000

/-! append of a text's bytes to bytes of one's own. -/
theorem wp_apt {o : Oper} {a : Act} {K : Act → World → Prop} {Q : Exit → Act → World → Prop} (s x : Operand)
    (ho : o.op = .call { callee := .builtin .append, args := #[s, x], argTypes := #[40, 9] }) (w W : World) (v : Value) (l : Bs) (hs : a.eval s = v) (h : OB w W v l) (m : ByteArray)
    (hx : a.eval x = .string m) (hl : l.length + m.size ≤ 1000000000000)
    (KK : ∀ v' W', OB w W' v' (l ++ m.data.toList) → K (a.put o.dst v') W') : Oper.wp Tryz.prog o a W K Q := by
  obtain ⟨i0, hi, hz0, hz1, hz2⟩ := info_parts info5
  obtain ⟨v', W', hr, hown, hgr, _⟩ := Lib.run_append_own_string (P := Tryz.prog) W w.heap.size 40 9 o.type 5 i0 Tryz.underlying40 Tryz.underlying9 hi hz0 hz1 hz2 v l.length (vals l) h.1 m (by unfold maxLen; omega) (by omega) h.2.size
  unfold Oper.wp execOp
  simp only [ho, resolve, invoke, builtin, Sem.run_bind, Sem.run_pure, Result.andThen_ok, List.map_toArray, List.map_cons, List.map_nil, hs, hx, hr]
  refine KK v' W' ⟨?_, ?_⟩
  · have e : vals (l ++ m.data.toList) = vals l ++ Lib.strCells m := by simp [vals, Lib.strCells]
    rw [e, List.length_append, ← size_len]; exact hown
  · exact h.2.step hgr (fun k hk => Or.inr ((h.1.lt k hk).1))
theorem wpList_apt {ops : Array Oper} {rest : List Oper} {o : Oper} {a : Act} {Q : Exit → Act → World → Prop} (hgd : o.guard = none) (s x : Operand)
    (ho : o.op = .call { callee := .builtin .append, args := #[s, x], argTypes := #[40, 9] }) (w W : World) (v : Value) (l : Bs) (hs : a.eval s = v) (h : OB w W v l) (m : ByteArray)
    (hx : a.eval x = .string m) (hl : l.length + m.size ≤ 1000000000000)
    (K : ∀ v' W', OB w W' v' (l ++ m.data.toList) → wpList Tryz.prog ops Q rest (a.put o.dst v') W') : wpList Tryz.prog ops Q (o :: rest) a W := by
  refine wpList_plain hgd fun K' hK => ?_
  exact wp_apt s x ho w W v l hs h m hx hl (fun v' W' hO => hK _ _ (K v' W' hO))

/-! The document's word of an argument. -/
def agF (a : Ar) (t : St) : Bs := match a with
  | .A => quo t.a.data.toList
  | .B => quo t.b.data.toList
  | .N => Lib.itoa t.n
  | .M => Lib.itoa t.m
  | .K => Lib.itoa t.k
  | .L => []
set_option maxHeartbeats 4000000 in
theorem rarg_any (a : Ar) (ha : a.lst = false) (w : World) (t : St) (p : Option Addr) (n c : Nat) (ho : OkS t) :
    Calls Tryz.prog 21 #[.agg (scell t (.slice p n c)), .int .u8 (((lett a).toNat : Nat) : Int)] w fun e w' => e = .returned (.string (mkB (agF a t))) ∧ Keeps (fun _ => False) w w' := by
  have HK0 := Hid.mk' ((Keeps.refl (fun _ => False) w).alloc (.cells (scell t (.slice p n c)) 24))
  unfold scell at *
  have h1 := fun W => rquote_any W t.a ho.a
  have h2 := fun W => rquote_any W t.b ho.b
  have h3 := fun W => show_any W t.n ho.n
  have h4 := fun W => show_any W t.m ho.m
  have h5 := fun W => show_any W t.k ho.k
  clear ho
  cases a with
  | L => cases ha
  | A =>
    clear h2 h3 h4 h5
    show Calls _ _ #[_, .int .u8 65] _ _
    go_enter Tryz.func21, Tryz.ntmps21
    go_wp2_with (first | (go_at_call 37; refine (h1 _).mono ?_; clear h1; rintro e w1 ⟨rfl, hk1⟩))
    go_ret
    exact ⟨rfl, HK0.out.trans hk1⟩
  | B =>
    clear h1 h3 h4 h5
    show Calls _ _ #[_, .int .u8 66] _ _
    go_enter Tryz.func21, Tryz.ntmps21
    go_wp2_with (first | (go_at_call 37; refine (h2 _).mono ?_; clear h2; rintro e w1 ⟨rfl, hk1⟩))
    go_ret
    exact ⟨rfl, HK0.out.trans hk1⟩
  | N =>
    clear h1 h2 h4 h5
    show Calls _ _ #[_, .int .u8 78] _ _
    go_enter Tryz.func21, Tryz.ntmps21
    go_wp2_with (first | (go_at_call 22; refine (h3 _).mono ?_; clear h3; rintro e w1 ⟨rfl, hk1⟩))
    go_ret
    exact ⟨rfl, HK0.out.trans hk1⟩
  | M =>
    clear h1 h2 h3 h5
    show Calls _ _ #[_, .int .u8 77] _ _
    go_enter Tryz.func21, Tryz.ntmps21
    go_wp2_with (first | (go_at_call 22; refine (h4 _).mono ?_; clear h4; rintro e w1 ⟨rfl, hk1⟩))
    go_ret
    exact ⟨rfl, HK0.out.trans hk1⟩
  | K =>
    clear h1 h2 h3 h4
    show Calls _ _ #[_, .int .u8 75] _ _
    go_enter Tryz.func21, Tryz.ntmps21
    go_wp2_with (first | (go_at_call 22; refine (h5 _).mono ?_; clear h5; rintro e w1 ⟨rfl, hk1⟩))
    go_ret
    exact ⟨rfl, HK0.out.trans hk1⟩

/-! The line, as the document writes it. -/
def fxW (l : List Ar) (t : St) : Bs := l.flatMap fun a => 32 :: agF a t
def lsW (l : List Int) : Bs := l.flatMap fun n => 32 :: Lib.itoa n
theorem join_cons32 : ∀ (xs : List Bs) (x : Bs), Lib.join (x :: xs) [32] = x ++ xs.flatMap (fun y => 32 :: y)
  | [], x => by simp [Lib.join, List.intercalate]
  | y :: ys, x => by
    have h := join_cons32 ys y
    have e : Lib.join (x :: y :: ys) [32] = x ++ ([32] ++ Lib.join (y :: ys) [32]) := by simp [Lib.join, List.intercalate, List.intersperse]
    rw [e, h]
    simp
theorem fx_nolist (l : List Ar) : ∀ a ∈ fxA l, a.lst = false := by
  intro a ha
  have := (List.mem_filter.1 ha).2
  simpa using this
theorem tells_fx (t : St) : ∀ l : List Ar, (∀ a ∈ l, a.lst = false) → (tells l t).map (·.data.toList) = l.map fun a => agF a t
  | [], _ => rfl
  | a :: l, h => by
    have ih := tells_fx t l (fun x hx => h x (by simp [hx]))
    have e : tells (a :: l) t = tlF a t ++ tells l t := by simp [tells]
    have ha := h a (by simp)
    rw [e, List.map_append, ih, List.map_cons]
    cases a <;> first | (cases ha; done) | simp [tlF, agF, nums10, mkB]
theorem line_eq {k : Kd} (hk : k ∈ kds) (t : St) : line k t = k.word.data.toList ++ fxW (fxA k.args) t ++ (if fxL k.args then lsW t.l else []) := by
  unfold line
  rw [List.map_cons, join_cons32]
  have e : tells k.args t = tells (fxA k.args) t ++ (if fxL k.args then nums10 t.l else []) := by
    have h := (kd_parts k hk).1
    rw [show tells k.args t = tells (fxA k.args ++ (if fxL k.args then [.L] else [])) t by rw [← h]]
    unfold tells
    rw [List.flatMap_append]
    cases fxL k.args <;> simp [tlF]
  rw [e, List.map_append, tells_fx t _ (fx_nolist k.args), List.flatMap_append, List.append_assoc]
  congr 2
  · rw [fxW, List.flatMap_map]
  · cases fxL k.args with
    | false => rfl
    | true => simp [lsW, nums10, List.flatMap_map, mkB]
theorem fxW_take {l : List Ar} {j : Nat} {a : Ar} (t : St) (h : l[j]? = some a) : fxW (l.take (j + 1)) t = fxW (l.take j) t ++ [32] ++ agF a t := by
  unfold fxW
  rw [List.take_add_one, h, List.flatMap_append]
  simp
theorem lsW_take {l : List Int} {j : Nat} {n : Int} (h : l[j]? = some n) : lsW (l.take (j + 1)) = lsW (l.take j) ++ [32] ++ Lib.itoa n := by
  unfold lsW
  rw [List.take_add_one, h, List.flatMap_append]
  simp
theorem agF_le {a : Ar} {t : St} (h : OkS t) : (agF a t).length ≤ 4000002 := by
  have h1 := quo_le t.a.data.toList
  have h2 := quo_le t.b.data.toList
  have ha := h.a
  have hb := h.b
  rw [size_len] at ha hb
  have hn := itoa_len20 h.n
  have hm := itoa_len20 h.m
  have hk := itoa_len20 h.k
  cases a <;> simp only [agF, List.length_nil] <;> omega
theorem fxW_le {t : St} (h : OkS t) : ∀ l : List Ar, (fxW l t).length ≤ l.length * 4000003
  | [] => by simp [fxW]
  | a :: l => by
    have ih := fxW_le h l
    have h1 := agF_le (a := a) h
    have e : fxW (a :: l) t = 32 :: agF a t ++ fxW l t := by simp [fxW]
    rw [e, List.length_append, List.length_cons, List.length_cons]
    omega
theorem lsW_le {l : List Int} (h : OkI l) : (lsW l).length ≤ l.length * 21 := by
  induction l with
  | nil => simp [lsW]
  | cons a l ih =>
    have := ih (fun n hn => h n (by simp [hn]))
    have h1 := itoa_len20 (h a (by simp))
    have e : lsW (a :: l) = 32 :: Lib.itoa a ++ lsW l := by simp [lsW]
    rw [e, List.length_append, List.length_cons, List.length_cons]
    omega
theorem smF_comm (t u : St) : smF t u = smF u t := by
  unfold smF
  rw [Bool.beq_comm (a := t.kind), Bool.beq_comm (a := t.a.toList), Bool.beq_comm (a := t.b.toList), Bool.beq_comm (a := t.n), Bool.beq_comm (a := t.m), Bool.beq_comm (a := t.k), Bool.beq_comm (a := t.l)]
theorem lett_byte (l : List Ar) (j : Nat) (a : Ar) (h : l[j]? = some a) (hj : j < (lets l).size) : (lets l)[j] = lett a := by
  rw [byte_getD _ _ hj]
  unfold lets
  simp [mkB, List.getD_eq_getElem?_getD, h]
end Go.Proofs.YtdlhdompemkjfaaGreatDoor

namespace Go.Proofs.YtdlhdompemkjfaaGreatDoor
open Go.RowKit Go.Maps
set_option maxRecDepth 100000

/-! The document's own look at two steps. -/
set_option maxHeartbeats 4000000 in
theorem rsame_any (w : World) (t u : St) (v z : Value) (hr : Row w v t.l.length (ints t.l)) (hz : Row w z u.l.length (ints u.l)) (ht : t.l.length ≤ 4000000000000000000) :
    Calls Tryz.prog 24 #[.agg (scell t v), .agg (scell u z)] w fun e w' => e = .returned (.bool (smF t u)) ∧ Keeps (fun _ => False) w w' := by
  obtain ⟨p, c, rfl, _, _⟩ := id hr
  obtain ⟨p2, c2, rfl, _, _⟩ := id hz
  have HK0 := Hid.mk' (((Keeps.refl (fun _ => False) w).alloc (.cells (scell t (.slice p t.l.length c)) 24)).alloc (.cells (scell u (.slice p2 u.l.length c2)) 24))
  have HR := Hid.mk' (hr.keep HK0.out)
  have HZ := Hid.mk' (hz.keep HK0.out)
  clear hr hz
  unfold scell at HK0 HR HZ
  unfold scell
  unfold smF
  rcases Bool.eq_false_or_eq_true (t.kind == u.kind) with h0 | h0
  case inr =>
    have g0 : (t.kind != u.kind) = true := by rw [bne, h0]; rfl
    rw [h0]
    go_enter Tryz.func24, Tryz.ntmps24
    go_wp2
    go_ret
    exact ⟨rfl, HK0.out⟩
  have g0 : (t.kind != u.kind) = false := by rw [bne, h0]; rfl
  rcases Bool.eq_false_or_eq_true (t.a.toList == u.a.toList) with h1 | h1
  case inr =>
    have g1 : (t.a.toList != u.a.toList) = true := by rw [bne, h1]; rfl
    rw [h0, h1]
    go_enter Tryz.func24, Tryz.ntmps24
    go_wp2
    go_ret
    exact ⟨rfl, HK0.out⟩
  have g1 : (t.a.toList != u.a.toList) = false := by rw [bne, h1]; rfl
  rcases Bool.eq_false_or_eq_true (t.b.toList == u.b.toList) with h2 | h2
  case inr =>
    have g2 : (t.b.toList != u.b.toList) = true := by rw [bne, h2]; rfl
    rw [h0, h1, h2]
    go_enter Tryz.func24, Tryz.ntmps24
    go_wp2
    go_ret
    exact ⟨rfl, HK0.out⟩
  have g2 : (t.b.toList != u.b.toList) = false := by rw [bne, h2]; rfl
  rcases Bool.eq_false_or_eq_true (t.n == u.n) with h3 | h3
  case inr =>
    have g3 : (t.n != u.n) = true := by rw [bne, h3]; rfl
    rw [h0, h1, h2, h3]
    go_enter Tryz.func24, Tryz.ntmps24
    go_wp2
    go_ret
    exact ⟨rfl, HK0.out⟩
  have g3 : (t.n != u.n) = false := by rw [bne, h3]; rfl
  rcases Bool.eq_false_or_eq_true (t.m == u.m) with h4 | h4
  case inr =>
    have g4 : (t.m != u.m) = true := by rw [bne, h4]; rfl
    rw [h0, h1, h2, h3, h4]
    go_enter Tryz.func24, Tryz.ntmps24
    go_wp2
    go_ret
    exact ⟨rfl, HK0.out⟩
  have g4 : (t.m != u.m) = false := by rw [bne, h4]; rfl
  rcases Bool.eq_false_or_eq_true (t.k == u.k) with h5 | h5
  case inr =>
    have g5 : (t.k != u.k) = true := by rw [bne, h5]; rfl
    rw [h0, h1, h2, h3, h4, h5]
    go_enter Tryz.func24, Tryz.ntmps24
    go_wp2
    go_ret
    exact ⟨rfl, HK0.out⟩
  have g5 : (t.k != u.k) = false := by rw [bne, h5]; rfl
  rw [h0, h1, h2, h3, h4, h5]
  simp only [Bool.true_and]
  by_cases hl : t.l.length = u.l.length
  case neg =>
    have hl' : ¬ (t.l.length : Int) = (u.l.length : Int) := by omega
    have g6 : ((t.l.length : Int) != (u.l.length : Int)) = true := bne_iff_ne.2 hl'
    have HE : Hid ((t.l == u.l) = false) := beq_eq_false_iff_ne.2 (fun h => hl (by rw [h]))
    go_enter Tryz.func24, Tryz.ntmps24
    go_wp2
    go_ret
    exact ⟨by rw [HE.out]; rfl, HK0.out⟩
  have hl' : (t.l.length : Int) = (u.l.length : Int) := by omega
  have g6 : ((t.l.length : Int) != (u.l.length : Int)) = false := by rw [hl']; simp
  have HL := Hid.mk' hl
  generalize hxs : t.l = xs at *
  generalize hys : u.l = ys at *
  have HT : Hid (xs.length ≤ 4000000000000000000) := ht
  clear ht hl
  go_enter Tryz.func24, Tryz.ntmps24
  go_wp2
  go_loopw [5] (fun i wr => ∃ k : Nat, k ≤ xs.length ∧ i = .int .i64 k ∧ Hid (Keeps (fun _ => False) ((w.alloc (.cells #[.int .i64 t.kind, .string t.a, .string t.b, .int .i64 t.n, .int .i64 t.m, .int .i64 t.k, .slice p xs.length c] 24)).alloc (.cells #[.int .i64 u.kind, .string u.a, .string u.b, .int .i64 u.n, .int .i64 u.m, .int .i64 u.k, .slice p2 ys.length c2] 24)) wr) ∧ Hid (xs.take k = ys.take k)) (fun i _ => xs.length - (intOf i).toNat)
  case atStart => exact ⟨0, by omega, rfl, Keeps.refl _ _, rfl⟩
  case round =>
    obtain ⟨k, hk, rfl, HW, HS⟩ := hrel
    have h63 : xs.length ≤ 4000000000000000000 := HT.out
    have c0 := ((((Keeps.refl (fun _ => False) (w.alloc (.cells #[.int .i64 t.kind, .string t.a, .string t.b, .int .i64 t.n, .int .i64 t.m, .int .i64 t.k, .slice p xs.length c] 24))).alloc (.cells #[.int .i64 u.kind, .string u.a, .string u.b, .int .i64 u.n, .int .i64 u.m, .int .i64 u.k, .slice p2 ys.length c2] 24))).trans HW.out).cell (new_cell w #[.int .i64 t.kind, .string t.a, .string t.b, .int .i64 t.n, .int .i64 t.m, .int .i64 t.k, .slice p xs.length c] 24 6 _ rfl) id
    have c1 := HW.out.cell (new_cell (w.alloc (.cells #[.int .i64 t.kind, .string t.a, .string t.b, .int .i64 t.n, .int .i64 t.m, .int .i64 t.k, .slice p xs.length c] 24)) #[.int .i64 u.kind, .string u.a, .string u.b, .int .i64 u.n, .int .i64 u.m, .int .i64 u.k, .slice p2 ys.length c2] 24 6 _ rfl) id
    rw [World.size_alloc] at c1
    by_cases h1 : k < xs.length
    · have h1' : (k : Int) < (xs.length : Int) := by omega
      obtain ⟨x, hx⟩ : ∃ x, xs[k]? = some x := ⟨xs[k], by simp [h1]⟩
      obtain ⟨y, hy⟩ : ∃ y, ys[k]? = some y := ⟨ys[k]'(by have := HL.out; omega), by simp [show k < ys.length by have := HL.out; omega]⟩
      obtain ⟨p', c', hpc, _, hcell⟩ := HR.out.keep HW.out
      injection hpc with e1 e2 e3
      subst e1
      subst e3
      obtain ⟨b, o, hp, _, hc2⟩ := hcell (by omega)
      subst hp
      have q0 := hc2 k _ (ints_get hx)
      obtain ⟨p', c', hpc, _, hcell⟩ := HZ.out.keep HW.out
      injection hpc with e1 e2 e3
      subst e1
      subst e3
      obtain ⟨b2, o2, hp, _, hc3⟩ := hcell (by have := HL.out; omega)
      subst hp
      have q1 := hc3 k _ (ints_get hy)
      have h2' : (k : Int) < (ys.length : Int) := by omega
      clear hc2 hc3 hcell e2
      by_cases hxy : x = y
      · subst hxy
        have g7 : (x != x) = false := by simp
        have HS2 := Hid.mk' (take_same HS.out hx hy)
        clear hx hy
        go_wp2
        go_quiet (fail)
        go_wp2
        go_roundw
        case rel => exact ⟨k + 1, by omega, by go_num, HW.out.trans (Keeps.drewN _ _ _), HS2.out⟩
        case measure => simp [intOf]; omega
      · have g7 : (x != y) = true := bne_iff_ne.2 hxy
        have HN : Hid ((xs == ys) = false) := beq_eq_false_iff_ne.2 (fun h => hxy (by rw [h, hy] at hx; exact (Option.some.inj hx).symm))
        clear hx hy
        go_wp2
        go_quiet (fail)
        go_wp2
        go_ret
        exact ⟨by rw [HN.out]; rfl, (HK0.out.trans HW.out).trans (Keeps.drewN _ _ _)⟩
    · have h1' : ¬ (k : Int) < (xs.length : Int) := by omega
      have HE : Hid ((xs == ys) = true) := beq_iff_eq.2 (by have h := HS.out; rw [List.take_of_length_le (by omega), List.take_of_length_le (by have := HL.out; omega)] at h; exact h)
      go_wp2
      go_ret
      exact ⟨by rw [HE.out]; rfl, HK0.out.trans HW.out⟩
end Go.Proofs.YtdlhdompemkjfaaGreatDoor
