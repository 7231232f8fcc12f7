import Derived.Test.YtngoifbflpeapacGreatDoorF1
namespace Go.Proofs.YtngoifbflpeapacGreatDoor
open Go.RowKit Go.Maps
set_option maxRecDepth 100000

def strs (l : List ByteArray) : List Value := l.map Value.string
theorem info9 : (Tryz.prog.info? 9).map (fun i => (i.zero, i.size, i.bytes)) = some (some (.string ⟨#[]⟩), 1, 16) := by kernel_rfl
/-- A list of texts of one's own, new since w. -/
def SR (w W : World) (v : Value) (l : List ByteArray) : Prop := W.ownsRow w.heap.size 9 1 v l.length (strs l) ∧ Keeps (fun _ => False) w W
theorem SR.nil (w : World) : SR w w (.slice none 0 0) [] := ⟨World.ownsRow_nil _ _ _ _, Keeps.refl _ _⟩
theorem SR.keep {w A B : World} {v : Value} {l : List ByteArray} (h : SR w A v l) (k : Keeps (fun _ => False) A B) : SR w B v l := ⟨own_grow h.1 k, h.2.trans k⟩
theorem wpList_apps {ops : Array Oper} {rest : List Oper} {o : Oper} {a : Act} {Q : Exit → Act → World → Prop} (hgd : o.guard = none) (s x : Operand)
    (ho : o.op = .call { callee := .builtin .append, args := #[s, x], argTypes := #[48, 48] }) (w W : World) (v : Value) (l : List ByteArray) (hs : a.eval s = v) (h : SR w W v l) (t : ByteArray)
    (hx : a.eval x = .slice (some ⟨W.heap.size, 0, none⟩) 1 1) (hl : l.length ≤ 1000000000)
    (K : ∀ v' W', SR w W' v' (l ++ [t]) → wpList Tryz.prog ops Q rest (a.put o.dst v') W') : wpList Tryz.prog ops Q (o :: rest) a (W.alloc (.cells #[.string t] 9)) := by
  obtain ⟨i0, hi, hz0, hz1, hz2⟩ := info_parts info9
  refine wpList_append_own_at _ hgd s x 48 ho w.heap.size 9 i0 (.string ⟨#[]⟩) 1 16 Tryz.underlying48 hi hz0 hz1 hz2 rfl (by decide) v l.length (strs l) hs (h.1.alloc _) ⟨W.heap.size, 0, none⟩ 1 1 [.string t] hx rfl (cell_one_new _ _ _) (by simp [Value.oneCell']) (by unfold maxLen; omega) (by omega) (by rw [World.size_alloc]; have := h.2.size; omega) ?_
  intro v' W' hown hgr _ _
  refine K v' W' ⟨?_, ?_⟩
  · have : strs (l ++ [t]) = strs l ++ [.string t] := by simp [strs]
    rw [this, List.length_append]; exact hown
  · exact (h.2.alloc _).step hgr (fun k hk => Or.inr ((h.1.lt k hk).1))
def nums10 (l : List Int) : List ByteArray := l.map fun n => mkB (Lib.itoa n)
theorem ints_get {l : List Int} {k : Nat} {n : Int} (h : l[k]? = some n) : (ints l)[k]? = some (.int .i64 n) := by
  simp [ints, h]
def OkI (l : List Int) : Prop := ∀ n ∈ l, -9223372036854775808 ≤ n ∧ n ≤ 9223372036854775807

set_option maxHeartbeats 2000000 in
theorem numerals_any (w : World) (hv : Vars w) (vl : Value) (l : List Int) (hr : Row w vl l.length (ints l)) (hl : l.length ≤ 1000000) (ho : OkI l) :
    Calls Tryz.prog 76 #[vl] w fun e w' => ∃ v, e = .returned v ∧ Hid (SR w w' v (nums10 l)) := by
  obtain ⟨p, c, rfl, hc, _⟩ := id hr
  have HR := Hid.mk' hr
  have HV := Hid.mk' hv
  have HO := Hid.mk' ho
  have HN := Hid.mk' (SR.nil w)
  clear hr hv ho
  go_enter Tryz.func76, Tryz.ntmps76
  go_wp2
  clear HN
  go_loopw [3, 8] (fun v i wr => ∃ k : Nat, k ≤ l.length ∧ i = .int .i64 k ∧ Hid (SR w wr v (nums10 (l.take k)))) (fun _ i _ => l.length - (intOf i).toNat)
  case atStart => exact ⟨0, Nat.zero_le _, rfl, SR.nil w⟩
  case round =>
    obtain ⟨k, hk, rfl, HB⟩ := hrel
    by_cases h1 : k < l.length
    · have h1' : (k : Int) < (l.length : Int) := by omega
      obtain ⟨n, hn⟩ : ∃ n, l[k]? = some n := ⟨l[k], by simp [h1]⟩
      obtain ⟨p', c', hpc, _, hcell⟩ := HR.out.keep HB.out.2
      injection hpc with e1 e2 e3
      subst e1
      obtain ⟨b, o, hp, hb, hc2⟩ := hcell (by omega)
      subst hp
      have hld := hc2 k _ (ints_get hn)
      have hbn := HO.out n (List.mem_of_getElem? hn)
      have HT : Hid (nums10 (l.take (k + 1)) = nums10 (l.take k) ++ [mkB (Lib.itoa n)]) := by
        show _ = _
        rw [List.take_add_one, hn]; simp [nums10]
      have HL : Hid ((nums10 (l.take k)).length ≤ 1000000) := by show _ ≤ _; simp [nums10]; omega
      clear hc2 hb hcell e2 e3 hn
      go_wp2_with (first
        | (go_at_call 96; refine (Tryz.strconv_Itoa n hbn.1 hbn.2 wr (HV.out.keep HB.out.2).tab).mono ?_; rintro e w2 ⟨rfl, hw2⟩; have HK2 : Hid (Keeps (fun _ => False) wr w2) := by (obtain ⟨k, os, rfl⟩ := hw2; exact Keeps.grow _ _ _)
           clear hw2; rw [itoa_str])
        | (at_builtin; go_must (refine wpList_apps rfl _ _ rfl w w2 u3 _ (by rfl) (HB.out.keep HK2.out) (mkB (Lib.itoa n)) (by rfl) (by have := HL.out; omega) ?_); intro v2 W2 hO; have HO2 := Hid.mk' hO; clear hO))
      go_roundw
      case rel => exact ⟨k + 1, by omega, by go_num, by rw [HT.out]; exact HO2.out⟩
      case measure => simp [intOf]; omega
    · have h1' : ¬ (k : Int) < (l.length : Int) := by omega
      have HE : Hid (l.take k = l) := List.take_of_length_le (by omega)
      go_wp2
      try rw [Exit.noGoto_ret]
      refine bodyPost_ret (v := u3) (by simp [results, Tryz.results76, go_sem]) rfl ?_
      exact ⟨_, rfl, by have := HB.out; rw [HE.out] at this; exact this⟩
end Go.Proofs.YtngoifbflpeapacGreatDoor

