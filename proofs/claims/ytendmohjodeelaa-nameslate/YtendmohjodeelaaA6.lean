import Derived.Test.YtendmohjodeelaaA5
namespace Go.Proofs.Ytendmohjodeelaa
open Go.RowKit Go.Maps Go.Great

theorem cell0 {w : World} {x bm : Nat} (h : w.heap[x]? = some (.cells #[.map (some bm)] 52 (0, 0))) : w.cell? ⟨x, 0, none⟩ = some (.map (some bm)) := by
  rw [cell_of_row _ _ 0 _ 52 (0, 0) h]; rfl

/-- The world's part of a region that reads an index and a key and then writes the map. -/
def RegS (x bm g : Nat) (c : Array Value) (w' : World) : Prop := w'.heap[x]? = some (.cells #[.map (some bm)] 52 (0, 0)) ∧ w'.heap[g]? = some (.cells c 55 (0, 0))

theorem step_update {ops : Array Oper} {o : Oper} {a : Act} {w : World} {K : Act → World → Prop} {Q : Exit → Act → World → Prop} {E : Prop} (hgd : o.guard = none) (m k v : Operand) (hop : o.op = .mapUpdate 50 m k v)
    (mv kv vv : Value) (hm : a.eval m = mv) (hk : a.eval k = kv) (hv : a.eval v = vv) (w' : World) (hrun : (Instr.mapUpdate 50 mv kv vv).run Try.prog w = .ok () w')
    (hK : K (a.put o.dst undef) w') : if Region.wanted o (yielded ops a.tmps) = true then Oper.wp Try.prog o a w K Q else E := by
  have hw : Region.wanted o (yielded ops a.tmps) = true := by simp [Region.wanted, hgd]
  rw [if_pos hw]
  unfold Oper.wp
  simp [execOp, hop, hm, hk, hv, hrun, Result.andThen]
  exact hK

theorem takeH {ops : Array Oper} {Q : Exit → Act → World → Prop} {md : Region.Mode} {S : World → Prop} (i : Nat) (dst : Option Tmp) (v : Value) {oi : Oper} {fuel : Nat} {listed : Array Bool} {a : Act} {w : World} (hi : ops[i]? = some oi) (hd : oi.dst = dst)
    (hs : Region.noSelect ops = true) (hf : Region.free md ops listed i = true) (hr : (Region.ready md ops listed).contains i = true)
    (hQ : ∀ c a w, Q (.panic c) (a.put dst v) w → Q (.panic c) a w) (hy : YieldsIf Try.prog ops S oi v a) (hS : S w)
    (h : wpAnyH Try.prog md ops Q S fuel (listed.setIfInBounds i true) (a.put dst v) w) : wpAnyH Try.prog md ops Q S (fuel + 1) listed a w := by
  subst hd
  exact wpAnyH_take hi hs hf hr hQ hy hS h

set_option maxHeartbeats 1000000 in
theorem put_new (w : World) (x bm : Nat) (S : List Rw) (h : IxAt w x bm S) (d : Int) (s : ByteArray) (n : Int) (hd : 1 ≤ d ∧ d ≤ 256) (hn : 1 ≤ n ∧ n ≤ 256) (hv : valid s = true) (hh : hasS S d s = false) (hl : S.length < 35184372088832) :
    Calls Try.prog 18 #[.pointer (some ⟨x, 0, none⟩), .int .i64 d, .string s, .int .i64 n] w fun e w' => e = .returned (.int .i64 0) ∧ Hid (IxAt w' x bm (insS (d, s, n) S) ∧ Keeps (fun k => k = bm) w w') := by
  have hs := (valid_size hv).1
  have hwf : (Lit.int .i64 d).wf = true := wf64 (by omega) (by omega)
  have h29 := keyOf_some d s w hv hs
  have h30 := inode_any
  have e1 : (decide (1 ≤ d) && decide (d ≤ 256)) = true := by simp [hd]
  have e2 : (decide (1 ≤ n) && decide (n ≤ 256)) = true := by simp [hn]
  go_enter Try.func18, Try.ntmps18
  go_wp2_with (first
    | (go_at_call 30; refine (h30 _ _).mono ?_; rintro e w0 ⟨rfl, hw0⟩; subst w0; first | rw [e1] | rw [e2])
    | (go_at_call 29; refine h29.mono ?_; rintro e w1 ⟨rfl, hk⟩)
    | (refine wpList_alloc_k rfl rfl ?_)
    | (refine wpList_store_row rfl 55 _ _ rfl _ (kcells d s) rfl rfl 55 kzero (heap_alloc_last _ _) (size55' _ _) (by rw [size_kcells]; exact size_kzero) (kcells_one _ _) ?_; rw [World.setRow_alloc_new]))
  have h1 := h.keep (hk.alloc (.cells (kcells d s) 55)) (fun h => h) (fun h => h)
  obtain ⟨D, ho, ht⟩ := h1.map
  have c0 := cell0 h1.cell
  have hb := heap_alloc_last w1 (.cells (kcells d s) 55)
  have HK : Hid (Keeps (fun _ => False) w (w1.alloc (.cells (kcells d s) 55))) := hk.alloc _
  generalize w1.alloc (.cells (kcells d s) 55) = W at hb ho c0 HK h1 ⊢
  have hlk : ∀ m, (Instr.lookup 50 (.map (some bm)) (.agg (kcells d s)) true).run Try.prog (W.drewN m) = .ok (.tuple #[.int .i64 (getS S d s), .bool false]) (W.drewN m) := by
    intro m
    have ho' : (W.drewN m).ownsMap Try.prog 55 (plainElem Try.prog 3) bm S.length D := ho
    obtain ⟨v, ps, hrun, hat⟩ := ho'.look_ok keyLaw Try.underlying50 (zero3 _) (plainElem_int Try.underlying3 (by decide)) (key := .agg (kcells d s)) (kl := kL d s) (keyOf_mk d s hwf hs)
    rw [ht.at hwf hs] at hat
    obtain ⟨c, rfl, hc, _⟩ := plainElem_int_inv Try.underlying3 hat
    have e : c = getS S d s := by simp at hc; exact hc.1.symm
    rw [hrun, ht.has_eq hwf hs, hh, e]
  refine wp_region_quiet_lit (by kernel_rfl) (by kernel_rfl) ?_
  repeat (first
    | (refine quiet_load55 rfl _ rfl w1.heap.size rfl (kcells d s) hb (size_kcells _ _) ?_)
    | (refine quiet_lookup rfl _ _ _ rfl (.map (some bm)) (.agg (kcells d s)) _ rfl rfl hlk ?_)
    | quiet_step (fail))
  refine wpQuiet_nil ?_
  intro _ hw'
  obtain ⟨nq, rfl⟩ := hw'
  clear hlk
  go_wp2
  refine wp_region_held_drew (S := RegS x bm w1.heap.size (kcells d s)) (by kernel_rfl) ⟨h1.cell, hb⟩ (fun hS => ?_)
  refine takeH 0 (some 39) (.pointer (some ⟨x, 0, none⟩)) rfl rfl (by kernel_rfl) (by kernel_rfl) (by kernel_rfl) (fun _ _ _ h => h) (Or.inl ⟨by rfl, fun w hw => ?_⟩) hS ?_
  · go_simp
  simp only [Act.put, List.setIfInBounds_toArray, List.set_cons_zero, List.set_cons_succ]
  refine takeH 1 (some 40) (.pointer (some ⟨x, 0, none⟩)) rfl rfl (by kernel_rfl) (by kernel_rfl) (by kernel_rfl) (fun _ _ _ h => h) (Or.inl ⟨by rfl, fun w hw => ?_⟩) hS ?_
  · go_simp
  simp only [Act.put, List.setIfInBounds_toArray, List.set_cons_zero, List.set_cons_succ]
  refine takeH 2 (some 41) (.pointer (some ⟨x, 0, none⟩)) rfl rfl (by kernel_rfl) (by kernel_rfl) (by kernel_rfl) (fun _ _ _ h => h) (Or.inl ⟨by rfl, fun w hw => ?_⟩) hS ?_
  · go_simp
  simp only [Act.put, List.setIfInBounds_toArray, List.set_cons_zero, List.set_cons_succ]
  refine takeH 3 (some 42) (.map (some bm)) rfl rfl (by kernel_rfl) (by kernel_rfl) (by kernel_rfl) (fun _ _ _ h => h) (Or.inl ⟨by rfl, fun w hw => ?_⟩) hS ?_
  · have := cell0 hw.1
    go_simp
  simp only [Act.put, List.setIfInBounds_toArray, List.set_cons_zero, List.set_cons_succ]
  refine takeH 4 (some 43) (.agg (kcells d s)) rfl rfl (by kernel_rfl) (by kernel_rfl) (by kernel_rfl) (fun _ _ _ h => h) (Or.inl ⟨by rfl, fun w hw => run_load55 w w1.heap.size (kcells d s) hw.2 (size_kcells _ _) _ _ _ rfl rfl⟩) hS ?_
  simp only [Act.put, List.setIfInBounds_toArray, List.set_cons_zero, List.set_cons_succ]
  refine takeH 5 (some 44) (.int .i64 n) rfl rfl (by kernel_rfl) (by kernel_rfl) (by kernel_rfl) (fun _ _ _ h => h) (Or.inl ⟨by rfl, fun w hw => ?_⟩) hS ?_
  · go_simp
  simp only [Act.put, List.setIfInBounds_toArray, List.set_cons_zero, List.set_cons_succ]
  have ho' : (W.drewN nq).drew.ownsMap Try.prog 55 (plainElem Try.prog 3) bm S.length D := ho
  obtain ⟨w2, hrun, hown, hgr⟩ := ho'.update keyLaw Try.underlying50 (show S.length < maxLen by unfold maxLen; omega) (key := .agg (kcells d s)) (kl := kL d s) (keyOf_mk d s hwf hs) (plainElem_int Try.underlying3 (show (Lit.int .i64 n).wf = true from wf64 (by omega) (by omega)))
  have hne : x ≠ bm := h1.ne
  have hgb : w1.heap.size ≠ bm := by
    rintro e
    obtain ⟨es, cl, hb', _⟩ := ho
    rw [e, hb'] at hb; cases hb
  have hS2 : RegS x bm w1.heap.size (kcells d s) w2 := ⟨by rw [hgr.block x (heap_lt hS.1) (by simpa using hne)]; exact hS.1, by rw [hgr.block _ (heap_lt hS.2) (by simpa using hgb)]; exact hS.2⟩
  refine wpAnyH_ready (rs := [6]) (by kernel_rfl) (by simp) (AllReadyH.cons rfl (fun K hK => ?_) AllReadyH.nil)
  refine step_update rfl _ _ _ rfl _ _ _ rfl rfl rfl w2 hrun ?_
  refine hK.out _ _ hS2 (fun hHeld => ?_)
  refine wpAnyH_done (by kernel_rfl) ?_ _
  go_wp2
  go_ret
  refine ⟨rfl, ⟨hS2.1, _, ?_, ht.put (ho.tidy keyLaw) ⟨hd, hv, hn⟩ hh⟩, ?_⟩
  · rw [ins_len]; exact hown
  · have hgr' : W.grownBy w2 (some bm) := ⟨hgr.os, hgr.tape, hgr.output, hgr.size, hgr.block⟩
    exact (HK.out.mono (fun _ _ h => h.elim)).then (Keeps.of (X := fun k => k = bm) hgr' (by rintro k e; cases e; exact Or.inl rfl)) (fun k h => Or.inl h)

def isIno (n : Int) : Bool := decide (1 ≤ n) && decide (n ≤ 256)
/-- What Put tells; what is there behind it. -/
def putE (S : List Rw) (d : Int) (s : ByteArray) (n : Int) : Int := if isIno d && isIno n then (if valid s then (if hasS S d s then 81 else 0) else 80) else 83
def putS (S : List Rw) (d : Int) (s : ByteArray) (n : Int) : List Rw := if putE S d s n = 0 then insS (d, s, n) S else S

set_option maxHeartbeats 1000000 in
theorem put_inode (w : World) (x bm : Nat) (S : List Rw) (h : IxAt w x bm S) (d : Int) (s : ByteArray) (n : Int) (hn : (isIno d && isIno n) = false) :
    Calls Try.prog 18 #[.pointer (some ⟨x, 0, none⟩), .int .i64 d, .string s, .int .i64 n] w fun e w' => e = .returned (.int .i64 83) ∧ Hid (IxAt w' x bm S ∧ Keeps (fun k => k = bm) w w') := by
  have h30 := inode_any
  rcases Bool.eq_false_or_eq_true (isIno d) with hd | hd
  · have e2 : isIno n = false := by simpa [hd] using hn
    have e1 : (decide (1 ≤ d) && decide (d ≤ 256)) = true := hd
    have e2 : (decide (1 ≤ n) && decide (n ≤ 256)) = false := e2
    clear hn hd
    go_enter Try.func18, Try.ntmps18
    go_wp2_with (first
      | (go_at_call 30; refine (h30 _ _).mono ?_; rintro e w0 ⟨rfl, hw0⟩; subst w0; first | rw [e1] | rw [e2]))
    go_ret
    exact ⟨rfl, h, Keeps.refl _ _⟩
  · have e1 : (decide (1 ≤ d) && decide (d ≤ 256)) = false := hd
    clear hn hd
    go_enter Try.func18, Try.ntmps18
    go_wp2_with (first
      | (go_at_call 30; refine (h30 _ _).mono ?_; rintro e w0 ⟨rfl, hw0⟩; subst w0; rw [e1]))
    go_ret
    exact ⟨rfl, h, Keeps.refl _ _⟩

set_option maxHeartbeats 1000000 in
theorem put_name (w : World) (x bm : Nat) (S : List Rw) (h : IxAt w x bm S) (d : Int) (s : ByteArray) (n : Int) (hd : isIno d = true) (hn : isIno n = true) (hv : valid s = false) :
    Calls Try.prog 18 #[.pointer (some ⟨x, 0, none⟩), .int .i64 d, .string s, .int .i64 n] w fun e w' => e = .returned (.int .i64 80) ∧ Hid (IxAt w' x bm S ∧ Keeps (fun k => k = bm) w w') := by
  have h30 := inode_any
  have h29 := keyOf_none d s w hv
  have e1 : (decide (1 ≤ d) && decide (d ≤ 256)) = true := hd
  have e2 : (decide (1 ≤ n) && decide (n ≤ 256)) = true := hn
  clear hn hd
  go_enter Try.func18, Try.ntmps18
  go_wp2_with (first
    | (go_at_call 30; refine (h30 _ _).mono ?_; rintro e w0 ⟨rfl, hw0⟩; subst w0; first | rw [e1] | rw [e2])
    | (go_at_call 29; refine h29.mono ?_; rintro e w1 ⟨rfl, hk⟩)
    | (refine wpList_alloc_k rfl rfl ?_)
    | (refine wpList_store_row rfl 55 _ _ rfl _ kzero rfl rfl 55 kzero (heap_alloc_last _ _) (by rw [size_kzero]; exact size55) rfl (kcells_one _ _) ?_; rw [World.setRow_alloc_new]))
  go_ret
  exact ⟨rfl, h.keep (hk.alloc _) (fun h => h) (fun h => h), (hk.alloc _).mono (fun _ _ h => h.elim)⟩

set_option maxHeartbeats 1000000 in
theorem put_have (w : World) (x bm : Nat) (S : List Rw) (h : IxAt w x bm S) (d : Int) (s : ByteArray) (n : Int) (hd : 1 ≤ d ∧ d ≤ 256) (hn : 1 ≤ n ∧ n ≤ 256) (hv : valid s = true) (hh : hasS S d s = true) :
    Calls Try.prog 18 #[.pointer (some ⟨x, 0, none⟩), .int .i64 d, .string s, .int .i64 n] w fun e w' => e = .returned (.int .i64 81) ∧ Hid (IxAt w' x bm S ∧ Keeps (fun k => k = bm) w w') := by
  have hs := (valid_size hv).1
  have hwf : (Lit.int .i64 d).wf = true := wf64 (by omega) (by omega)
  have h29 := keyOf_some d s w hv hs
  have h30 := inode_any
  have e1 : (decide (1 ≤ d) && decide (d ≤ 256)) = true := by simp [hd]
  have e2 : (decide (1 ≤ n) && decide (n ≤ 256)) = true := by simp [hn]
  go_enter Try.func18, Try.ntmps18
  go_wp2_with (first
    | (go_at_call 30; refine (h30 _ _).mono ?_; rintro e w0 ⟨rfl, hw0⟩; subst w0; first | rw [e1] | rw [e2])
    | (go_at_call 29; refine h29.mono ?_; rintro e w1 ⟨rfl, hk⟩)
    | (refine wpList_alloc_k rfl rfl ?_)
    | (refine wpList_store_row rfl 55 _ _ rfl _ (kcells d s) rfl rfl 55 kzero (heap_alloc_last _ _) (size55' _ _) (by rw [size_kcells]; exact size_kzero) (kcells_one _ _) ?_; rw [World.setRow_alloc_new]))
  have h1 := h.keep (hk.alloc (.cells (kcells d s) 55)) (fun h => h) (fun h => h)
  obtain ⟨D, ho, ht⟩ := h1.map
  have c0 := cell0 h1.cell
  have hb := heap_alloc_last w1 (.cells (kcells d s) 55)
  have HK : Hid (Keeps (fun _ => False) w (w1.alloc (.cells (kcells d s) 55))) := hk.alloc _
  generalize w1.alloc (.cells (kcells d s) 55) = W at hb ho c0 HK h1 ⊢
  have hlk : ∀ m, (Instr.lookup 50 (.map (some bm)) (.agg (kcells d s)) true).run Try.prog (W.drewN m) = .ok (.tuple #[.int .i64 (getS S d s), .bool true]) (W.drewN m) := by
    intro m
    have ho' : (W.drewN m).ownsMap Try.prog 55 (plainElem Try.prog 3) bm S.length D := ho
    obtain ⟨v, ps, hrun, hat⟩ := ho'.look_ok keyLaw Try.underlying50 (zero3 _) (plainElem_int Try.underlying3 (by decide)) (key := .agg (kcells d s)) (kl := kL d s) (keyOf_mk d s hwf hs)
    rw [ht.at hwf hs] at hat
    obtain ⟨c, rfl, hc, _⟩ := plainElem_int_inv Try.underlying3 hat
    have e : c = getS S d s := by simp at hc; exact hc.1.symm
    rw [hrun, ht.has_eq hwf hs, hh, e]
  refine wp_region_quiet_lit (by kernel_rfl) (by kernel_rfl) ?_
  repeat (first
    | (refine quiet_load55 rfl _ rfl w1.heap.size rfl (kcells d s) hb (size_kcells _ _) ?_)
    | (refine quiet_lookup rfl _ _ _ rfl (.map (some bm)) (.agg (kcells d s)) _ rfl rfl hlk ?_)
    | quiet_step (fail))
  refine wpQuiet_nil ?_
  intro _ hw'
  obtain ⟨nq, rfl⟩ := hw'
  clear hlk
  go_wp2
  go_ret
  exact ⟨rfl, h1.keep (Keeps.drewN (fun _ => False) _ _) (fun h => h) (fun h => h), (HK.out.trans (Keeps.drewN _ _ _)).mono (fun _ _ h => h.elim)⟩

theorem put_any (w : World) (x bm : Nat) (S : List Rw) (h : IxAt w x bm S) (d : Int) (s : ByteArray) (n : Int) (hl : S.length < 35184372088832) :
    Calls Try.prog 18 #[.pointer (some ⟨x, 0, none⟩), .int .i64 d, .string s, .int .i64 n] w fun e w' => e = .returned (.int .i64 (putE S d s n)) ∧ Hid (IxAt w' x bm (putS S d s n) ∧ Keeps (fun k => k = bm) w w') := by
  rcases Bool.eq_false_or_eq_true (isIno d && isIno n) with hi | hi
  · have hd : isIno d = true := by simp at hi; exact hi.1
    have hn : isIno n = true := by simp at hi; exact hi.2
    have hd' : 1 ≤ d ∧ d ≤ 256 := by simpa [isIno] using hd
    have hn' : 1 ≤ n ∧ n ≤ 256 := by simpa [isIno] using hn
    rcases Bool.eq_false_or_eq_true (valid s) with hv | hv
    · rcases Bool.eq_false_or_eq_true (hasS S d s) with hh | hh
      · have e : putE S d s n = 81 := by simp [putE, hi, hv, hh]
        rw [putS, e]; exact put_have w x bm S h d s n hd' hn' hv hh
      · have e : putE S d s n = 0 := by simp [putE, hi, hv, hh]
        rw [putS, e]; exact put_new w x bm S h d s n hd' hn' hv hh hl
    · have e : putE S d s n = 80 := by simp [putE, hi, hv]
      rw [putS, e]; exact put_name w x bm S h d s n hd hn hv
  · have e : putE S d s n = 83 := by simp [putE, hi]
    rw [putS, e]; exact put_inode w x bm S h d s n hi

theorem putS_len (S : List Rw) (d : Int) (s : ByteArray) (n : Int) : (putS S d s n).length ≤ S.length + 1 := by
  unfold putS
  split
  · rw [ins_len]; exact Nat.le_refl _
  · omega

end Go.Proofs.Ytendmohjodeelaa
