import Derived.Test.YtdlhdompemkjfaaGreatDoorK22
import Derived.Deep.DeepCutAuto
namespace Go.Proofs.YtdlhdompemkjfaaGreatDoor
open Go.RowKit Go.Maps
set_option maxRecDepth 100000

theorem byte_at (s : ByteArray) (k : Nat) (hk : k < s.size) : s.data.toList[k]? = some s[k] := by
  have : k < s.data.toList.length := by rw [← size_len]; exact hk
  rw [List.getElem?_eq_getElem this]
  rfl
set_option maxHeartbeats 8000000 in
theorem rnumber_any (w : World) (s : ByteArray) :
    Calls Tryz.prog 41 #[.string s] w fun e w' => ∃ n, e = .returned (.tuple #[.int .i64 n, .bool (num s.data.toList).isSome]) ∧ Hid ((∀ v, num s.data.toList = some v → n = v) ∧ Keeps (fun _ => False) w w') := by
  have HS := Hid.mk' (size_len s)
  by_cases hz : s.size = 0
  · have hx : s.data.toList = [] := List.length_eq_zero_iff.1 (by rw [← HS.out]; exact hz)
    have hi : s.toList.isEmpty = true := by rw [ByteArray.toList_eq, hx]; rfl
    have HN : Hid (num s.data.toList = none) := by show _ = _; rw [hx]; exact num_nil
    clear hx
    go_enter Tryz.func41, Tryz.ntmps41
    go_wp2
    try rw [Exit.noGoto_ret]
    refine bodyPost_ret (v := .tuple #[.int .i64 0, .bool false]) (by simp [results, Tryz.results41, go_sem]) rfl ?_
    exact ⟨0, by rw [HN.out]; rfl, And.intro (fun v h => absurd h (by rw [HN.out]; simp)) (Keeps.refl _ _)⟩
  have hi : s.toList.isEmpty = false := by rw [List.isEmpty_eq_false_iff, Ne, empty_iff]; exact hz
  by_cases hbig : 20 < s.size
  · have hbig' : (20 : Int) < (s.size : Int) := by omega
    have HN : Hid (num s.data.toList = none) := by
      show _ = _
      cases hv : num s.data.toList with
      | none => rfl
      | some v =>
        have ht := num_text hv
        have := itoa_len20 ht.2
        rw [← ht.1, ← HS.out] at this
        omega
    go_enter Tryz.func41, Tryz.ntmps41
    go_wp2
    try rw [Exit.noGoto_ret]
    refine bodyPost_ret (v := .tuple #[.int .i64 0, .bool false]) (by simp [results, Tryz.results41, go_sem]) rfl ?_
    exact ⟨0, by rw [HN.out]; rfl, And.intro (fun v h => absurd h (by rw [HN.out]; simp)) (Keeps.refl _ _)⟩
  have hbig' : ¬ (20 : Int) < (s.size : Int) := by omega
  go_enter Tryz.func41, Tryz.ntmps41
  go_wp2
  go_loopw [4, 5] (fun vm vi wr => ∃ (k : Nat) (m : Int), k ≤ s.size ∧ vi = .int .i64 k ∧ vm = .int .i64 m ∧ Hid (NK s.data.toList k m) ∧ Hid (Keeps (fun _ => False) w wr)) (fun _ vi _ => s.size - (intOf vi).toNat)
  case atStart => exact ⟨0, 0, Nat.zero_le _, rfl, rfl, ⟨by decide, fun _ _ => rfl⟩, Keeps.refl _ _⟩
  case round =>
    obtain ⟨k, m, hk, rfl, rfl, HN, HK⟩ := hrel
    by_cases h1 : k < s.size
    · have h1' : (k : Int) < (s.size : Int) := by omega
      have hby := byte_at s k h1
      generalize hbb : s[k] = b at *
      have hbl : b.toNat < 256 := b.toNat_lt
      by_cases hd : 48 ≤ b.toNat ∧ b.toNat ≤ 57
      · have d1 : (48 : Int) ≤ (b.toNat : Int) := by omega
        have d2 : (b.toNat : Int) ≤ 57 := by omega
        have HN2 := Hid.mk' (HN.out.digit hby hd)
        clear hby hd
        go_wp2
        go_roundw
        case rel => exact ⟨k + 1, _, by omega, by go_num, rfl, HN2.out, HK.out⟩
        case measure => simp [intOf]; omega
      · by_cases h0 : k = 0 ∧ b = 45
        · obtain ⟨rfl, rfl⟩ := h0
          have HN2 := Hid.mk' (HN.out.minus hby)
          clear hby hd
          go_wp2
          go_roundw
          case rel => exact ⟨1, m, by omega, by go_num, rfl, HN2.out, HK.out⟩
          case measure => simp [intOf]; omega
        · have HNo := Hid.mk' (NK.bad hby hd h0)
          have hg : (0 < k) ∨ (k = 0 ∧ ¬ b = 45) := by
            rcases Nat.eq_zero_or_pos k with h | h
            · exact Or.inr ⟨h, fun e => h0 ⟨h, e⟩⟩
            · exact Or.inl h
          clear hby h0
          have hdd : (b.toNat < 48) ∨ (48 ≤ b.toNat ∧ 57 < b.toNat) := by omega
          clear hd
          have fin45 : ¬ b = 45 → (((b.toNat : Nat) : Int) != 45) = true := by
            intro h
            refine bne_iff_ne.2 (fun e => h ?_)
            have : b.toNat = 45 := by omega
            exact UInt8.toNat_inj.1 (by rw [this]; rfl)
          rcases hdd with hdd | ⟨hda, hdb⟩
          · have d1 : ¬ (48 : Int) ≤ (b.toNat : Int) := by omega
            rcases hg with hg | ⟨rfl, hg⟩
            · have g1 : (0 : Int) < (k : Int) := by omega
              clear fin45
              go_wp2
              try rw [Exit.noGoto_ret]
              refine bodyPost_ret (v := .tuple #[.int .i64 0, .bool false]) (by simp [results, Tryz.results41, go_sem]) rfl ?_
              exact ⟨0, by rw [HNo.out]; rfl, And.intro (fun v h => absurd h (by rw [HNo.out]; simp)) HK.out⟩
            · have g1 := fin45 hg
              clear fin45
              go_wp2
              try rw [Exit.noGoto_ret]
              refine bodyPost_ret (v := .tuple #[.int .i64 0, .bool false]) (by simp [results, Tryz.results41, go_sem]) rfl ?_
              exact ⟨0, by rw [HNo.out]; rfl, And.intro (fun v h => absurd h (by rw [HNo.out]; simp)) HK.out⟩
          · have d1 : (48 : Int) ≤ (b.toNat : Int) := by omega
            have d2 : ¬ (b.toNat : Int) ≤ 57 := by omega
            rcases hg with hg | ⟨rfl, hg⟩
            · have g1 : (0 : Int) < (k : Int) := by omega
              clear fin45
              go_wp2
              try rw [Exit.noGoto_ret]
              refine bodyPost_ret (v := .tuple #[.int .i64 0, .bool false]) (by simp [results, Tryz.results41, go_sem]) rfl ?_
              exact ⟨0, by rw [HNo.out]; rfl, And.intro (fun v h => absurd h (by rw [HNo.out]; simp)) HK.out⟩
            · have g1 := fin45 hg
              clear fin45
              go_wp2
              try rw [Exit.noGoto_ret]
              refine bodyPost_ret (v := .tuple #[.int .i64 0, .bool false]) (by simp [results, Tryz.results41, go_sem]) rfl ?_
              exact ⟨0, by rw [HNo.out]; rfl, And.intro (fun v h => absurd h (by rw [HNo.out]; simp)) HK.out⟩
    · have h1' : ¬ (k : Int) < (s.size : Int) := by omega
      obtain rfl : k = s.size := by omega
      have hby := byte_at s 0 (by omega)
      have hpos : (0 : Int) < (s.size : Int) := by omega
      have hps : 0 < s.size := by omega
      have HX := Hid.mk' HN.out
      rw [HS.out] at HX
      generalize hbb : s[0] = b at *
      by_cases h45 : b = 45
      · subst h45
        have hf := HX.out.fin hby m (by rw [if_pos rfl])
        have hsh := fun W => show_any W m hf.2.2
        have HF := Hid.mk' hf
        have HQ : Hid (((mkB (Lib.itoa m)).toList == s.toList) = (num s.data.toList).isSome) := by
          show _ = _
          rcases Bool.eq_false_or_eq_true ((mkB (Lib.itoa m)).toList == s.toList) with h | h
          · rw [h]
            have e := toList_inj (beq_iff_eq.1 h)
            have e2 : Lib.itoa m = s.data.toList := by rw [← e, data_mkB]
            exact (HF.out.2.1.1 e2).symm
          · rw [h]
            cases hv : (num s.data.toList).isSome with
            | false => rfl
            | true =>
              have e := HF.out.2.1.2 hv
              rw [e, mkB_data] at h
              simp at h
        clear hf hby
        generalize hBB : ((mkB (Lib.itoa m)).toList == s.toList) = BB at *
        go_wp2_with (first | (go_at_call 22; refine (hsh _).mono ?_; clear hsh; rintro e w3 ⟨rfl, hk3⟩; have HK3 := Hid.mk' hk3; clear hk3))
        try rw [Exit.noGoto_ret]
        refine bodyPost_ret (v := .tuple #[.int .i64 m, .bool BB]) (by simp [results, Tryz.results41, go_sem]) rfl ?_
        exact ⟨_, by rw [HQ.out], And.intro HF.out.1 (HK.out.trans HK3.out)⟩
      · have hf := HX.out.fin hby (wrap64 (-m)) (by rw [if_neg h45])
        have hsh := fun W => show_any W (wrap64 (-m)) hf.2.2
        have g1 : (((b.toNat : Nat) : Int) != 45) = true := by
          refine bne_iff_ne.2 (fun e => h45 ?_)
          have : b.toNat = 45 := by omega
          exact UInt8.toNat_inj.1 (by rw [this]; rfl)
        have HF := Hid.mk' hf
        have HQ : Hid (((mkB (Lib.itoa (wrap64 (-m)))).toList == s.toList) = (num s.data.toList).isSome) := by
          show _ = _
          rcases Bool.eq_false_or_eq_true ((mkB (Lib.itoa (wrap64 (-m)))).toList == s.toList) with h | h
          · rw [h]
            have e := toList_inj (beq_iff_eq.1 h)
            have e2 : Lib.itoa (wrap64 (-m)) = s.data.toList := by rw [← e, data_mkB]
            exact (HF.out.2.1.1 e2).symm
          · rw [h]
            cases hv : (num s.data.toList).isSome with
            | false => rfl
            | true =>
              have e := HF.out.2.1.2 hv
              rw [e, mkB_data] at h
              simp at h
        clear hf hby
        generalize hBB : ((mkB (Lib.itoa (wrap64 (-m)))).toList == s.toList) = BB at *
        go_wp2_with (first | (go_at_call 22; refine (hsh _).mono ?_; clear hsh; rintro e w3 ⟨rfl, hk3⟩; have HK3 := Hid.mk' hk3; clear hk3))
        try rw [Exit.noGoto_ret]
        refine bodyPost_ret (v := .tuple #[.int .i64 (wrap64 (-m)), .bool BB]) (by simp [results, Tryz.results41, go_sem]) rfl ?_
        exact ⟨_, by rw [HQ.out], And.intro HF.out.1 (HK.out.trans HK3.out)⟩
end Go.Proofs.YtdlhdompemkjfaaGreatDoor

namespace Go.Proofs.YtdlhdompemkjfaaGreatDoor
open Go.RowKit Go.Maps
set_option maxRecDepth 100000

/-! The document's Words. -/
def rcell (x : Wd) : Array Value := #[.bool x.quoted, .string x.text]
def rzero : Array Value := #[.bool false, .string ⟨#[]⟩]
theorem infoR : (Tryz.prog.info? 82).map (fun i => (i.zero, i.size, i.bytes)) = some (some (.agg rzero), 2, 24) := by kernel_rfl
theorem sizeR : (Tryz.prog.info? 82).map (·.size) = some 2 := by kernel_rfl
def rcells (l : List Wd) : List Value := l.flatMap fun x => (rcell x).toList
theorem rcells_len (l : List Wd) : (rcells l).length = l.length * 2 := by
  induction l with
  | nil => rfl
  | cons a l ih => simp [rcells, rcell] at ih ⊢; omega
theorem rcells_app (a b : List Wd) : rcells (a ++ b) = rcells a ++ rcells b := by simp [rcells]
def RB (w W : World) (v : Value) (l : List Wd) : Prop := W.ownsRow w.heap.size 82 2 v l.length (rcells l) ∧ Keeps (fun _ => False) w W
theorem RB.nil (w : World) : RB w w (.slice none 0 0) [] := ⟨World.ownsRow_nil _ _ _ _, Keeps.refl _ _⟩
theorem RB.keep {w A B : World} {v : Value} {l : List Wd} (h : RB w A v l) (k : Keeps (fun _ => False) A B) : RB w B v l := ⟨own_grow h.1 k, h.2.trans k⟩
theorem wpList_appr {ops : Array Oper} {rest : List Oper} {o : Oper} {a : Act} {Q : Exit → Act → World → Prop} (hgd : o.guard = none) (s x : Operand)
    (ho : o.op = .call { callee := .builtin .append, args := #[s, x], argTypes := #[78, 78] }) (w W : World) (v : Value) (l : List Wd) (hs : a.eval s = v) (h : RB w W v l) (b : Wd)
    (hx : a.eval x = .slice (some ⟨W.heap.size, 0, none⟩) 1 1) (hl : l.length ≤ 1000000000)
    (K : ∀ v' W', RB w W' v' (l ++ [b]) → wpList Tryz.prog ops Q rest (a.put o.dst v') W') : wpList Tryz.prog ops Q (o :: rest) a (W.alloc (.cells (rcell b) 82)) := by
  obtain ⟨i0, hi, hz0, hz1, hz2⟩ := info_parts infoR
  refine wpList_append_own_at _ hgd s x 78 ho w.heap.size 82 i0 (.agg rzero) 2 24 Tryz.underlying78 hi hz0 hz1 hz2 rfl (by decide) v l.length (rcells l) hs (h.1.alloc _) ⟨W.heap.size, 0, none⟩ 1 1 (rcell b).toList hx rfl ?_ ?_ (by unfold maxLen; omega) (by omega) (by rw [World.size_alloc]; have := h.2.size; omega) ?_
  · intro j u hj
    have h2 := heap_last W (.cells (rcell b) 82)
    rw [addr_add]
    simp only [World.cell?, h2, Nat.zero_add]
    rw [Array.getElem?_toList] at hj
    exact hj
  · intro u hu
    simp only [rcell, List.mem_cons, List.not_mem_nil, or_false] at hu
    rcases hu with rfl | rfl <;> rfl
  · intro v' W' hown hgr _ _
    refine K v' W' ⟨?_, ?_⟩
    · rw [rcells_app, List.length_append]
      have e : rcells [b] = (rcell b).toList := by simp [rcells]
      rw [e]; exact hown
    · refine (h.2.alloc _).step hgr (fun k hk => Or.inr ?_)
      exact ((h.1.lt k hk).1)
theorem fillr (b : Wd) : Instr.fill (fun i => some (i * 2, 2)) ((Array.range (1 * 2)).map (rzero[· % 2]!)) [(0, .agg (rcell b))] = some (rcell b) := by kernel_rfl
theorem wpList_wordr {ops : Array Oper} {rest : List Oper} {o : Oper} {a : Act} {W : World} {Q : Exit → Act → World → Prop} (hgd : o.guard = none) (x : Operand) (ho : o.op = .buildSlice 78 1 #[(0, x)])
    (b : Wd) (hx : a.eval x = .agg (rcell b)) (h : wpList Tryz.prog ops Q rest (a.put o.dst (.slice (some ⟨W.heap.size, 0, none⟩) 1 1)) (W.alloc (.cells (rcell b) 82))) : wpList Tryz.prog ops Q (o :: rest) a W := by
  obtain ⟨i0, hi, hz0, hz1, hz2⟩ := info_parts infoR
  refine wpList_buildSlice hgd 78 82 1 _ ho (rcell b) i0 (.agg rzero) Tryz.underlying78 hi hz0 (by rw [hz1]; decide) (by rw [hz1]; decide) ?_ h
  rw [hz1, show ((#[(0, x)] : Array (Nat × Operand)).map fun (i, x) => (i, a.eval x)).toList = [(0, a.eval x)] by simp, hx]
  exact fillr b
theorem upto_go {t : Bs} {j : Nat} (hj : j ≤ upto 32 t) {b : UInt8} (hb : t[j]? = some b) (hn : ¬ b = 32) : j + 1 ≤ upto 32 t := by
  rcases Nat.lt_or_ge j (upto 32 t) with h | h
  · exact h
  · exfalso
    have e : j = upto 32 t := by omega
    have : ∀ (t : Bs), t[upto 32 t]? = some b → b = 32 := by
      intro t
      induction t with
      | nil => intro h; cases h
      | cons c r ih =>
        intro h
        by_cases hc : c = 32
        · have e0 : upto 32 (c :: r) = 0 := by unfold upto; rw [List.takeWhile_cons, if_neg (by simp [hc])]; rfl
          rw [e0] at h
          have : c = b := by simpa using h
          rw [← this]; exact hc
        · rw [upto_cons hc, List.getElem?_cons_succ] at h
          exact ih h
    exact hn (this t (by rw [← e]; exact hb))
theorem upto_end {t : Bs} {j : Nat} (hj : j ≤ upto 32 t) (h : t[j]? = none ∨ t[j]? = some 32) : j = upto 32 t := by
  rcases Nat.lt_or_ge j (upto 32 t) with h1 | h1
  · exfalso
    have : ∀ (t : Bs) (j : Nat), j < upto 32 t → ∃ b, t[j]? = some b ∧ ¬ b = 32 := by
      intro t
      induction t with
      | nil => intro j hj; simp [upto] at hj
      | cons c r ih =>
        intro j hj
        by_cases hc : c = 32
        · have e0 : upto 32 (c :: r) = 0 := by unfold upto; rw [List.takeWhile_cons, if_neg (by simp [hc])]; rfl
          omega
        · cases j with
          | zero => exact ⟨c, rfl, hc⟩
          | succ j =>
            rw [upto_cons hc] at hj
            obtain ⟨b, hb, hn⟩ := ih j (by omega)
            exact ⟨b, by rw [List.getElem?_cons_succ]; exact hb, hn⟩
    obtain ⟨b, hb, hn⟩ := this t j h1
    rcases h with h | h
    · rw [h] at hb; cases hb
    · rw [h] at hb; cases hb; exact hn rfl
  · omega
/-- The first word, where no quote stands. -/
theorem fw_pl {t : Bs} (h34 : ¬ t.getD 0 0 = 34) {j : Nat} (hj : j = upto 32 t) (ha : (t.take j).all (· != 34) = true) : fw t = (⟨mkB (t.take j), false⟩, j) := by
  unfold fw
  rw [if_neg h34]
  unfold fwP
  rw [← hj, if_pos ha]
theorem fw_pl_bad {t : Bs} (h34 : ¬ t.getD 0 0 = 34) {j : Nat} (hj : j < upto 32 t) (hb : t[j]? = some 34) : (fw t).2 = 0 := by
  unfold fw
  rw [if_neg h34]
  unfold fwP
  rw [if_neg]
  intro ha
  rw [List.all_eq_true] at ha
  have : (34 : UInt8) ∈ t.take (upto 32 t) := List.mem_of_getElem? (i := j) (by rw [List.getElem?_take, if_pos hj]; exact hb)
  have := ha _ this
  simp at this
theorem fw_quo_none {t : Bs} (h34 : t.getD 0 0 = 34) (h : uq t = none) : (fw t).2 = 0 := by
  unfold fw
  rw [if_pos h34]
  unfold fwQ
  rw [h]
theorem fw_quo_bad {t : Bs} (h34 : t.getD 0 0 = 34) {a : Bs} {n : Nat} (h : uq t = some (a, n)) (hn : n < t.length) (hb : ¬ t.getD n 0 = 32) : (fw t).2 = 0 := by
  unfold fw
  rw [if_pos h34]
  unfold fwQ
  rw [h]
  simp only
  rw [if_pos ⟨hn, hb⟩]
theorem fw_quo {t : Bs} (h34 : t.getD 0 0 = 34) {a : Bs} {n : Nat} (h : uq t = some (a, n)) (hb : n < t.length → t.getD n 0 = 32) : fw t = (⟨mkB a, true⟩, n) := by
  unfold fw
  rw [if_pos h34]
  unfold fwQ
  rw [h]
  simp only
  rw [if_neg (fun hh => hh.2 (hb hh.1))]
end Go.Proofs.YtdlhdompemkjfaaGreatDoor
