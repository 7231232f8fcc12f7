import Derived.Test.YtdlhdompemkjfaaGreatDoorK19
namespace Go.Proofs.YtdlhdompemkjfaaGreatDoor
open Go.RowKit Go.Maps
set_option maxRecDepth 100000

/-! Words as they are written, and read back. -/
def tk (x : Wd) : Bs := if x.quoted = true then quo x.text.data.toList else x.text.data.toList
/-- A word that can stand on a line. -/
def gw (x : Wd) : Prop := x.quoted = true ∨ (x.quoted = false ∧ x.text.data.toList ≠ [] ∧ ∀ c ∈ x.text.data.toList, c ≠ 32 ∧ c ≠ 34)
def joinB : List Wd → Bs
  | [] => []
  | [x] => tk x
  | x :: y :: r => tk x ++ 32 :: joinB (y :: r)
theorem upto_app {c : UInt8} : ∀ (l tl : Bs), (∀ x ∈ l, x ≠ c) → (tl = [] ∨ ∃ r, tl = c :: r) → upto c (l ++ tl) = l.length
  | [], tl, _, ht => by
    rcases ht with rfl | ⟨r, rfl⟩
    · rfl
    · unfold upto
      rw [List.nil_append, List.takeWhile_cons, if_neg (by simp)]
  | b :: l, tl, h, ht => by
    rw [List.cons_append, upto_cons (h b (by simp)), upto_app l tl (fun x hx => h x (by simp [hx])) ht]; rfl
theorem quo_head (l : Bs) : ∃ r, quo l = 34 :: r := ⟨_, rfl⟩
theorem fw_tok {x : Wd} (h : gw x) {tl : Bs} (ht : tl = [] ∨ ∃ r, tl = 32 :: r) : fw (tk x ++ tl) = (x, (tk x).length) ∧ ∃ b r, tk x = b :: r ∧ b ≠ 32 := by
  obtain ⟨text, q⟩ := x
  rcases h with h | ⟨h, hne, hb⟩
  · have hq : q = true := h
    subst hq
    have e : tk ⟨text, true⟩ = quo text.data.toList := if_pos rfl
    rw [e]
    obtain ⟨r, er⟩ := quo_head text.data.toList
    refine ⟨?_, 34, r, er, by decide⟩
    have h34 : (quo text.data.toList ++ tl).getD 0 0 = 34 := by rw [er]; rfl
    rw [fw_quoted h34]
    unfold fwQ
    rw [uq_quo]
    simp only
    rw [if_neg, mkB_data]
    rintro ⟨h1, h2⟩
    rcases ht with rfl | ⟨r2, rfl⟩
    · rw [List.append_nil] at h1; omega
    · apply h2
      rw [List.getD_eq_getElem?_getD, List.getElem?_append_right (Nat.le_refl _)]
      simp
  · have hq : q = false := h
    subst hq
    have e : tk ⟨text, false⟩ = text.data.toList := if_neg (by simp)
    rw [e]
    have hne' : text.data.toList ≠ [] := hne
    have hb' : ∀ c ∈ text.data.toList, c ≠ 32 ∧ c ≠ 34 := hb
    cases hl : text.data.toList with
    | nil => exact absurd hl hne'
    | cons b r =>
      rw [hl] at hb'
      have hb0 := hb' b (by simp)
      refine ⟨?_, b, r, rfl, hb0.1⟩
      have h34 : ¬ ((b :: r) ++ tl).getD 0 0 = 34 := hb0.2
      rw [fw_plain h34]
      have hu := upto_app (c := 32) (b :: r) tl (fun c hc => (hb' c hc).1) ht
      unfold fwP
      rw [hu, List.take_left, if_pos (by rw [List.all_eq_true]; intro c hc; simpa using (hb' c hc).2), ← hl, mkB_data]
theorem wds_blanks (acc : List Wd) : ∀ n, wds acc (List.replicate n 32) = some acc
  | 0 => wds_nil acc
  | n + 1 => by rw [List.replicate_succ, wds_blank, wds_blanks acc n]
theorem blanks_tail (n : Nat) : (List.replicate n (32 : UInt8) = [] ∨ ∃ r, List.replicate n (32 : UInt8) = 32 :: r) := by
  cases n with
  | zero => exact Or.inl rfl
  | succ n => exact Or.inr ⟨_, List.replicate_succ⟩
theorem wds_tok {x : Wd} (h : gw x) (acc : List Wd) {tl : Bs} (ht : tl = [] ∨ ∃ r, tl = 32 :: r) : wds acc (tk x ++ tl) = wds (acc ++ [x]) tl := by
  obtain ⟨hf, b, r, hb, hb32⟩ := fw_tok h ht
  have e : tk x ++ tl = b :: (r ++ tl) := by rw [hb]; rfl
  have hlen : (tk x).length ≠ 0 := by rw [hb]; simp
  rw [e] at hf ⊢
  rw [wds_word hb32 (by rw [hf]; exact hlen), hf]
  show wds (acc ++ [x]) ((b :: (r ++ tl)).drop (tk x).length) = _
  rw [← e, List.drop_left]
/-- Words that are written with a blank between each two are read back, whatever blanks stand behind them. -/
theorem wds_join : ∀ (ws : List Wd) (acc : List Wd) (n : Nat), (∀ x ∈ ws, gw x) → wds acc (joinB ws ++ List.replicate n 32) = some (acc ++ ws)
  | [], acc, n, _ => by
    show wds acc ([] ++ List.replicate n 32) = _
    rw [List.nil_append, wds_blanks, List.append_nil]
  | [x], acc, n, h => by
    show wds acc (tk x ++ List.replicate n 32) = _
    rw [wds_tok (h x (by simp)) acc (blanks_tail n), wds_blanks]
  | x :: y :: r, acc, n, h => by
    show wds acc ((tk x ++ 32 :: joinB (y :: r)) ++ List.replicate n 32) = _
    rw [List.append_assoc, List.cons_append, wds_tok (h x (by simp)) acc (Or.inr ⟨_, rfl⟩), wds_blank, wds_join (y :: r) (acc ++ [x]) n (fun z hz => h z (by simp [hz]))]
    simp
theorem wds_lead (acc : List Wd) (t : Bs) : ∀ n, wds acc (List.replicate n 32 ++ t) = wds acc t
  | 0 => by simp
  | n + 1 => by rw [List.replicate_succ, List.cons_append, wds_blank, wds_lead acc t n]
end Go.Proofs.YtdlhdompemkjfaaGreatDoor

namespace Go.Proofs.YtdlhdompemkjfaaGreatDoor
open Go.RowKit Go.Maps
set_option maxRecDepth 100000

/-! The words of a written line. -/
def numW (n : Int) : Wd := ⟨mkB (Lib.itoa n), false⟩
def tlW (a : Ar) (t : St) : List Wd := match a with
  | .A => [⟨t.a, true⟩]
  | .B => [⟨t.b, true⟩]
  | .N => [numW t.n]
  | .M => [numW t.m]
  | .K => [numW t.k]
  | .L => t.l.map numW
theorem numW_tk (n : Int) : tk (numW n) = Lib.itoa n := rfl
theorem numW_gw (n : Int) : gw (numW n) := Or.inr ⟨rfl, itoa_ne n, fun _ hc => itoa_bytes hc⟩
theorem tlW_tlF (a : Ar) (t : St) : (tlF a t).map (·.data.toList) = (tlW a t).map tk := by
  cases a <;> simp [tlF, tlW, nums10, tk, data_mkB, numW]
theorem tlW_gw (a : Ar) (t : St) : ∀ x ∈ tlW a t, gw x := by
  intro x hx
  cases a with
  | A => rw [List.mem_singleton.1 hx]; exact Or.inl rfl
  | B => rw [List.mem_singleton.1 hx]; exact Or.inl rfl
  | N => rw [List.mem_singleton.1 hx]; exact numW_gw _
  | M => rw [List.mem_singleton.1 hx]; exact numW_gw _
  | K => rw [List.mem_singleton.1 hx]; exact numW_gw _
  | L => obtain ⟨n, _, rfl⟩ := List.mem_map.1 hx; exact numW_gw _
theorem join_joinB : ∀ l : List Wd, Lib.join (l.map tk) [32] = joinB l
  | [] => rfl
  | [x] => by simp [Lib.join, joinB]
  | x :: y :: r => by
    have h := join_joinB (y :: r)
    have e : Lib.join ((x :: y :: r).map tk) [32] = tk x ++ [32] ++ Lib.join ((y :: r).map tk) [32] := by simp [Lib.join]
    rw [e, h]
    show tk x ++ [32] ++ joinB (y :: r) = tk x ++ 32 :: joinB (y :: r)
    simp
def lineW (k : Kd) (t : St) : List Wd := ⟨k.word, false⟩ :: k.args.flatMap fun a => tlW a t
theorem tells_W (t : St) : ∀ l : List Ar, (tells l t).map (·.data.toList) = (l.flatMap fun a => tlW a t).map tk
  | [] => rfl
  | a :: l => by
    have h := tells_W t l
    have e : tells (a :: l) t = tlF a t ++ tells l t := by simp [tells]
    rw [e, List.map_append, tlW_tlF, h, List.flatMap_cons, List.map_append]
theorem line_W (k : Kd) (t : St) : line k t = joinB (lineW k t) := by
  unfold line lineW
  rw [← join_joinB, List.map_cons, tells_W]
  rfl
theorem kd_plain : ∀ k ∈ kds, k.word.data.toList ≠ [] ∧ ∀ c ∈ k.word.data.toList, c ≠ 32 ∧ c ≠ 34 := by decide
theorem lineW_gw {k : Kd} (hk : k ∈ kds) (t : St) : ∀ x ∈ lineW k t, gw x := by
  intro x hx
  rcases List.mem_cons.1 hx with rfl | hx
  · exact Or.inr ⟨rfl, kd_plain k hk⟩
  · obtain ⟨a, _, ha⟩ := List.mem_flatMap.1 hx
    exact tlW_gw a t x ha
/-- The words of a written line, whatever blanks stand behind it. -/
theorem wds_line {k : Kd} (hk : k ∈ kds) (t : St) (n : Nat) : wds [] (line k t ++ List.replicate n 32) = some (lineW k t) := by
  rw [line_W, wds_join (lineW k t) [] n (lineW_gw hk t)]; rfl
theorem kd_found : kds.all (fun k => (kdOf k.word).map (·.num) == some k.num && (numOf k.num).map (·.num) == some k.num) = true := by decide +kernel
theorem kd_one : ∀ i j : Fin 21, (kds[i.val]?).map (·.num) = (kds[j.val]?).map (·.num) → i = j := by decide +kernel
end Go.Proofs.YtdlhdompemkjfaaGreatDoor

namespace Go.Proofs.YtdlhdompemkjfaaGreatDoor
open Go.RowKit Go.Maps
set_option maxRecDepth 100000

/-! Each kind is found by its word, and by its number. -/
theorem kd_finds : ∀ k ∈ kds, kdOf k.word = some k ∧ numOf k.num = some k := by
  intro k hk
  obtain ⟨i, hi, rfl⟩ := List.mem_iff_getElem.1 hk
  have hl : kds.length = 21 := rfl
  rw [hl] at hi
  rcases i with _ | _ | _ | _ | _ | _ | _ | _ | _ | _ | _ | _ | _ | _ | _ | _ | _ | _ | _ | _ | _ | i
  all_goals first
    | omega
    | exact ⟨by kernel_rfl, by kernel_rfl⟩
/-- A written line's words name the kind that wrote it. -/
theorem kind_line {k : Kd} (hk : k ∈ kds) (t : St) : kindOf (lineW k t) = some k := by
  show (if (false : Bool) = true then none else kdOf k.word) = some k
  rw [if_neg (by decide), (kd_finds k hk).1]
/-- Numbers' words are read as they were written. -/
theorem numW_num {n : Int} (h : -9223372036854775808 ≤ n ∧ n ≤ 9223372036854775807) : num (numW n).text.data.toList = some n := num_itoa n h.1 h.2
end Go.Proofs.YtdlhdompemkjfaaGreatDoor

namespace Go.Proofs.YtdlhdompemkjfaaGreatDoor
open Go.RowKit Go.Maps
set_option maxRecDepth 100000

/-! A list's words, read back. -/
theorem stF_list {l : List Ar} : ∀ (xs : List Int) (i : Nat) (t : St), (∀ j, i ≤ j → argAt l j = some .L) → OkI xs → stF l i t (xs.map numW) = some { t with l := t.l ++ xs }
  | [], i, t, _, _ => by simp [stF]
  | n :: xs, i, t, ha, ho => by
    have hn := numW_num (ho n (by simp))
    rw [List.map_cons]
    unfold stF
    rw [ha i (Nat.le_refl _)]
    simp only [rdF, hn, Option.isSome_some, if_true, Option.getD_some]
    rw [stF_list xs (i + 1) _ (fun j hj => ha j (by omega)) (fun m hm => ho m (by simp [hm]))]
    simp
theorem tkF_list {l : List Ar} : ∀ (xs : List Int) (i : Nat), (∀ j, i ≤ j → argAt l j = some .L) → tkF l i (xs.map numW) = true
  | [], i, _ => by simp [tkF]
  | n :: xs, i, ha => by
    rw [List.map_cons]
    unfold tkF
    rw [ha i (Nat.le_refl _)]
    simp only [tkF_list xs (i + 1) (fun j hj => ha j (by omega))]
    rfl
end Go.Proofs.YtdlhdompemkjfaaGreatDoor

namespace Go.Proofs.YtdlhdompemkjfaaGreatDoor
open Go.RowKit Go.Maps
set_option maxRecDepth 100000

/-! A written line's words, read back. -/
def fld (t r : St) (a : Ar) : St := match a with
  | .A => { r with a := t.a }
  | .B => { r with b := t.b }
  | .N => { r with n := t.n }
  | .M => { r with m := t.m }
  | .K => { r with k := t.k }
  | .L => { r with l := r.l ++ t.l }
/-- The word of an argument that has but one. -/
theorem tlW_one {a : Ar} (h : a ≠ .L) {t : St} (ho : OkS t) (r : St) : ∃ x, tlW a t = [x] ∧ rdF a r x = (fld t r a, true) ∧ (a.quo == x.quoted) = true := by
  cases a with
  | A => exact ⟨_, rfl, rfl, rfl⟩
  | B => exact ⟨_, rfl, rfl, rfl⟩
  | N => exact ⟨_, rfl, by simp only [rdF, numW_num ho.n]; rfl, rfl⟩
  | M => exact ⟨_, rfl, by simp only [rdF, numW_num ho.m]; rfl, rfl⟩
  | K => exact ⟨_, rfl, by simp only [rdF, numW_num ho.k]; rfl, rfl⟩
  | L => exact absurd rfl h
theorem at_mid {l pre suf : List Ar} {a : Ar} (h : l = pre ++ a :: suf) : argAt l pre.length = some a := argAt_some (by rw [h]; simp)
theorem at_last {l pre : List Ar} (h : l = pre ++ [Ar.L]) : ∀ j, pre.length ≤ j → argAt l j = some .L := by
  intro j hj
  by_cases hj2 : j < l.length
  · have : j = pre.length := by rw [h] at hj2; simp at hj2; omega
    rw [this]; exact at_mid h
  · rw [argAt_end hj2 (a := .L) (by rw [h]; simp)]; rfl
theorem back_any {t : St} (ho : OkS t) (l : List Ar) : ∀ (suf pre : List Ar) (r : St), l = pre ++ suf → (∀ a ∈ suf.dropLast, a ≠ .L) →
    stF l pre.length r (suf.flatMap fun a => tlW a t) = some (suf.foldl (fld t) r) ∧ tkF l pre.length (suf.flatMap fun a => tlW a t) = true
  | [], pre, r, _, _ => by simp [stF, tkF]
  | [a], pre, r, hl, _ => by
    by_cases hL : a = .L
    · subst hL
      have e : ([Ar.L].flatMap fun a => tlW a t) = t.l.map numW := by simp [tlW]
      rw [e]
      exact ⟨stF_list t.l pre.length r (at_last hl) ho.o, tkF_list t.l pre.length (at_last hl)⟩
    · obtain ⟨x, hx, hr, hq⟩ := tlW_one hL ho r
      have e : ([a].flatMap fun a => tlW a t) = [x] := by simp [hx]
      rw [e]
      constructor
      · unfold stF; rw [at_mid hl]; simp only [hr, if_true]; simp [stF]
      · unfold tkF; rw [at_mid hl]; simp only [hq]; simp [tkF]
  | a :: b :: s, pre, r, hl, hd => by
    have hL : a ≠ .L := hd a (by simp)
    obtain ⟨x, hx, hr, hq⟩ := tlW_one hL ho r
    have e : ((a :: b :: s).flatMap fun a => tlW a t) = x :: ((b :: s).flatMap fun a => tlW a t) := by rw [List.flatMap_cons, hx]; rfl
    have h := back_any ho l (b :: s) (pre ++ [a]) (fld t r a) (by rw [hl]; simp) (fun c hc => hd c (by rw [List.dropLast_cons_cons]; exact List.mem_cons_of_mem _ hc))
    rw [List.length_append] at h
    rw [e]
    constructor
    · unfold stF; rw [at_mid hl]; simp only [hr, if_true]; exact h.1
    · unfold tkF; rw [at_mid hl]; simp only [hq, Bool.true_and]; exact h.2
theorem kd_lists : ∀ k ∈ kds, ∀ a ∈ k.args.dropLast, a ≠ .L := by
  intro k hk
  obtain ⟨i, hi, rfl⟩ := List.mem_iff_getElem.1 hk
  have hl : kds.length = 21 := rfl
  rw [hl] at hi
  rcases i with _ | _ | _ | _ | _ | _ | _ | _ | _ | _ | _ | _ | _ | _ | _ | _ | _ | _ | _ | _ | _ | i
  all_goals first
    | omega
    | (intro a ha; simp [kds] at ha; done)
    | (intro a ha; simp [kds] at ha; rintro rfl; simp at ha)
end Go.Proofs.YtdlhdompemkjfaaGreatDoor

namespace Go.Proofs.YtdlhdompemkjfaaGreatDoor
open Go.RowKit Go.Maps
set_option maxRecDepth 100000

/-! What Line answers to a written line. -/
theorem nds_words (t : St) : ∀ l : List Ar, nds l ≤ (l.flatMap fun a => tlW a t).length
  | [] => by simp [nds]
  | a :: l => by
    have h := nds_words t l
    unfold nds at h ⊢
    rw [List.flatMap_cons, List.length_append, List.filter_cons]
    generalize (l.filter fun a => !a.lst) = X at *
    generalize (l.flatMap fun a => tlW a t).length = Y at *
    cases a with
    | L => show X.length ≤ _; omega
    | A => show X.length + 1 ≤ 1 + Y; omega
    | B => show X.length + 1 ≤ 1 + Y; omega
    | N => show X.length + 1 ≤ 1 + Y; omega
    | M => show X.length + 1 ≤ 1 + Y; omega
    | K => show X.length + 1 ≤ 1 + Y; omega
theorem mem_kds {n : Int} {k : Kd} (h : numOf n = some k) : k ∈ kds ∧ k.num = n := ⟨List.mem_of_find?_eq_some h, by have := List.find?_some h; simpa using this⟩
/-- A step as its line tells it. -/
def bkS (k : Kd) (t : St) : St := k.args.foldl (fld t) (st0 k.num)
theorem line_back {t : St} (ho : OkS t) {k : Kd} (hk : k ∈ kds) (n : Nat) (hl : (line k t ++ List.replicate n 32).length ≤ 20000) :
    lnE (line k t ++ List.replicate n 32) = 0 ∧ lnS (line k t ++ List.replicate n 32) = bkS k t := by
  have hw := wds_line hk t n
  have hb := back_any ho k.args k.args [] (st0 k.num) rfl (kd_lists k hk)
  have hd : (lineW k t).drop 1 = k.args.flatMap fun a => tlW a t := rfl
  have ht : takesF k.args ((lineW k t).drop 1) = true := by
    unfold takesF
    rw [hd, decide_eq_true (nds_words t k.args)]
    exact hb.2
  have hs : stF k.args 0 (st0 k.num) ((lineW k t).drop 1) = some (bkS k t) := by rw [hd]; exact hb.1
  constructor
  · unfold lnE
    rw [if_neg (by omega), hw]
    simp only [kind_line hk t, ht, if_true, hs]
  · unfold lnS
    rw [if_neg (by omega), hw]
    simp only [kind_line hk t, ht, if_true, hs, Option.getD_some]
end Go.Proofs.YtdlhdompemkjfaaGreatDoor
