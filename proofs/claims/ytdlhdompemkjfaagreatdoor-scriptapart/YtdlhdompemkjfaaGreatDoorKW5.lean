import Derived.Test.YtdlhdompemkjfaaGreatDoorKW4
import Derived.Test.YtdlhdompemkjfaaGreatDoorKQ4o
namespace Go.Proofs.YtdlhdompemkjfaaGreatDoor
open Go.RowKit Go.Maps
set_option maxRecDepth 100000

/-! What is written is read back, by itself. -/
theorem kd_chars : ∀ k ∈ kds, k.word.data.toList ≠ [] ∧ ∀ c ∈ k.word.data.toList, c ≠ 32 ∧ c ≠ 35 ∧ c ≠ 10 := by decide
theorem itoa_no10 {n : Int} : (10 : UInt8) ∉ Lib.itoa n := by
  intro h
  unfold Lib.itoa at h
  split at h
  · rcases List.mem_cons.1 h with h | h
    · exact absurd h (by decide)
    · exact absurd (dec_bytes _ _ h).1 (by decide)
  · exact absurd (dec_bytes _ _ h).1 (by decide)
theorem quo_no10 {s : Bs} : (10 : UInt8) ∉ quo s := by
  intro h
  unfold quo at h
  rcases List.mem_cons.1 h with h | h
  · exact absurd h (by decide)
  · rcases List.mem_append.1 h with h | h
    · obtain ⟨b, _, hb⟩ := List.mem_flatMap.1 h
      have := List.all_eq_true.1 (esc_prt b) 10 hb
      exact absurd this (by decide)
    · exact absurd (List.mem_singleton.1 h) (by decide)
theorem line_no10 {k : Kd} (hk : k ∈ kds) (t : St) : (10 : UInt8) ∉ line k t := by
  rw [line_eq hk]
  intro h
  rcases List.mem_append.1 h with h | h
  · rcases List.mem_append.1 h with h | h
    · exact ((kd_chars k hk).2 10 h).2.2 rfl
    · obtain ⟨a, _, ha⟩ := List.mem_flatMap.1 h
      rcases List.mem_cons.1 ha with ha | ha
      · exact absurd ha (by decide)
      · cases a
        · exact quo_no10 ha
        · exact quo_no10 ha
        · exact itoa_no10 ha
        · exact itoa_no10 ha
        · exact itoa_no10 ha
        · cases ha
  · split at h
    · obtain ⟨n, _, hn⟩ := List.mem_flatMap.1 h
      rcases List.mem_cons.1 hn with hn | hn
      · exact absurd hn (by decide)
      · exact itoa_no10 hn
    · cases h
theorem line_psd {k : Kd} (hk : k ∈ kds) (t : St) : psd (line k t) = false := by
  have hc := kd_chars k hk
  rw [line_eq hk]
  cases hw : k.word.data.toList with
  | nil => exact absurd hw hc.1
  | cons c r =>
    have := hc.2 c (by rw [hw]; simp)
    unfold psd
    rw [List.append_assoc, List.cons_append, List.dropWhile_cons, if_neg (by simpa using this.1)]
    exact beq_eq_false_iff_ne.2 this.2.1
/-- A step whose line is read back. -/
structure Rdb (t : St) : Prop where
  ok : OkS t
  ne : prF t ≠ []
  len : (prF t).length ≤ 16101
  ln : ∃ k ∈ kds, prF t = line k t
  e : lnE (prF t) = 0
  s : lnS (prF t) = t
theorem cut_rdb {t : St} (h : InS t) : Rdb (cutF t) := by
  obtain ⟨h1, h2, h3, h4, h5⟩ := cut_round h 0 0 (by decide)
  simp only [List.replicate_zero, List.nil_append, List.append_nil] at h4 h5
  exact ⟨(cut_ok h).1, h2, h3, ⟨_, (kdF_in t.kind).2.1, h1⟩, h4, h5⟩
def wkS : St := st0 15
theorem wk_cut : cutF wkS = wkS := by kernel_rfl
theorem wk_rdb : Rdb wkS := by
  rw [← wk_cut]
  have h := st0_ok 15
  exact cut_rdb ⟨h.n, h.m, h.k, h.o⟩
theorem prs_txL : ∀ l : List St, (∀ t ∈ l, Rdb t) → prs (txL l) = l.map prF
  | [], _ => by
    show prs [] = []
    unfold prs
    simp [spl, psd]
  | t :: l, h => by
    obtain ⟨k, hk, e⟩ := (h t (by simp)).ln
    have e1 : txL (t :: l) = prF t ++ 10 :: txL l := by simp [txL]
    have ih := prs_txL l (fun x hx => h x (by simp [hx]))
    unfold prs at ih ⊢
    rw [e1, spl_hit _ _ (by rw [e]; exact line_no10 hk t), List.filter_cons, ih, if_pos (by rw [e, line_psd hk t]; rfl)]
    rfl
theorem txL_short {l : List St} (h : ∀ t ∈ l, Rdb t) : (txL l).length ≤ l.length * 16102 := by
  induction l with
  | nil => simp [txL]
  | cons t l ih =>
    have h1 := ih (fun x hx => h x (by simp [hx]))
    have h2 := (h t (by simp)).len
    have e1 : txL (t :: l) = prF t ++ 10 :: txL l := by simp [txL]
    rw [e1, List.length_append, List.length_cons, List.length_cons]; omega
theorem txF_all {l : List St} (h : ∀ t ∈ l, Rdb t) : txF l = txL l := by
  unfold txF
  rw [if_pos]
  rw [List.all_eq_true]
  intro t ht
  have := (h t ht).ne
  simpa using this
theorem txL_last (l : List St) (t : St) : ∃ x, txL (l ++ [t]) = x ++ [10] := ⟨txL l ++ prF t, by simp [txL]⟩

/-! A step's kind struck out. -/
theorem pcells_set : ∀ (l : List (St × Value)) (k : Nat) (t : St) (v : Value), l[k]? = some (t, v) → pcells (l.set k ({ t with kind := 0 }, v)) = (pcells l).set (k * 7) (.int .i64 0)
  | [], k, t, v, h => by simp at h
  | q :: l, 0, t, v, h => by
    obtain rfl : q = (t, v) := by simpa using h
    simp [pcells, scell]
  | q :: l, k + 1, t, v, h => by
    have ih := pcells_set l k t v (by simpa using h)
    have e : ∀ l', pcells (q :: l') = (scell q.1 q.2).toList ++ pcells l' := fun l' => by simp [pcells]
    have h7 : (scell q.1 q.2).toList.length = 7 := rfl
    rw [List.set_cons_succ, e, ih, e, List.set_append_right (h := by omega), h7, show (k + 1) * 7 - 7 = k * 7 by omega]
theorem PR.kind0 {w W : World} {v : Value} {l : List (St × Value)} (h : PR w W v l) {k : Nat} {t : St} {z : Value} (hk : l[k]? = some (t, z)) : ∃ g cap, v = .slice (some ⟨g, 0, none⟩) l.length cap ∧ l.length ≤ cap ∧ W.cell? ⟨g, k * 7, none⟩ = some (.int .i64 t.kind) ∧ W.frozen? ⟨g, k * 7, none⟩ = false ∧
    StR (W.setCell ⟨g, k * 7, none⟩ (.int .i64 0)) v (l.set k ({ t with kind := 0 }, z)) ∧ (Keeps (fun _ => False) w W → Keeps (fun _ => False) w (W.setCell ⟨g, k * 7, none⟩ (.int .i64 0))) := by
  have hkl : k < l.length := (List.getElem?_eq_some_iff.1 hk).1
  rcases h.row.2 with ⟨rfl, h0⟩ | ⟨g, cap, cur, rfl, hg, hb, h1, h2, h3, h4⟩
  · omega
  · have hcur : ∀ (j : Nat) (u : Value), (pcells l)[j]? = some u → cur[j]? = some u := by
      intro j u hj
      rw [← h4, List.getElem?_take] at hj
      split at hj
      · rw [← Array.getElem?_toList]; exact hj
      · cases hj
    have hc0 : cur[k * 7]? = some (.int .i64 t.kind) := hcur _ _ (by have := pcells_at l k (t, z) hk 0 (.int .i64 t.kind) rfl; rwa [Nat.add_zero] at this)
    have k1 : Keeps (fun i => i = g) W (W.setCell ⟨g, k * 7, none⟩ (.int .i64 0)) := Keeps.of (grownBy_setCell _ _ _) (fun i hi => Or.inl (by cases hi; rfl))
    have hb2 := setCell_block (a := ⟨g, k * 7, none⟩) (v := .int .i64 0) hb rfl
    refine ⟨g, cap, rfl, h1, by simp only [World.cell?, hb]; exact hc0, by simp only [World.frozen?, hb]; simp, ⟨⟨_, cap, by rw [List.length_set], by rw [List.length_set]; exact h1, fun _ => ⟨g, 0, rfl, heap_lt hb2, fun j u hj => ?_⟩⟩, fun p hp => ?_⟩, fun hk => hk.then k1 (fun i hi => Or.inr (by rw [hi]; exact hg))⟩
    · rw [pcells_set l k t z hk] at hj
      simp only [World.cell?, hb2, Nat.zero_add]
      rw [List.getElem?_set] at hj
      rw [Array.getElem?_setIfInBounds]
      split at hj
      · rename_i e
        subst e
        split at hj
        · have hs : k * 7 < cur.size := (Array.getElem?_eq_some_iff.1 hc0).1
          rw [if_pos rfl, if_pos hs]; exact hj
        · cases hj
      · rename_i e
        rw [if_neg e]
        exact hcur j u hj
    · have hrow : ∀ q ∈ l, Row (W.setCell ⟨g, k * 7, none⟩ (.int .i64 0)) q.2 q.1.l.length (ints q.1.l) := fun q hq => Row.of_own (own_keep (h.ins q hq) k1 (fun g' hg' e => own_types h.row (h.ins q hq) (by decide) g (by rfl) (by rw [← e]; exact hg')))
      rcases List.mem_or_eq_of_mem_set hp with hp | rfl
      · exact hrow p hp
      · exact hrow (t, z) (List.mem_of_getElem? hk)
theorem txF_zero {l : List St} {k : Nat} {t : St} (h : l[k]? = some t) (ht : t.kind = 0) : txF l = [] := by
  refine txF_no h ?_
  have hn : numOf t.kind = none := by rw [ht]; decide +kernel
  rw [prF_none hn]; rfl
end Go.Proofs.YtdlhdompemkjfaaGreatDoor
