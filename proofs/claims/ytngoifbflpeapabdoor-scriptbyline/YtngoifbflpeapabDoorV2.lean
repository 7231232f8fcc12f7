import Derived.Test.YtngoifbflpeapabDoorS4
import Derived.Test.YtngoifbflpeapabDoorH4
import Derived.Test.YtngoifbflpeapabDoorQ2
namespace Go.Proofs.YtngoifbflpeapabDoor
open Go.RowKit Go.Maps
set_option maxRecDepth 100000

/-! The statements' own lines, and which of them are passed over. -/
theorem psd_drop {x : Bs} {k : Nat} {b : UInt8} (h : x[k]? = some b) (hb : b = 32) : (x.drop k).dropWhile (· == 32) = (x.drop (k + 1)).dropWhile (· == 32) := by
  obtain ⟨hk, e⟩ := List.getElem?_eq_some_iff.1 h
  rw [List.drop_eq_getElem_cons hk, e, List.dropWhile_cons, hb]
  rfl
theorem psd_at {x : Bs} {k : Nat} {b : UInt8} (h : x[k]? = some b) (hb : ¬ b = 32) : (x.drop k).dropWhile (· == 32) = b :: x.drop (k + 1) := by
  obtain ⟨hk, e⟩ := List.getElem?_eq_some_iff.1 h
  rw [List.drop_eq_getElem_cons hk, e, List.dropWhile_cons, if_neg (by simpa using hb)]
theorem psd_def (x : Bs) : psd x = match x.dropWhile (· == 32) with
  | [] => true
  | b :: _ => b == 35 := rfl
theorem byte_some (s : ByteArray) (k : Nat) (hk : k < s.size) : s.data.toList[k]? = some s[k] := by
  have : k < s.data.toList.length := by rw [← size_len]; exact hk
  rw [List.getElem?_eq_getElem this]
  rfl
theorem byte_int (b : UInt8) (c : Nat) (hc : c < 256) : (((b.toNat : Nat) : Int) == (c : Int)) = (b == UInt8.ofNat c) := by
  by_cases hb : b = UInt8.ofNat c
  · subst hb
    rw [show (UInt8.ofNat c).toNat = c by rw [UInt8.toNat_ofNat']; omega]
    simp
  · rw [beq_eq_false_iff_ne.2 hb]
    refine beq_eq_false_iff_ne.2 (fun e => hb ?_)
    have : b.toNat = c := by omega
    rw [← this]
    exact UInt8.ofNat_toNat.symm

set_option maxHeartbeats 2000000 in
theorem idle_any (w : World) (s : ByteArray) (hs : s.size ≤ 1000000) : Calls Tryd.prog 15 #[.string s] w fun e w' => e = .returned (.bool (psd s.data.toList)) ∧ Keeps (fun _ => False) w w' := by
  have HS := Hid.mk' (size_len s)
  go_enter Tryd.func15, Tryd.ntmps15
  go_wp2
  go_loopw [3] (fun i wr => ∃ k : Nat, k ≤ s.size ∧ i = .int .i64 k ∧ Hid (Keeps (fun _ => False) w wr) ∧ Hid (s.data.toList.dropWhile (· == 32) = (s.data.toList.drop k).dropWhile (· == 32))) (fun i _ => s.size - (intOf i).toNat)
  case atStart => exact ⟨0, Nat.zero_le _, rfl, Keeps.refl _ _, by show _ = _; rw [List.drop_zero]⟩
  case round =>
    obtain ⟨k, hk, rfl, HK, HD⟩ := hrel
    by_cases h1 : k < s.size
    · have h1' : (k : Int) < (s.size : Int) := by omega
      have hne : ¬ (k : Int) = (s.size : Int) := by omega
      have hneb : ((k : Int) == (s.size : Int)) = false := beq_eq_false_iff_ne.2 hne
      have hby := byte_some s k h1
      have q32 := byte_int s[k] 32 (by decide)
      have q35 := byte_int s[k] 35 (by decide)
      generalize hbb : s[k] = b at *
      by_cases h32 : b = 32
      · have g32 : (((b.toNat : Nat) : Int) == 32) = true := by rw [h32]; rfl
        have HD2 := Hid.mk' (HD.out.trans (psd_drop hby h32))
        clear hby q32 q35 h32
        go_wp2
        go_roundw
        case rel => exact ⟨k + 1, by omega, by go_num, HK.out, HD2.out⟩
        case measure => simp [intOf]; omega
      · have g32 : (((b.toNat : Nat) : Int) == 32) = false := by rw [show (32 : Int) = ((32 : Nat) : Int) from rfl, q32]; exact beq_eq_false_iff_ne.2 h32
        have HE : Hid (psd s.data.toList = (((b.toNat : Nat) : Int) == 35)) := by
          show _ = _
          rw [psd_def, HD.out, psd_at hby h32, show (35 : Int) = ((35 : Nat) : Int) from rfl, q35]
          rfl
        clear hby q32 q35 h32
        go_wp2
        go_ret
        exact ⟨by rw [HE.out]; rfl, HK.out⟩
    · have h1' : ¬ (k : Int) < (s.size : Int) := by omega
      have hneb : ((k : Int) == (s.size : Int)) = true := beq_iff_eq.2 (by omega)
      have HE : Hid (psd s.data.toList = true) := by
        show _ = _
        rw [psd_def, HD.out, List.drop_of_length_le (by rw [← HS.out]; omega)]
        rfl
      go_wp2
      go_ret
      exact ⟨by rw [HE.out]; rfl, HK.out⟩
/-- Where the statements' lines stands: what is laid, and what is left. -/
def LI (x : Bs) (k f : Nat) (acc : List Bs) : Prop := (k ≤ x.length ∧ f ≤ k ∧ acc ++ spl (x.drop f) = spl x ∧ (10 : UInt8) ∉ (x.drop f).take (k - f) ∧ acc.length ≤ k) ∨ (k = x.length + 1 ∧ acc = spl x ∧ f = x.length + 1)
theorem LI.start (x : Bs) : LI x 0 0 [] := Or.inl ⟨Nat.zero_le _, Nat.le_refl _, rfl, by simp, Nat.le_refl _⟩
theorem LI.go {x : Bs} {k f : Nat} {acc : List Bs} (h : LI x k f acc) (hk : k < x.length) {b : UInt8} (hb : x[k]? = some b) (hn : ¬ b = 10) : LI x (k + 1) f acc := by
  rcases h with ⟨h1, h2, h3, h4, h5⟩ | ⟨h1, _⟩
  · refine Or.inl ⟨by omega, by omega, h3, ?_, by omega⟩
    rw [show k + 1 - f = (k - f) + 1 by omega, List.take_add_one, List.getElem?_drop, show f + (k - f) = k by omega, hb, Option.toList_some]
    intro hm
    rcases List.mem_append.1 hm with hm | hm
    · exact h4 hm
    · exact hn (List.mem_singleton.1 hm).symm
  · omega
theorem LI.cut {x : Bs} {k f : Nat} {acc : List Bs} (h : LI x k f acc) (hk : k < x.length) (hb : x[k]? = some 10) : LI x (k + 1) (k + 1) (acc ++ [(x.drop f).take (k - f)]) := by
  rcases h with ⟨h1, h2, h3, h4, h5⟩ | ⟨h1, _⟩
  · refine Or.inl ⟨by omega, Nat.le_refl _, ?_, by simp, by rw [List.length_append, List.length_singleton]; omega⟩
    have e : x.drop f = (x.drop f).take (k - f) ++ 10 :: x.drop (k + 1) := by
      have hlt : k - f < (x.drop f).length := by rw [List.length_drop]; omega
      have := List.take_append_drop (k - f) (x.drop f)
      rw [List.drop_drop, show f + (k - f) = k by omega] at this
      obtain ⟨hk2, e2⟩ := List.getElem?_eq_some_iff.1 hb
      rw [List.drop_eq_getElem_cons hk2, e2] at this
      exact this.symm
    rw [← h3]
    conv => rhs; rw [e, spl_hit _ _ h4]
    simp
  · omega
theorem LI.last {x : Bs} {f : Nat} {acc : List Bs} (h : LI x x.length f acc) : LI x (x.length + 1) (x.length + 1) (acc ++ [(x.drop f).take (x.length - f)]) := by
  rcases h with ⟨h1, h2, h3, h4, h5⟩ | ⟨h1, _⟩
  · refine Or.inr ⟨rfl, ?_, rfl⟩
    rw [← h3]
    have e : (x.drop f).take (x.length - f) = x.drop f := List.take_of_length_le (by rw [List.length_drop]; exact Nat.le_refl _)
    rw [e] at h4 ⊢
    rw [spl_none _ h4]
  · omega

set_option maxHeartbeats 4000000 in
theorem lines_any (w : World) (s : ByteArray) (hs : s.size ≤ 1000000) : Calls Tryd.prog 14 #[.string s] w fun e w' => ∃ v, e = .returned v ∧ Hid (SR w w' v ((spl s.data.toList).map mkB)) := by
  have HS := Hid.mk' (size_len s)
  go_enter Tryd.func14, Tryd.ntmps14
  go_wp2
  go_loopw [3, 4, 5] (fun v f i wr => ∃ k g : Nat, k ≤ s.size + 1 ∧ i = .int .i64 k ∧ f = .int .i64 g ∧ ∃ acc, Hid (LI s.data.toList k g acc) ∧ Hid (SR w wr v (acc.map mkB))) (fun _ _ i _ => s.size + 1 - (intOf i).toNat)
  case atStart => exact ⟨0, 0, Nat.zero_le _, rfl, rfl, [], LI.start _, SR.nil w⟩
  case round =>
    obtain ⟨k, g, hk, rfl, rfl, acc, HL, HR⟩ := hrel
    by_cases h1 : k ≤ s.size
    · have h1' : (k : Int) ≤ (s.size : Int) := by omega
      have hgk : g ≤ k ∧ acc.length ≤ k := by
        rcases HL.out with ⟨_, h2, _, _, h5⟩ | ⟨h2, _⟩
        · exact ⟨h2, h5⟩
        · rw [← HS.out] at h2; omega
      have hg1 : ¬ (k : Int) < (g : Int) := by omega
      have hg2 : ¬ (g : Int) < 0 := by omega
      have hg3 : (g : Int) ≤ (k : Int) := by omega
      have HX : Hid (s.extract g k = mkB ((s.data.toList.drop g).take (k - g))) := mkB_extr s g k
      by_cases he : k = s.size
      · have heb : ((k : Int) == (s.size : Int)) = true := beq_iff_eq.2 (by omega)
        have HL2 : Hid (LI s.data.toList (k + 1) (k + 1) (acc ++ [(s.data.toList.drop g).take (k - g)])) := by
          have h := HL.out
          show LI _ _ _ _
          rw [he, HS.out] at h ⊢
          exact h.last
        clear he
        go_wp2_with (first
          | (at_builtin; go_must (refine wpList_apps rfl _ _ rfl w wr u3 _ (by rfl) HR.out (s.extract g k) (by rfl) (by rw [List.length_map]; omega) ?_); intro v2 W2 hO; have HO2 := Hid.mk' hO; clear hO))
        go_roundw
        case rel => exact ⟨k + 1, k + 1, by omega, by go_num, by go_num, _, HL2.out, by have h := HO2.out; rw [HX.out] at h; rw [List.map_append]; exact h⟩
        case measure => simp [intOf]; omega
      · have heb : ((k : Int) == (s.size : Int)) = false := beq_eq_false_iff_ne.2 (by omega)
        have h2 : k < s.size := by omega
        have h2' : (k : Int) < (s.size : Int) := by omega
        have hby := byte_some s k h2
        generalize hbb : s[k] = b at *
        by_cases h10 : b = 10
        · subst h10
          have g10 : ((((10 : UInt8).toNat : Nat) : Int) == 10) = true := rfl
          have HL2 := Hid.mk' (HL.out.cut (by rw [← HS.out]; exact h2) hby)
          clear hby
          go_wp2_with (first
            | (at_builtin; go_must (refine wpList_apps rfl _ _ rfl w wr u3 _ (by rfl) HR.out (s.extract g k) (by rfl) (by rw [List.length_map]; omega) ?_); intro v2 W2 hO; have HO2 := Hid.mk' hO; clear hO))
          go_roundw
          case rel => exact ⟨k + 1, k + 1, by omega, by go_num, by go_num, _, HL2.out, by have h := HO2.out; rw [HX.out] at h; rw [List.map_append]; exact h⟩
          case measure => simp [intOf]; omega
        · have g10 : (((b.toNat : Nat) : Int) == 10) = false := by
            rw [show (10 : Int) = ((10 : Nat) : Int) from rfl, byte_int b 10 (by decide)]
            exact beq_eq_false_iff_ne.2 h10
          have HL2 := Hid.mk' (HL.out.go (by rw [← HS.out]; exact h2) hby h10)
          clear hby
          go_wp2
          go_roundw
          case rel => exact ⟨k + 1, g, by omega, by go_num, rfl, acc, HL2.out, HR.out⟩
          case measure => simp [intOf]; omega
    · have h1' : ¬ (k : Int) ≤ (s.size : Int) := by omega
      have HE : Hid (acc = spl s.data.toList) := by
        rcases HL.out with ⟨h2, _⟩ | ⟨_, h2, _⟩
        · rw [← HS.out] at h2; omega
        · exact h2
      go_wp2
      try rw [Exit.noGoto_ret]
      refine bodyPost_ret (v := u3) (by simp [results, Tryd.results14, go_sem]) rfl ?_
      exact ⟨_, rfl, by have := HR.out; rw [HE.out] at this; exact this⟩
end Go.Proofs.YtngoifbflpeapabDoor

namespace Go.Proofs.YtngoifbflpeapabDoor
open Go.RowKit Go.Maps
set_option maxRecDepth 100000

/-! P19.4, by itself: the lines of texts joined. -/
theorem spl_app (y : Bs) : ∀ x : Bs, spl (x ++ 10 :: y) = spl x ++ spl y
  | [] => by show spl (10 :: y) = [[]] ++ spl y; rw [spl, if_pos rfl]; rfl
  | b :: x => by
    show spl (b :: (x ++ 10 :: y)) = _
    rw [spl, spl, spl_app y x]
    by_cases hb : b = 10
    · rw [if_pos hb, if_pos hb]; rfl
    · rw [if_neg hb, if_neg hb]
      cases hs : spl x with
      | nil => exact absurd hs (spl_ne x)
      | cons l ls => rfl
theorem prs_app (x y : Bs) : prs (x ++ 10 :: y) = prs x ++ prs y := by unfold prs; rw [spl_app, List.filter_append]
def infoB : Bs := [105, 110, 102, 111]
theorem prs_info : prs infoB = [infoB] := by decide
def allB (x y : Bs) : Bs := infoB ++ 10 :: (x ++ 10 :: y)
theorem prs_all (x y : Bs) : prs (allB x y) = infoB :: (prs x ++ prs y) := by
  unfold allB
  rw [prs_app, prs_app, prs_info]; rfl
theorem info_read : lnE infoB = 0 ∧ lnS infoB = st0 16 := by
  have hk : (⟨16, ⟨#[105, 110, 102, 111]⟩, []⟩ : Kd) ∈ kds := by simp [kds]
  have h := line_back (st0_ok 16) hk 0 (by decide)
  exact h
theorem filt_at {ls : List Bs} {k : Nat} {l : Bs} (h : ls[k]? = some l) (hp : psd l = false) : (ls.filter fun l => !psd l)[((ls.take k).filter fun l => !psd l).length]? = some l := by
  have e : ls = ls.take k ++ l :: ls.drop (k + 1) := by
    obtain ⟨hk, e⟩ := List.getElem?_eq_some_iff.1 h
    conv => lhs; rw [← List.take_append_drop k ls, List.drop_eq_getElem_cons hk, e]
  conv => lhs; rw [e]
  rw [List.filter_append, List.filter_cons_of_pos (by simp [hp])]
  rw [List.take_append_of_le_length (by rw [List.length_take]; obtain ⟨hk, _⟩ := List.getElem?_eq_some_iff.1 h; omega)]
  rw [List.take_take, Nat.min_self, List.getElem?_append_right (Nat.le_refl _), Nat.sub_self]
  rfl
theorem all_str (s u : ByteArray) : (((⟨#[105, 110, 102, 111, 10]⟩ : ByteArray) ++ s) ++ ⟨#[10]⟩) ++ u = mkB (allB s.data.toList u.data.toList) := by
  rw [show (⟨#[105, 110, 102, 111, 10]⟩ : ByteArray) = mkB [105, 110, 102, 111, 10] from rfl, show (⟨#[10]⟩ : ByteArray) = mkB [10] from rfl]
  conv => lhs; rw [← mkB_data s, ← mkB_data u, mkB_app, mkB_app, mkB_app]
  simp [allB, infoB]
theorem all_len (x y : Bs) : (allB x y).length = x.length + y.length + 6 := by simp [allB, infoB]; omega
/-- The cells of a step of a list. -/
theorem PR.at {w W : World} {v : Value} {l : List (St × Value)} (h : PR w W v l) {i : Nat} {p : St × Value} (hi : l[i]? = some p) : ∃ b o c, v = .slice (some ⟨b, o, none⟩) l.length c ∧ b < W.heap.size ∧ ∀ j u, (scell p.1 p.2)[j]? = some u → W.cell? ⟨b, o + (i * 7 + j), none⟩ = some u := by
  obtain ⟨a, c, rfl, _, hc⟩ := Row.of_own h.row
  obtain ⟨hi2, e⟩ := List.getElem?_eq_some_iff.1 hi
  obtain ⟨b, o, rfl, hb, hcell⟩ := hc (by omega)
  refine ⟨b, o, c, rfl, hb, fun j u hj => hcell (i * 7 + j) u ?_⟩
  have hj7 : j < 7 := by
    have := (Array.getElem?_eq_some_iff.1 hj).1
    simpa [scell] using this
  have es : l = l.take i ++ p :: l.drop (i + 1) := by
    conv => lhs; rw [← List.take_append_drop i l, List.drop_eq_getElem_cons hi2, e]
  rw [es, pcells_app, List.getElem?_append_right (by rw [pcells_len, List.length_take]; omega), pcells_len, List.length_take, show i * 7 + j - min i l.length * 7 = j by rw [Nat.min_eq_left (by omega)]; omega]
  have e2 : pcells (p :: l.drop (i + 1)) = (scell p.1 p.2).toList ++ pcells (l.drop (i + 1)) := by simp [pcells]
  rw [e2, List.getElem?_append_left (by simpa [scell] using hj7), Array.getElem?_toList]
  exact hj
end Go.Proofs.YtngoifbflpeapabDoor

namespace Go.Proofs.YtngoifbflpeapabDoor
open Go.RowKit Go.Maps
set_option maxRecDepth 100000

/-! P19.4: Parse of a text is Line of each of its lines that isn't passed over. -/
def MaxAt (w : World) : Prop := ∃ m : Int, w.cell? ⟨1, 0, none⟩ = some (.int .i64 m)
theorem MaxAt.keep {A B : World} (h : MaxAt A) (k : Keeps (fun _ => False) A B) : MaxAt B := by
  obtain ⟨m, hm⟩ := h
  exact ⟨m, k.cell hm id⟩
theorem parse_max (w : World) (hv : Vars w) (hm : MaxAt w) (s : ByteArray) (hs : s.size ≤ 1000000) :
    Calls Tryd.prog 13 #[.string s] w fun e w' => ∃ vs ve ps, e = .returned (.tuple #[vs, ve]) ∧ Hid (PP w w' vs ve ps (prs s.data.toList)) := by
  obtain ⟨m, hm⟩ := hm
  exact parse_any w hv m hm s hs

set_option maxHeartbeats 16000000 in
theorem byline_walk (w : World) (hv : Vars w) (hm : MaxAt w) (s : ByteArray) (hs : s.size ≤ 140737488355328) (u : ByteArray) (hu : u.size ≤ 140737488355328) :
    Calls Tryd.prog 7 #[.string s, .string u] w fun e w' => e = .returned (.bool true) ∧ Keeps (fun _ => False) w w' := by
  by_cases hbig : 100000 < s.size + u.size
  · have hbig' : (100000 : Int) < (s.size : Int) + (u.size : Int) := by omega
    go_enter Tryd.func7, Tryd.ntmps7
    go_wp2
    go_ret
    exact ⟨rfl, Keeps.refl _ _⟩
  have hbig' : ¬ (100000 : Int) < (s.size : Int) + (u.size : Int) := by omega
  have HSTR := Hid.mk' (all_str s u)
  have HD : Hid (((((⟨#[105, 110, 102, 111, 10]⟩ : ByteArray) ++ s) ++ ⟨#[10]⟩) ++ u).data.toList = allB s.data.toList u.data.toList) := by show _ = _; rw [HSTR.out, data_mkB]
  have HSZ : Hid (((((⟨#[105, 110, 102, 111, 10]⟩ : ByteArray) ++ s) ++ ⟨#[10]⟩) ++ u).size ≤ 1000000) := by show _ ≤ _; rw [HSTR.out, mkB_size, all_len, ← size_len, ← size_len]; omega
  have z1 : ¬ 9223372036854775807 < 5 + s.size := by omega
  have z2 : ¬ 9223372036854775807 < 5 + s.size + 1 := by omega
  have z3 : ¬ 9223372036854775807 < 5 + s.size + 1 + u.size := by omega
  have hp0 := parse_max w hv hm ((((⟨#[105, 110, 102, 111, 10]⟩ : ByteArray) ++ s) ++ ⟨#[10]⟩) ++ u) HSZ.out
  have hls := fun W => lines_any W ((((⟨#[105, 110, 102, 111, 10]⟩ : ByteArray) ++ s) ++ ⟨#[10]⟩) ++ u) HSZ.out
  rw [HD.out] at hp0 hls
  have hp1 := fun W h k => parse_max W h k s (by omega)
  have hp2 := fun W h k => parse_max W h k u (by omega)
  have HPL := Hid.mk' (prs_all s.data.toList u.data.toList)
  have HFL : Hid (prs (allB s.data.toList u.data.toList) = (spl (allB s.data.toList u.data.toList)).filter fun l => !psd l) := rfl
  have HLE := Hid.mk' (spl_le (allB s.data.toList u.data.toList))
  have HCN := Hid.mk' (spl_count (allB s.data.toList u.data.toList))
  have HAL : Hid ((allB s.data.toList u.data.toList).length ≤ 200000) := by show _ ≤ _; rw [all_len, ← size_len, ← size_len]; omega
  have HV := Hid.mk' hv
  have HM := Hid.mk' hm
  generalize prs (allB s.data.toList u.data.toList) = PL at *
  generalize spl (allB s.data.toList u.data.toList) = LS at *
  generalize prs s.data.toList = PS at *
  generalize prs u.data.toList = PU at *
  clear hv hm HD HSTR
  go_enter Tryd.func7, Tryd.ntmps7
  have S0 := Hid.mk' True.intro
  go_wp2_with (first
    | (clear S0; go_at_call 13; refine hp0.mono ?_; clear hp0; rintro e w1 ⟨vs, ve, ps, rfl, h1⟩
       have H1 := Hid.mk' h1.out
       clear h1
       have hlen := H1.out.len
       have hl0 : PL.length = (PS.length + PU.length) + 1 := by rw [HPL.out, List.length_cons, List.length_append]
       obtain ⟨p0, hp0⟩ : ∃ p, ps[0]? = some p := ⟨ps[0]'(by omega), by simp [show 0 < ps.length by omega]⟩
       have hk0 : p0.1 = st0 16 := by
         have h := congrArg (fun l => l[0]?) H1.out.t
         simp only [List.getElem?_map, hp0, HPL.out, List.getElem?_cons_zero, Option.map_some] at h
         rw [← info_read.2]
         exact Option.some.inj h
       obtain ⟨b1, o1, c1, hvs, hb1, hc1⟩ := H1.out.s.at hp0
       obtain ⟨a2, c2, hve, _, hc2⟩ := Row.of_own H1.out.e
       obtain ⟨b2, o2, ha2, hb2, hce⟩ := hc2 (by rw [List.length_map]; omega)
       subst hvs
       subst ha2
       rw [List.length_map, ← hlen] at hve
       subst hve
       have q0 := hc1 0 (.int .i64 16) (by rw [hk0]; rfl)
       have q1 := hce 0 (.int .i64 0) (by rw [HPL.out, List.map_cons, info_read.1]; rfl)
       simp only [Nat.zero_mul, Nat.add_zero] at q0 q1
       have hne : ((ps.length : Int) == 0) = false := beq_eq_false_iff_ne.2 (by omega)
       have hlt : (0 : Int) < (ps.length : Int) := by omega
       have HLEN := Hid.mk' hlen
       have HL0 := Hid.mk' hl0
       clear hc1 hc2 hce hp0 hk0 hlen hl0
       have S1 := Hid.mk' True.intro)
    | (clear S1; go_at_call 14; refine (hls w1).mono ?_; clear hls; rintro e w2 ⟨v2, rfl, h2⟩
       obtain ⟨a3, c3, hv2, _, _⟩ := id (Row.of_own h2.out.1)
       rw [List.length_map] at hv2
       subst hv2
       have H2 := Hid.mk' h2.out
       clear h2
       have S2 := Hid.mk' True.intro))
  clear q0 q1 hne hlt
  have HVW := Hid.mk' (HV.out.keep (H1.out.k.trans H2.out.2))
  have HN : Hid (LS.length ≤ 200001) := by have h : LS.length ≤ _ := HCN.out; have h2 : (allB s.data.toList u.data.toList).length ≤ 200000 := HAL.out; show _ ≤ _; omega
  have HNP : Hid (ps.length ≤ 200001) := by have h : LS.length ≤ 200001 := HN.out; show _ ≤ _; rw [HLEN.out, HFL.out]; exact Nat.le_trans (List.length_filter_le _ _) h
  go_loopw [8, 10] (fun vn i wr => ∃ k : Nat, k ≤ LS.length ∧ i = .int .i64 k ∧ vn = .int .i64 (((LS.take k).filter fun l => !psd l).length : Int) ∧ Hid (Keeps (fun _ => False) w2 wr)) (fun _ i _ => LS.length - (intOf i).toNat)
  case atStart => exact ⟨0, Nat.zero_le _, rfl, rfl, Keeps.refl _ _⟩
  case round =>
    obtain ⟨k, hk, rfl, rfl, HK⟩ := hrel
    have hn1 : LS.length ≤ 200001 := HN.out
    by_cases h1 : k < LS.length
    · have h1' : (k : Int) < (LS.length : Int) := by omega
      obtain ⟨l, hl⟩ : ∃ l, LS[k]? = some l := ⟨LS[k], by simp [h1]⟩
      have hld : ∃ b3 o3, a3 = some ⟨b3, o3, none⟩ ∧ wr.cell? ⟨b3, o3 + k, none⟩ = some (.string (mkB l)) := by
        obtain ⟨a, c, e, _, hc⟩ := (Row.of_own H2.out.1).keep HK.out
        rw [List.length_map] at e
        injection e with e1 e2 e3
        subst e1
        obtain ⟨b3, o3, e4, _, hcc⟩ := hc (by rw [List.length_map]; omega)
        exact ⟨b3, o3, e4, hcc k _ (by simp [strs, hl])⟩
      obtain ⟨b3, o3, ha3, hld⟩ := hld
      subst ha3
      have HLL : Hid (l.length ≤ 200000) := Nat.le_trans (HLE.out l (List.mem_of_getElem? hl)) HAL.out
      have hid := idle_any wr (mkB l) (by rw [mkB_size]; have h : l.length ≤ 200000 := HLL.out; omega)
      rw [data_mkB] at hid
      cases hp : psd l with
      | true =>
        have HF := Hid.mk' (filt_yes hl hp)
        rw [hp] at hid
        clear hl
        go_wp2_with (first | (go_at_call 15; refine hid.mono ?_; clear hid; rintro e w3 ⟨rfl, hk3⟩; have HK3 := Hid.mk' hk3; clear hk3))
        go_roundw
        case rel => exact ⟨k + 1, by omega, by go_num, by rw [HF.out], HK.out.trans HK3.out⟩
        case measure => simp [intOf]; omega
      | false =>
        have HF := Hid.mk' (filt_no hl hp)
        have hat := filt_at hl hp
        rw [← HFL.out] at hat
        rw [hp] at hid
        generalize hcn : ((LS.take k).filter fun l => !psd l).length = cn at *
        have hcn2 : cn < ps.length := by rw [HLEN.out]; exact (List.getElem?_eq_some_iff.1 hat).1
        obtain ⟨pn, hpn⟩ : ∃ p, ps[cn]? = some p := ⟨ps[cn], by simp [hcn2]⟩
        have hpe : pn.1 = lnS l := by
          have h := congrArg (fun l => l[cn]?) H1.out.t
          simp only [List.getElem?_map, hpn, hat, Option.map_some] at h
          exact Option.some.inj h
        obtain ⟨sn, vn⟩ := pn
        simp only at hpe
        subst hpe
        obtain ⟨rn, nn, cnn, hvn⟩ := H1.out.s.shp _ (List.mem_of_getElem? hpn)
        simp only at hvn
        subst hvn
        have HRN := Hid.mk' (Row.of_own (H1.out.s.ins _ (List.mem_of_getElem? hpn)))
        obtain ⟨b1', o1', c1', hvs, hb1', hc1⟩ := H1.out.s.at hpn
        injection hvs with hvs1 hvs2 hvs3
        injection hvs1 with hvs1
        injection hvs1 with hv1 hv2
        subst hv1
        subst hv2
        have HC1 := Hid.mk' hc1
        have HE1 : Hid (w1.cell? ⟨b2, o2 + cn, none⟩ = some (.int .i64 (lnE l))) := by
          obtain ⟨a, c, e, _, hc⟩ := Row.of_own H1.out.e
          injection e with e1 e2 e3
          obtain ⟨b4, o4, e4, _, hcc⟩ := hc (by rw [List.length_map, ← HLEN.out]; omega)
          rw [e4] at e1
          injection e1 with e1
          injection e1 with e5 e6
          subst e5
          subst e6
          exact hcc cn _ (by simp [ints, hat])
        have hln := fun W h => line_any W h (mkB l)
        rw [data_mkB] at hln
        clear hl hat hpn hc1 hvs2 hvs3 hb1'
        have hcn3 : ¬ (ps.length : Int) ≤ (cn : Int) := by omega
        have hcn4 : (cn : Int) < (ps.length : Int) := by omega
        have hcn6 : ((cn : Int) ≥ (ps.length : Int)) = False := by simp; omega
        have S0 := Hid.mk' True.intro
        go_upto_region 14 with (first
          | (clear S0; go_at_call 15; refine hid.mono ?_; clear hid; rintro e w3 ⟨rfl, hk3⟩; have HK3 := Hid.mk' hk3; have hld2 := hk3.cell hld id; clear hk3; have S1 := Hid.mk' True.intro)
          | (clear S1; go_at_call 8; refine (hln _ (HVW.out.keep (HK.out.trans HK3.out))).mono ?_; clear hln; rintro e w4 ⟨v4, rfl, h4⟩; obtain ⟨p4, c4, hv4, _, _⟩ := id (Row.of_own h4.out.1); subst hv4; have H4 := Hid.mk' h4.out; clear h4; have S2 := Hid.mk' True.intro)
          | (clear S2; refine wpList_alloc_st rfl rfl ?_; have S3 := Hid.mk' True.intro)
          | (clear S3; refine wpList_store_st rfl _ _ rfl (lnS l) p4 (lnS l).l.length c4 (by rfl) (by rfl) ?_; have S4 := Hid.mk' True.intro))
        have HKA := Hid.mk' ((Keeps.refl (fun _ => False) w4).alloc (.cells (scell (lnS l) (.slice p4 (lnS l).l.length c4)) 24))
        have HK1A := Hid.mk' ((((H2.out.2.trans HK.out).trans HK3.out).trans H4.out.2).trans HKA.out)
        have hee := HK1A.out.cell HE1.out id
        have HSS : Hid ((w4.alloc (.cells (scell (lnS l) (.slice p4 (lnS l).l.length c4)) 24)).rangeAt b1 (o1 + cn * 7) (scell (lnS l) (.slice rn nn cnn)).toList ∧ (w4.alloc (.cells (scell (lnS l) (.slice p4 (lnS l).l.length c4)) 24)).rangeAt w4.heap.size 0 (scell (lnS l) (.slice p4 (lnS l).l.length c4)).toList ∧ (w4.alloc (.cells (scell (lnS l) (.slice p4 (lnS l).l.length c4)) 24)).cell? ⟨b2, o2 + cn, none⟩ = some (.int .i64 (lnE l))) := by
          refine ⟨fun j u hj => ?_, rangeAt_block (heap_last w4 (.cells (scell (lnS l) (.slice p4 (lnS l).l.length c4)) 24)) (scell (lnS l) (.slice p4 (lnS l).l.length c4)), hee⟩
          have := HK1A.out.cell (HC1.out j u (by rw [← Array.getElem?_toList]; exact hj)) id
          rw [← Nat.add_assoc] at this
          exact this
        have hsm := fun W (k : Keeps (fun _ => False) (w4.alloc (.cells (scell (lnS l) (.slice p4 (lnS l).l.length c4)) 24)) W) => lsame_any W (lnS l) (lnS l) _ _ (HRN.out.keep (HK1A.out.trans k)) ((Row.of_own H4.out.1).keep (HKA.out.trans k)) (by have h := lnS_len l; omega)
        rw [smF_refl] at hsm
        clear hee
        refine wp_region_held_drew (S := fun wx => wx.rangeAt b1 (o1 + cn * 7) (scell (lnS l) (.slice rn nn cnn)).toList ∧ wx.rangeAt w4.heap.size 0 (scell (lnS l) (.slice p4 (lnS l).l.length c4)).toList ∧ wx.cell? ⟨b2, o2 + cn, none⟩ = some (.int .i64 (lnE l))) (by kernel_rfl) HSS.out (fun hS => ?_)
        refine takeH 0 (some 77) (.int .i64 cn) rfl rfl (by kernel_rfl) (by kernel_rfl) (by kernel_rfl) (fun _ _ _ h => h) (Or.inl ⟨by rfl, fun wx _ => by go_simp⟩) hS ?_
        try simp only [Act.put, List.setIfInBounds_toArray, List.set_cons_zero, List.set_cons_succ]
        refine takeH 1 (some 78) (.slice (some ⟨b1, o1, none⟩) ps.length c1) rfl rfl (by kernel_rfl) (by kernel_rfl) (by kernel_rfl) (fun _ _ _ h => h) (Or.inl ⟨by rfl, fun wx _ => by go_simp⟩) hS ?_
        try simp only [Act.put, List.setIfInBounds_toArray, List.set_cons_zero, List.set_cons_succ]
        refine takeH 2 (some 79) (.int .i64 ps.length) rfl rfl (by kernel_rfl) (by kernel_rfl) (by kernel_rfl) (fun _ _ _ h => h) (Or.inl ⟨by rfl, fun wx _ => by go_simp⟩) hS ?_
        try simp only [Act.put, List.setIfInBounds_toArray, List.set_cons_zero, List.set_cons_succ]
        refine takeH 3 (some 80) (.bool false) rfl rfl (by kernel_rfl) (by kernel_rfl) (by kernel_rfl) (fun _ _ _ h => h) (Or.inl ⟨by rfl, fun wx _ => by go_simp⟩) hS ?_
        try simp only [Act.put, List.setIfInBounds_toArray, List.set_cons_zero, List.set_cons_succ]
        refine takeH 4 (some 81) (.bool false) rfl rfl (by kernel_rfl) (by kernel_rfl) (by kernel_rfl) (fun _ _ _ h => h) (Or.inl ⟨by rfl, fun wx _ => by go_simp⟩) hS ?_
        try simp only [Act.put, List.setIfInBounds_toArray, List.set_cons_zero, List.set_cons_succ]
        refine takeH 5 (some 82) (.slice (some ⟨b2, o2, none⟩) ps.length c2) rfl rfl (by kernel_rfl) (by kernel_rfl) (by kernel_rfl) (fun _ _ _ h => h) (Or.inl ⟨by rfl, fun wx _ => by go_simp⟩) hS ?_
        try simp only [Act.put, List.setIfInBounds_toArray, List.set_cons_zero, List.set_cons_succ]
        refine takeH 6 (some 83) (.int .i64 cn) rfl rfl (by kernel_rfl) (by kernel_rfl) (by kernel_rfl) (fun _ _ _ h => h) (Or.inl ⟨by rfl, fun wx _ => by go_simp⟩) hS ?_
        try simp only [Act.put, List.setIfInBounds_toArray, List.set_cons_zero, List.set_cons_succ]
        refine takeH 7 (some 84) (.pointer (some ⟨b2, o2 + cn, none⟩)) rfl rfl (by kernel_rfl) (by kernel_rfl) (by kernel_rfl) (fun _ _ _ h => h) (Or.inl ⟨by rfl, fun wx _ => by go_simp⟩) hS ?_
        try simp only [Act.put, List.setIfInBounds_toArray, List.set_cons_zero, List.set_cons_succ]
        refine takeH 8 (some 85) (.int .i64 (lnE l)) rfl rfl (by kernel_rfl) (by kernel_rfl) (by kernel_rfl) (fun _ _ _ h => h) (Or.inl ⟨by rfl, fun wx h => by have h3 := h.2.2; go_simp⟩) hS ?_
        try simp only [Act.put, List.setIfInBounds_toArray, List.set_cons_zero, List.set_cons_succ]
        refine takeH 9 (some 86) (.int .i64 (lnE l)) rfl rfl (by kernel_rfl) (by kernel_rfl) (by kernel_rfl) (fun _ _ _ h => h) (Or.inl ⟨by rfl, fun wx _ => by go_simp⟩) hS ?_
        try simp only [Act.put, List.setIfInBounds_toArray, List.set_cons_zero, List.set_cons_succ]
        refine takeH 10 (some 87) (.bool false) rfl rfl (by kernel_rfl) (by kernel_rfl) (by kernel_rfl) (fun _ _ _ h => h) (Or.inl ⟨by rfl, fun wx _ => by go_simp⟩) hS ?_
        try simp only [Act.put, List.setIfInBounds_toArray, List.set_cons_zero, List.set_cons_succ]
        refine takeH 11 (some 88) (.bool false) rfl rfl (by kernel_rfl) (by kernel_rfl) (by kernel_rfl) (fun _ _ _ h => h) (Or.inl ⟨by rfl, fun wx _ => by go_simp⟩) hS ?_
        try simp only [Act.put, List.setIfInBounds_toArray, List.set_cons_zero, List.set_cons_succ]
        refine takeH 12 (some 89) (.bool false) rfl rfl (by kernel_rfl) (by kernel_rfl) (by kernel_rfl) (fun _ _ _ h => h) (Or.inl ⟨by rfl, fun wx _ => by go_simp⟩) hS ?_
        try simp only [Act.put, List.setIfInBounds_toArray, List.set_cons_zero, List.set_cons_succ]
        refine takeH 13 (some 90) (.slice (some ⟨b1, o1, none⟩) ps.length c1) rfl rfl (by kernel_rfl) (by kernel_rfl) (by kernel_rfl) (fun _ _ _ h => h) (Or.inl ⟨by rfl, fun wx _ => by go_simp⟩) hS ?_
        try simp only [Act.put, List.setIfInBounds_toArray, List.set_cons_zero, List.set_cons_succ]
        refine takeH 14 (some 91) (.int .i64 cn) rfl rfl (by kernel_rfl) (by kernel_rfl) (by kernel_rfl) (fun _ _ _ h => h) (Or.inl ⟨by rfl, fun wx _ => by go_simp⟩) hS ?_
        try simp only [Act.put, List.setIfInBounds_toArray, List.set_cons_zero, List.set_cons_succ]
        refine takeH 15 (some 92) (.pointer (some ⟨b1, o1 + cn * 7, none⟩)) rfl rfl (by kernel_rfl) (by kernel_rfl) (by kernel_rfl) (fun _ _ _ h => h) (Or.inl ⟨by rfl, fun wx _ => by go_simp⟩) hS ?_
        try simp only [Act.put, List.setIfInBounds_toArray, List.set_cons_zero, List.set_cons_succ]
        refine takeH 16 (some 93) (.agg (scell (lnS l) (.slice rn nn cnn))) rfl rfl (by kernel_rfl) (by kernel_rfl) (by kernel_rfl) (fun _ _ _ h => h) (yieldsIf_load_mid (by rfl) 24 (.tmp 92) rfl b1 (o1 + cn * 7) (by rfl) (scell (lnS l) (.slice rn nn cnn)).toList _ (fun _ h => h.1) Tryd.underlying24 rfl size24) hS ?_
        try simp only [Act.put, List.setIfInBounds_toArray, List.set_cons_zero, List.set_cons_succ]
        refine takeH 17 (some 94) (.agg (scell (lnS l) (.slice p4 (lnS l).l.length c4))) rfl rfl (by kernel_rfl) (by kernel_rfl) (by kernel_rfl) (fun _ _ _ h => h) (yieldsIf_load_mid (by rfl) 24 (.tmp 11) rfl w4.heap.size 0 (by rfl) (scell (lnS l) (.slice p4 (lnS l).l.length c4)).toList _ (fun _ h => h.2.1) Tryd.underlying24 rfl size24) hS ?_
        try simp only [Act.put, List.setIfInBounds_toArray, List.set_cons_zero, List.set_cons_succ]
        refine wpAnyH_ready (rs := [18]) (by kernel_rfl) (by simp) (AllReadyH.cons rfl (fun K hK => ?_) AllReadyH.nil)
        go_simp
        go_at_call 9
        refine (hsm _ (Keeps.drewN _ _ 1)).mono ?_
        clear hsm
        rintro e w5 ⟨rfl, hk5⟩
        have HK5 := Hid.mk' hk5
        refine hK.out _ _ ⟨fun j u hj => hk5.cell (hS.1 j u hj) id, fun j u hj => hk5.cell (hS.2.1 j u hj) id, hk5.cell hS.2.2 id⟩ (fun hS => ?_)
        clear hK hk5
        try simp only [Act.put, List.setIfInBounds_toArray, List.set_cons_zero, List.set_cons_succ]
        refine takeH 19 (some 96) (.bool false) rfl rfl (by kernel_rfl) (by kernel_rfl) (by kernel_rfl) (fun _ _ _ h => h) (Or.inl ⟨by rfl, fun wx _ => by go_simp⟩) hS ?_
        try simp only [Act.put, List.setIfInBounds_toArray, List.set_cons_zero, List.set_cons_succ]
        refine takeH 20 (some 97) (.bool false) rfl rfl (by kernel_rfl) (by kernel_rfl) (by kernel_rfl) (fun _ _ _ h => h) (Or.inl ⟨by rfl, fun wx _ => by go_simp⟩) hS ?_
        try simp only [Act.put, List.setIfInBounds_toArray, List.set_cons_zero, List.set_cons_succ]
        refine wpAnyH_done (by kernel_rfl) ?_ _
        clear hS
        have HKE := Hid.mk' ((HK.out.trans HK3.out).trans (H4.out.2.trans (HKA.out.trans ((Keeps.drewN _ _ 1).trans HK5.out))))
        have hwr : IntKind.i64.wrap ((cn : Int) + 1) = (cn : Int) + 1 := i64_id (by omega) (by have h : ps.length ≤ 200001 := HNP.out; omega)
        have hnp : ps.length ≤ 200001 := HNP.out
        go_wp2
        go_roundw
        case rel => exact ⟨k + 1, by omega, by go_num, by rw [HF.out, List.length_append, List.length_singleton, hcn]; go_num, HKE.out⟩
        case measure => simp [intOf]; omega
    · have h1' : ¬ (k : Int) < (LS.length : Int) := by omega
      have HE : Hid (((LS.take k).filter fun l => !psd l).length = ps.length) := by show _ = _; rw [List.take_of_length_le (by omega), ← HFL.out, HLEN.out]
      rw [HE.out]
      have HMW := Hid.mk' (HM.out.keep ((H1.out.k.trans H2.out.2).trans HK.out))
      have S0 := Hid.mk' True.intro
      go_wp2_with (first
        | (clear S0; go_at_call 13; refine (hp1 _ (HVW.out.keep HK.out) HMW.out).mono ?_; clear hp1; rintro e w5 ⟨vs5, ve5, ps5, rfl, h5⟩; have H5 := Hid.mk' h5.out; obtain ⟨a5, c5, hv5, _⟩ := Row.of_own H5.out.s.row; rw [H5.out.len] at hv5; subst hv5; obtain ⟨⟨_, _, _, _⟩, x5, y5, z5, hz5⟩ := H5.out.shape; subst hz5; clear h5; have S1 := Hid.mk' True.intro)
        | (clear S1; go_at_call 13; refine (hp2 _ ((HVW.out.keep HK.out).keep H5.out.k) (HMW.out.keep H5.out.k)).mono ?_; clear hp2; rintro e w6 ⟨vs6, ve6, ps6, rfl, h6⟩; have H6 := Hid.mk' h6.out; obtain ⟨a6, c6, hv6, _⟩ := Row.of_own H6.out.s.row; rw [H6.out.len] at hv6; subst hv6; obtain ⟨⟨_, _, _, _⟩, x6, y6, z6, hz6⟩ := H6.out.shape; subst hz6; clear h6; have hfin : (PS.length : Int) + (PU.length : Int) + 1 = (ps.length : Int) := by (have a := HL0.out; have b := HLEN.out; omega)
           have hbd : ps.length ≤ 200001 := HNP.out
           have S2 := Hid.mk' True.intro))
      go_ret
      exact ⟨rfl, (((H1.out.k.trans H2.out.2).trans HK.out).trans H5.out.k).trans H6.out.k⟩
end Go.Proofs.YtngoifbflpeapabDoor
