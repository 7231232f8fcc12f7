import Derived.Test.YtpgabmfpffaajaaDoorK15
namespace Go.Proofs.YtpgabmfpffaajaaDoor
open Go.RowKit Go.Maps
set_option maxRecDepth 100000

/-! The program's lines are the document's. -/
theorem app_data (a b : ByteArray) : (a ++ b).data.toList = a.data.toList ++ b.data.toList := by simp
theorem cat_flat {α : Type} (f : α → ByteArray) (l : List α) : (cat (l.map f)).data.toList = l.flatMap fun a => (f a).data.toList := by rw [cat_data, List.flatMap_map]
theorem join_sep (s : UInt8) : ∀ (xs : List (List UInt8)) (x : List UInt8), Lib.join (x :: xs) [s] = x ++ xs.flatMap (fun y => s :: y)
  | [], x => by simp [Lib.join, List.intercalate]
  | y :: ys, x => by
    have h := join_sep s ys y
    have e : Lib.join (x :: y :: ys) [s] = x ++ ([s] ++ Lib.join (y :: ys) [s]) := by simp [Lib.join, List.intercalate, List.intersperse]
    rw [e, h]
    simp
theorem jnB_data (s : UInt8) (x : ByteArray) (l : List ByteArray) : (jnB (x :: l) s).data.toList = x.data.toList ++ l.flatMap (fun y => s :: y.data.toList) := by
  unfold jnB
  rw [data_mkB, List.map_cons, join_sep, List.flatMap_map]
theorem idB_data (x : ByteArray) (l : List ByteArray) : (idB (x :: l)).data.toList = [32, 32] ++ (x.data.toList ++ l.flatMap (fun y => 32 :: y.data.toList)) := by
  unfold idB
  rw [app_data, jnB_data]
theorem tit_flat (s : ByteArray) (l : List ByteArray) : (tit s l).flatMap (fun y => (32 : UInt8) :: y.data.toList) = if l = [] then [] else 32 :: s.data.toList ++ l.flatMap (fun y => 32 :: y.data.toList) := by
  unfold tit
  split
  · rfl
  · rw [List.flatMap_cons]
theorem numB_data (l : List Int) : (numB l).data.toList = (l.map iB).flatMap (fun y => 32 :: y.data.toList) := by
  unfold numB
  rw [cat_flat, List.flatMap_map]
  congr 1
theorem dtsB_data (l : List (ByteArray × Int)) : (dtsB l).data.toList = (l.flatMap dwB).flatMap (fun y => 32 :: y.data.toList) := by
  unfold dtsB
  rw [cat_flat, List.flatMap_assoc]
  congr 1
  funext d
  simp [dnB, dwB]
theorem runs_data (l : List (Int × Int × Int)) : (cat (l.map rnB)).data.toList = (l.flatMap rwB).flatMap (fun y => 32 :: y.data.toList) := by
  rw [cat_flat, List.flatMap_assoc]
  congr 1
  funext d
  simp [rnB, rwB]
theorem flat_nil {α : Type} {f : α → List ByteArray} (hf : ∀ a, f a ≠ []) {l : List α} : l.flatMap f = [] ↔ ¬ 0 < l.length := by
  cases l with
  | nil => simp
  | cons a l =>
    simp only [List.flatMap_cons, List.append_eq_nil_iff, List.length_cons]
    constructor
    · intro h; exact absurd h.1 (hf a)
    · intro h; omega
theorem idB_nod (d : Nd) : idB (nodW d) = nodB d := by
  apply bytes_ext
  have e : nodW d = ⟨#[105, 110, 111, 100, 101]⟩ :: ((nw1 d).drop 1 ++ tit ⟨#[108, 111, 103]⟩ (d.lg.map iB) ++ kw d) := rfl
  rw [e, idB_data, List.flatMap_append, List.flatMap_append, tit_flat]
  have h2 : (n2B d).data.toList = [32, 32] ++ ((⟨#[105, 110, 111, 100, 101]⟩ : ByteArray).data.toList ++ ((nw1 d).drop 1).flatMap (fun y => 32 :: y.data.toList)) := by
    simp [n2B, n1B, nw1]
  have h3 : (n3B d).data.toList = (n2B d).data.toList ++ (if d.lg.map iB = [] then [] else 32 :: (⟨#[108, 111, 103]⟩ : ByteArray).data.toList ++ (d.lg.map iB).flatMap (fun y => 32 :: y.data.toList)) := by
    unfold n3B
    by_cases h : 0 < d.lg.length
    · rw [if_pos h, if_neg (by intro h0; have := congrArg List.length h0; simp at this; rw [this] at h; simp at h), app_data, app_data, numB_data]
    · rw [if_neg h, if_pos (by rw [List.length_eq_zero_iff.1 (show d.lg.length = 0 by omega)]; rfl), List.append_nil]
  have h4 : (nodB d).data.toList = (n3B d).data.toList ++ (kw d).flatMap (fun y => 32 :: y.data.toList) := by
    unfold nodB kw
    by_cases hk1 : d.kind = 1
    · rw [if_pos hk1, tit_flat]
      by_cases hm : 0 < d.mp.length
      · rw [if_pos ⟨hk1, hm⟩, if_neg (fun h => (flat_nil (f := rwB) (fun _ => by simp [rwB])).1 h hm), app_data, app_data, runs_data]
        simp
      · rw [if_neg (fun h => hm h.2), if_neg (fun h => by rw [hk1] at h; exact absurd h.1 (by decide)), if_pos ((flat_nil (f := rwB) (fun _ => by simp [rwB])).2 hm), List.append_nil]
    · rw [if_neg (fun h => hk1 h.1), if_neg hk1]
      by_cases hk2 : d.kind = 2
      · rw [if_pos hk2, tit_flat]
        by_cases hm : 0 < d.nm.length
        · rw [if_pos ⟨hk2, hm⟩, if_neg (fun h => (flat_nil (f := dwB) (fun _ => by simp [dwB])).1 h hm), app_data, app_data, dtsB_data]
        · rw [if_neg (fun h => hm h.2), if_pos ((flat_nil (f := dwB) (fun _ => by simp [dwB])).2 hm), List.append_nil]
      · rw [if_neg (fun h => hk2 h.1), if_neg hk2]
        simp
  rw [h4, h3, h2]
  simp only [List.append_assoc]
def shW (t : Sta) : List ByteArray := [⟨#[115, 104, 97, 112, 101]⟩, iB t.pg, iB t.is, iB t.co]
def frW (t : Sta) : List ByteArray := [(⟨#[102, 114, 101, 101]⟩ : ByteArray)] ++ t.fr.flatMap swB
theorem idB_sh (t : Sta) : idB (shW t) ++ ⟨#[10]⟩ = hdB t := by
  apply bytes_ext
  unfold shW
  rw [app_data, idB_data]
  unfold hdB
  rw [app_data, app_data, numB_data]
  simp
theorem idB_fr (t : Sta) : idB (frW t) = ⟨#[32, 32, 102, 114, 101, 101]⟩ ++ cat (t.fr.map spB) := by
  apply bytes_ext
  have e : frW t = ⟨#[102, 114, 101, 101]⟩ :: t.fr.flatMap swB := rfl
  rw [e, idB_data, app_data, cat_flat, List.flatMap_assoc]
  have h : (fun a => (spB a).data.toList) = fun a => (swB a).flatMap fun y => (32 : UInt8) :: y.data.toList := by
    funext a
    simp [spB, swB]
  rw [h]
  rfl
def nlL (p : Nd × Value × Value × Value) : ByteArray := idB (nodW p.1)
def lns (t : Sta) : List ByteArray := [idB (shW t)] ++ t.nd.map nlL ++ [idB (frW t)]
theorem lines_sta (t : Sta) : jnB (lns t) 10 = staB t := by
  apply bytes_ext
  have e : lns t = idB (shW t) :: (t.nd.map nlL ++ [idB (frW t)]) := rfl
  have key : ∀ (l : List (Nd × Value × Value × Value)) (z : ByteArray), (l.map nlL ++ [z]).flatMap (fun y => (10 : UInt8) :: y.data.toList) = [10] ++ (l.flatMap (fun p => (nlB p).data.toList) ++ z.data.toList) := by
    intro l z
    induction l with
    | nil => simp
    | cons p l ih =>
      rw [List.map_cons, List.cons_append, List.flatMap_cons, ih, List.flatMap_cons]
      have h : (nlL p).data.toList = (nodB p.1).data.toList := by unfold nlL; rw [idB_nod]
      rw [h]
      have h2 : (nlB p).data.toList = (nodB p.1).data.toList ++ [10] := by unfold nlB; rw [app_data]
      rw [h2]
      simp
  rw [e, jnB_data, key]
  unfold staB
  rw [app_data, app_data, app_data, cat_flat nlB, idB_fr, ← idB_sh, app_data, app_data]
  simp
end Go.Proofs.YtpgabmfpffaajaaDoor
