import Derived.Test.YtngoifbflpeapacGreatDoorP3
import Derived.Test.YtngoifbflpeapacGreatDoorP2
namespace Go.Proofs.YtngoifbflpeapacGreatDoor
open Go.RowKit Go.Maps
set_option maxRecDepth 100000

/-! The words of a written line. -/
def numW (n : Int) : Wd := ⟨mkB (Lib.itoa n), false⟩
def tlW (a : Ar) (t : St) : List Wd := match a with
  | .A => [⟨t.a, true⟩]
  | .B => [⟨t.b, true⟩]
  | .N => [numW t.n]
  | .M => [numW t.m]
  | .K => [numW t.k]
  | .L => t.l.map numW
theorem numW_tk (n : Int) : tk (numW n) = Lib.itoa n := rfl
theorem numW_gw (n : Int) : gw (numW n) := Or.inr ⟨rfl, itoa_ne n, fun _ hc => itoa_bytes hc⟩
theorem tlW_tlF (a : Ar) (t : St) : (tlF a t).map (·.data.toList) = (tlW a t).map tk := by
  cases a <;> simp [tlF, tlW, nums10, tk, data_mkB, numW]
theorem tlW_gw (a : Ar) (t : St) : ∀ x ∈ tlW a t, gw x := by
  intro x hx
  cases a with
  | A => rw [List.mem_singleton.1 hx]; exact Or.inl rfl
  | B => rw [List.mem_singleton.1 hx]; exact Or.inl rfl
  | N => rw [List.mem_singleton.1 hx]; exact numW_gw _
  | M => rw [List.mem_singleton.1 hx]; exact numW_gw _
  | K => rw [List.mem_singleton.1 hx]; exact numW_gw _
  | L => obtain ⟨n, _, rfl⟩ := List.mem_map.1 hx; exact numW_gw _
theorem join_joinB : ∀ l : List Wd, Lib.join (l.map tk) [32] = joinB l
  | [] => rfl
  | [x] => by simp [Lib.join, joinB]
  | x :: y :: r => by
    have h := join_joinB (y :: r)
    have e : Lib.join ((x :: y :: r).map tk) [32] = tk x ++ [32] ++ Lib.join ((y :: r).map tk) [32] := by simp [Lib.join]
    rw [e, h]
    show tk x ++ [32] ++ joinB (y :: r) = tk x ++ 32 :: joinB (y :: r)
    simp
def lineW (k : Kd) (t : St) : List Wd := ⟨k.word, false⟩ :: k.args.flatMap fun a => tlW a t
theorem tells_W (t : St) : ∀ l : List Ar, (tells l t).map (·.data.toList) = (l.flatMap fun a => tlW a t).map tk
  | [] => rfl
  | a :: l => by
    have h := tells_W t l
    have e : tells (a :: l) t = tlF a t ++ tells l t := by simp [tells]
    rw [e, List.map_append, tlW_tlF, h, List.flatMap_cons, List.map_append]
theorem line_W (k : Kd) (t : St) : line k t = joinB (lineW k t) := by
  unfold line lineW
  rw [← join_joinB, List.map_cons, tells_W]
  rfl
theorem kd_plain : ∀ k ∈ kds, k.word.data.toList ≠ [] ∧ ∀ c ∈ k.word.data.toList, c ≠ 32 ∧ c ≠ 34 := by decide
theorem lineW_gw {k : Kd} (hk : k ∈ kds) (t : St) : ∀ x ∈ lineW k t, gw x := by
  intro x hx
  rcases List.mem_cons.1 hx with rfl | hx
  · exact Or.inr ⟨rfl, kd_plain k hk⟩
  · obtain ⟨a, _, ha⟩ := List.mem_flatMap.1 hx
    exact tlW_gw a t x ha
/-- The words of a written line, whatever blanks stand behind it. -/
theorem wds_line {k : Kd} (hk : k ∈ kds) (t : St) (n : Nat) : wds [] (line k t ++ List.replicate n 32) = some (lineW k t) := by
  rw [line_W, wds_join (lineW k t) [] n (lineW_gw hk t)]; rfl
theorem kd_found : kds.all (fun k => (kdOf k.word).map (·.num) == some k.num && (numOf k.num).map (·.num) == some k.num) = true := by decide +kernel
theorem kd_one : ∀ i j : Fin 21, (kds[i.val]?).map (·.num) = (kds[j.val]?).map (·.num) → i = j := by decide +kernel
end Go.Proofs.YtngoifbflpeapacGreatDoor

