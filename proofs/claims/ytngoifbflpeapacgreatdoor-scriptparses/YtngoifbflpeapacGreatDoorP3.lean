import Derived.Test.YtngoifbflpeapacGreatDoorH6
import Derived.Lib.ItoaLen
namespace Go.Proofs.YtngoifbflpeapacGreatDoor
open Go.RowKit Go.Maps
set_option maxRecDepth 100000

/-! How long a written line can be. -/
theorem join_len (M : Nat) (sep : Bs) : ∀ l : List Bs, (∀ x ∈ l, x.length ≤ M) → (Lib.join l sep).length ≤ l.length * (M + sep.length)
  | [], _ => by simp [Lib.join]
  | [x], h => by
    have := h x (by simp)
    simp [Lib.join]
    omega
  | x :: y :: r, h => by
    have h1 := h x (by simp)
    have h2 := join_len M sep (y :: r) (fun z hz => h z (by simp [hz]))
    have e : Lib.join (x :: y :: r) sep = x ++ sep ++ Lib.join (y :: r) sep := by simp [Lib.join]
    rw [e, List.length_append, List.length_append, List.length_cons (a := x), Nat.add_mul]
    omega
theorem nums10_le {l : List Int} (h : OkI l) : ∀ x ∈ nums10 l, x.data.toList.length ≤ 4000002 := by
  intro x hx
  obtain ⟨n, hn, rfl⟩ := List.mem_map.1 hx
  have := Lib.itoa_length_le n (h n hn).1 (h n hn).2
  rw [data_mkB]; omega
theorem tlF_le {a : Ar} {t : St} (h : OkS t) : ∀ x ∈ tlF a t, x.data.toList.length ≤ 4000002 := by
  cases a with
  | A => intro x hx; rw [show x = mkB (quo t.a.data.toList) from List.mem_singleton.1 hx, data_mkB]; have := quo_le t.a.data.toList; have h1 := h.a; rw [size_len] at h1; omega
  | B => intro x hx; rw [show x = mkB (quo t.b.data.toList) from List.mem_singleton.1 hx, data_mkB]; have := quo_le t.b.data.toList; have h1 := h.b; rw [size_len] at h1; omega
  | N => exact nums10_le (okI_one h.n)
  | M => exact nums10_le (okI_one h.m)
  | K => exact nums10_le (okI_one h.k)
  | L => exact nums10_le h.o
theorem kd_word : ∀ k ∈ kds, k.word.data.toList.length ≤ 100 := by decide
theorem wrF_le {t : St} (h : OkS t) : (wrF t).length ≤ 140737488355328 := by
  unfold wrF
  split
  · simp
  · rename_i k hk
    have hm : k ∈ kds := List.mem_of_find?_eq_some hk
    have h1 := kd_word k hm
    have h2 := kd_args3 k hm
    have h3 := tells_len t k.args
    have h4 := h.l
    have h5 : k.args.length * (1 + t.l.length) ≤ 3 * (1 + t.l.length) := Nat.mul_le_mul_right _ h2
    have h6 := join_len 4000002 [32] ((k.word :: tells k.args t).map (·.data.toList)) (by
      intro x hx
      obtain ⟨y, hy, rfl⟩ := List.mem_map.1 hx
      rcases List.mem_cons.1 hy with rfl | hy
      · omega
      · obtain ⟨a, _, ha⟩ := List.mem_flatMap.1 hy
        exact tlF_le h y ha)
    rw [List.length_map, List.length_cons] at h6
    have h7 : ((tells k.args t).length + 1) * (4000002 + [(32 : UInt8)].length) ≤ 3000004 * 4000003 := Nat.mul_le_mul (by omega) (by simp)
    unfold line
    omega
end Go.Proofs.YtngoifbflpeapacGreatDoor

