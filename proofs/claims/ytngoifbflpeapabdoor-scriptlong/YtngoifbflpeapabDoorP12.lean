import Derived.Test.YtngoifbflpeapabDoorP11
namespace Go.Proofs.YtngoifbflpeapabDoor
open Go.RowKit Go.Maps
set_option maxRecDepth 100000

/-! Lines of create whose text stands for itself, by their length. -/
def crK : Kd := ⟨4, ⟨#[99, 114, 101, 97, 116, 101]⟩, [.A]⟩
def crS (l : Bs) : St := ⟨4, mkB l, ⟨#[]⟩, 0, 0, 0, []⟩
theorem crK_in : crK ∈ kds := by simp [crK, kds]
theorem esc_flat : ∀ l : Bs, (∀ b ∈ l, esc b = [b]) → l.flatMap esc = l
  | [], _ => rfl
  | b :: l, h => by
    rw [List.flatMap_cons, h b (by simp), esc_flat l (fun x hx => h x (List.mem_cons_of_mem _ hx))]
    rfl
def crL (l : Bs) : Bs := [99, 114, 101, 97, 116, 101, 32, 34] ++ l ++ [34]
theorem crL_len (l : Bs) : (crL l).length = l.length + 9 := by simp [crL]
theorem cr_line (l : Bs) (h : ∀ b ∈ l, esc b = [b]) : line crK (crS l) = crL l := by
  rw [line_W]
  show [99, 114, 101, 97, 116, 101] ++ 32 :: quo (mkB l).data.toList = crL l
  rw [data_mkB]
  unfold quo crL
  rw [esc_flat l h]
  simp
theorem cr_ok (l : Bs) (h : l.length ≤ 1000000) : OkS (crS l) := by
  have e : (crS l).a.size = l.length := mkB_size l
  have := st0_ok 4
  exact ⟨by rw [e]; exact h, this.b, this.n, this.m, this.k, this.l, this.o⟩
theorem cr_read (l : Bs) (h : ∀ b ∈ l, esc b = [b]) (k : Nat) (hl : l.length + 9 + k ≤ 20000) : lnE (crL l ++ List.replicate k 32) = 0 ∧ lnS (crL l ++ List.replicate k 32) = crS l := by
  have := line_back (cr_ok l (by omega)) crK_in k (by rw [cr_line l h, List.length_append, List.length_replicate, crL_len]; omega)
  rw [cr_line l h] at this
  exact this
theorem ln_long {x : Bs} (h : 20000 < x.length) : lnE x = 191 ∧ lnS x = st0 0 := by
  unfold lnE lnS
  rw [if_pos h, if_pos h]
  exact ⟨rfl, rfl⟩
theorem cr_pr (l : Bs) (h : ∀ b ∈ l, esc b = [b]) (hl : l.length + 9 ≤ 20000) : prF (crS l) = crL l := by
  rw [pr_line (cr_ok l (by omega)) crK_in rfl (by rw [cr_line l h, crL_len]; exact hl), cr_line l h]
theorem cr_none (l : Bs) (h : ∀ b ∈ l, esc b = [b]) (hl : 20000 < l.length + 9) : prF (crS l) = [] := by
  have e : wrF (crS l) = crL l := by
    unfold wrF
    rw [show (crS l).kind = crK.num from rfl, (kd_finds crK crK_in).2]
    exact cr_line l h
  unfold prF okF
  rw [e, (ln_long (x := crL l) (by rw [crL_len]; exact hl)).1]
  rfl
def azs (m k : Nat) : Bs := List.replicate m 97 ++ List.replicate k 122
theorem azs_len (m k : Nat) : (azs m k).length = m + k := by simp [azs]
theorem azs_esc (m k : Nat) : ∀ b ∈ azs m k, esc b = [b] := by
  intro b hb
  rcases List.mem_append.1 hb with h | h
  · rw [(List.mem_replicate.1 h).2]; rfl
  · rw [(List.mem_replicate.1 h).2]; rfl
theorem azs_zero (m : Nat) : azs m 0 = List.replicate m 97 := by simp [azs]
theorem azs_succ (m k : Nat) : mkB (azs m k) ++ ⟨#[122]⟩ = mkB (azs m (k + 1)) := by
  rw [show (⟨#[122]⟩ : ByteArray) = mkB [122] from rfl, mkB_app]
  unfold azs
  rw [List.append_assoc, ← List.replicate_succ']
theorem crL_str (l : Bs) : ((⟨#[99, 114, 101, 97, 116, 101, 32, 34]⟩ : ByteArray) ++ mkB l) ++ ⟨#[34]⟩ = mkB (crL l ++ List.replicate 0 32) := by
  rw [show (⟨#[99, 114, 101, 97, 116, 101, 32, 34]⟩ : ByteArray) = mkB [99, 114, 101, 97, 116, 101, 32, 34] from rfl, show (⟨#[34]⟩ : ByteArray) = mkB [34] from rfl, mkB_app, mkB_app]
  simp [crL]
theorem blank_more (x : Bs) (k : Nat) : mkB (x ++ List.replicate k 32) ++ ⟨#[32]⟩ = mkB (x ++ List.replicate (k + 1) 32) := by
  rw [show (⟨#[32]⟩ : ByteArray) = mkB [32] from rfl, mkB_app, List.append_assoc, ← List.replicate_succ']
end Go.Proofs.YtngoifbflpeapabDoor

