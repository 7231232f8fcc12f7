import Derived.Test.YtpgabmfpffaajaaDoorK03
namespace Go.Proofs.YtpgabmfpffaajaaDoor
open Go.RowKit Go.Maps
set_option maxRecDepth 100000

def nums (l : Bs) : List Int := l.map fun b => (b.toNat : Int)
def vals (l : Bs) : List Value := l.map fun b => Value.int .u8 (b.toNat : Int)
theorem vals_len (l : Bs) : (vals l).length = l.length := by simp [vals]
theorem nums_len (l : Bs) : (nums l).length = l.length := by simp [nums]
theorem str_nums (l : Bs) : strOfNums (nums l) = mkB l := by
  unfold strOfNums nums mkB
  rw [List.map_map]
  congr 1
  congr 1
  induction l with
  | nil => rfl
  | cons b l ih => simp at ih ⊢; exact ih
theorem vals_get (l : Bs) (i : Nat) (h : i < l.length) : (vals l)[i]? = some (.int .u8 ((nums l).getD i 0)) := by
  simp [vals, nums, List.getD_eq_getElem?_getD, h]
/-- string(b) of a list of bytes. -/
theorem conv_row (W : World) (v : Value) (l : Bs) (h : Row W v l.length (vals l)) : (convert 57 9 v).run Tryd.prog W = .ok (.string (mkB l)) W := by
  obtain ⟨a, cap, rfl, hc, hr⟩ := h
  by_cases h0 : l.length = 0
  · have hl : l = [] := List.length_eq_zero_iff.1 h0
    subst hl
    cases a with
    | none => exact run_convert_bytes_nil (P := Tryd.prog) W 57 5 Tryd.underlying57 Tryd.underlying5 0 cap 9 Tryd.underlying9
    | some a =>
      have hl : (loadCells a 0).run Tryd.prog W = .ok (([] : List Int).map (Value.int .u8)).toArray W := by
        have := run_loadCells_list (P := Tryd.prog) W a [] (fun j v hj => by simp at hj)
        simpa using this
      rw [show (([] : Bs).length) = 0 from rfl, run_convert_bytes_string W 57 9 5 _ 0 cap Tryd.underlying57 Tryd.underlying5 Tryd.underlying9, run_bytesToString W _ 0 cap [] hl]
      rfl
  · obtain ⟨b, o, rfl, hb, hcell⟩ := hr (by omega)
    have h := run_convert_bytes_arg (P := Tryd.prog) W 57 5 Tryd.underlying57 Tryd.underlying5 b o l.length cap (nums l) (nums_len l) (fun i hi => hcell i _ (vals_get l i hi)) 9 Tryd.underlying9
    rwa [str_nums] at h
theorem info5 : (Tryd.prog.info? 5).map (fun i => (i.zero, i.size, i.bytes)) = some (some (.int .u8 0), 1, 1) := by kernel_rfl
end Go.Proofs.YtpgabmfpffaajaaDoor
