import Derived.Test.YtfekgfimbkgkfabA0
namespace Go.Proofs.Ytfekgfimbkgkfab

/-! Texts of paths. -/
abbrev Bs := List UInt8
def mkB (l : Bs) : ByteArray := ⟨l.toArray⟩
theorem mkB_data (s : ByteArray) : mkB s.data.toList = s := by obtain ⟨⟨l⟩⟩ := s; rfl
theorem data_mkB (l : Bs) : (mkB l).data.toList = l := rfl
theorem mkB_inj {a b : Bs} (h : mkB a = mkB b) : a = b := by have := congrArg (fun s : ByteArray => s.data.toList) h; exact this
theorem mkB_size (l : Bs) : (mkB l).size = l.length := by simp [mkB, ByteArray.size]

/-- The runs of other bytes than slashes; a run under way stands in front. -/
def pts : Bs → Bs → List Bs
  | acc, [] => if acc.isEmpty then [] else [acc]
  | acc, b :: l => if b = 47 then (if acc.isEmpty then pts [] l else acc :: pts [] l) else pts (acc ++ [b]) l
def parts (t : Bs) : List ByteArray := (pts [] t).map mkB
def formed (t : Bs) : Bool := (t.head? == some 47) && t.all (· != 0)
def long (ps : List ByteArray) : Bool := ps.any fun s => decide (28 < s.size)
def prsE (t : Bs) : Int := if 200 < t.length then 140 else if formed t = false then 141 else if long (parts t) = true then 142 else 0
def prsP (t : Bs) : List ByteArray := if prsE t = 0 then parts t else []
def prsS (t : Bs) : Bool := decide (prsE t = 0) && (!(parts t).isEmpty && (t.getLast? == some 47))

theorem pts_slash {acc l : Bs} : pts acc (47 :: l) = (if acc.isEmpty then pts [] l else acc :: pts [] l) := by simp [pts]
theorem pts_other {acc l : Bs} {b : UInt8} (h : b ≠ 47) : pts acc (b :: l) = pts (acc ++ [b]) l := by simp [pts, h]
/-- Bytes that are no slashes are put behind the run. -/
theorem pts_run : ∀ (q acc l : Bs), q.all (· != 47) = true → pts acc (q ++ l) = pts (acc ++ q) l
  | [], acc, l, _ => by simp
  | b :: q, acc, l, h => by
    rw [List.all_cons, Bool.and_eq_true] at h
    rw [List.cons_append, pts_other (by simpa using h.1), pts_run q _ l h.2]
    simp

/-- A path that has a text. -/
def okPart (s : ByteArray) : Bool := !s.toList.isEmpty && decide (s.size ≤ 28) && s.data.toList.all fun b => b != 47 && b != 0
def bare (ps : List ByteArray) : Bs := ps.flatMap fun s => 47 :: s.data.toList
def txt (ps : List ByteArray) (sl : Bool) : Bs := bare ps ++ (if (sl || ps.isEmpty) = true then [47] else [])
def tells (ps : List ByteArray) (sl : Bool) : Bool := !(ps.isEmpty && sl) && ps.all okPart && decide ((txt ps sl).length ≤ 200)
def txtF (ps : List ByteArray) (sl : Bool) : ByteArray := if tells ps sl = true then mkB (txt ps sl) else ⟨#[]⟩

theorem toList_data (s : ByteArray) : s.toList.isEmpty = s.data.toList.isEmpty := by rw [ByteArray.toList_eq]
end Go.Proofs.Ytfekgfimbkgkfab
