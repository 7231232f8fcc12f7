import Derived.WalkKit
namespace Go.Proofs.Ytfekgfimbkgkfab

/-! Paths, by themselves: what a name stands for (number, directory or not), the way (its last first), cleaning. -/
abbrev En := Int × Bool
abbrev Dr := Int → ByteArray → En
abbrev Ed := Int × ByteArray × Int × Bool
def isDot (s : ByteArray) : Bool := s.toList == [46]
def isUp (s : ByteArray) : Bool := s.toList == [46, 46]

inductive Wy where
  | bad (e : Int)
  | ok (a : En) (r : List En)

def step1 (F : Dr) (a : En) (r : List En) (s : ByteArray) : Wy :=
  if a.2 = true then (if isDot s = true then .ok a r else if isUp s = true then (match r with | [] => .ok a [] | b :: r' => .ok b r') else if (F a.1 s).1 < 1 then .bad 143 else .ok (F a.1 s) (a :: r)) else .bad 144
def wlk (F : Dr) : En → List En → List ByteArray → Wy
  | a, r, [] => .ok a r
  | a, r, s :: p => match step1 F a r s with
    | .bad e => .bad e
    | .ok a' r' => wlk F a' r' p
def lead (F : Dr) (p : List ByteArray) : Wy := wlk F (1, true) [] p

theorem wlk_snoc (F : Dr) (s : ByteArray) : ∀ (p : List ByteArray) (a : En) (r : List En), wlk F a r (p ++ [s]) = match wlk F a r p with | .bad e => .bad e | .ok a' r' => step1 F a' r' s
  | [], a, r => by
    simp only [List.nil_append, wlk]
    cases step1 F a r s <;> rfl
  | q :: p, a, r => by
    simp only [List.cons_append, wlk]
    cases h : step1 F a r q with
    | bad e => rfl
    | ok a' r' => exact wlk_snoc F s p a' r'
theorem lead_snoc (F : Dr) (p : List ByteArray) (s : ByteArray) : lead F (p ++ [s]) = match lead F p with | .bad e => .bad e | .ok a' r' => step1 F a' r' s := wlk_snoc F s p _ _
theorem lead_append (F : Dr) (p : List ByteArray) : ∀ q : List ByteArray, lead F (p ++ q) = match lead F p with | .bad e => .bad e | .ok a' r' => wlk F a' r' q := by
  have h : ∀ (p : List ByteArray) (a : En) (r : List En) (q : List ByteArray), wlk F a r (p ++ q) = match wlk F a r p with | .bad e => .bad e | .ok a' r' => wlk F a' r' q := by
    intro p
    induction p with
    | nil => intro a r q; rfl
    | cons s p ih =>
      intro a r q
      simp only [List.cons_append, wlk]
      cases step1 F a r s with
      | bad e => rfl
      | ok a' r' => exact ih a' r' q
  exact fun q => h p _ _ q

/-- Resolve: the number, whether it is a directory, the error. -/
def rsv (F : Dr) (p : List ByteArray) (sl : Bool) : Int × Bool × Int :=
  match lead F p with
  | .bad e => (0, false, e)
  | .ok a _ => if (sl && !a.2) = true then (0, false, 144) else (a.1, a.2, 0)

def lastP (p : List ByteArray) : ByteArray := p.getLastD ⟨#[]⟩
def named (p : List ByteArray) : Bool := !p.isEmpty && !isDot (lastP p) && !isUp (lastP p)

/-- Parent: the directory, the last part, the error. -/
def prn (F : Dr) (p : List ByteArray) : Int × ByteArray × Int :=
  if named p = true then (match lead F p.dropLast with
    | .bad e => (0, ⟨#[]⟩, e)
    | .ok a _ => if a.2 = true then (a.1, lastP p, 0) else (0, ⟨#[]⟩, 144)) else (0, ⟨#[]⟩, 145)

/-- Clean, the list's last first. -/
def cl1 (acc : List ByteArray) (s : ByteArray) : List ByteArray := if isDot s = true then acc else if isUp s = true then acc.tail else s :: acc
def clR (p : List ByteArray) : List ByteArray := p.foldl cl1 []
def clP (p : List ByteArray) : List ByteArray := (clR p).reverse
def clS (p : List ByteArray) (sl : Bool) : Bool := !(clP p).isEmpty && (sl || !named p)

theorem clR_snoc (p : List ByteArray) (s : ByteArray) : clR (p ++ [s]) = cl1 (clR p) s := by simp [clR]

def dotty (p : List ByteArray) : Bool := p.any fun s => isDot s || isUp s

theorem clR_clean (p : List ByteArray) : ∀ s ∈ clR p, isDot s = false ∧ isUp s = false := by
  have h : ∀ (p acc : List ByteArray), (∀ s ∈ acc, isDot s = false ∧ isUp s = false) → ∀ s ∈ p.foldl cl1 acc, isDot s = false ∧ isUp s = false := by
    intro p
    induction p with
    | nil => intro acc h; exact h
    | cons q p ih =>
      intro acc h
      refine ih _ ?_
      intro s hs
      unfold cl1 at hs
      split at hs
      · exact h s hs
      · split at hs
        · exact h s (List.mem_of_mem_tail hs)
        · rename_i h1 h2
          rcases List.mem_cons.1 hs with rfl | hs
          · exact ⟨by simpa using h1, by simpa using h2⟩
          · exact h s hs
  exact h p [] (fun s hs => by cases hs)
theorem clP_dotty (p : List ByteArray) : dotty (clP p) = false := by
  unfold dotty
  rw [List.any_eq_false]
  intro s hs
  have := clR_clean p s (by simpa [clP] using hs)
  simp [this]
theorem cl_plain (p : List ByteArray) : ∀ acc, (∀ s ∈ p, isDot s = false ∧ isUp s = false) → p.foldl cl1 acc = p.reverse ++ acc := by
  induction p with
  | nil => intro acc _; rfl
  | cons q p ih =>
    intro acc h
    have hq := h q (List.mem_cons_self ..)
    rw [List.foldl_cons, ih _ (fun s hs => h s (List.mem_cons_of_mem _ hs))]
    simp [cl1, hq]
theorem undotted {p : List ByteArray} (h : dotty p = false) : ∀ s ∈ p, isDot s = false ∧ isUp s = false := by
  intro s hs
  unfold dotty at h
  rw [List.any_eq_false] at h
  have := h s hs
  simpa using this
theorem clP_plain {p : List ByteArray} (h : dotty p = false) : clP p = p := by
  unfold clP clR
  rw [cl_plain p [] (undotted h)]
  simp
theorem last_mem {p : List ByteArray} (h : p ≠ []) : lastP p ∈ p := by
  unfold lastP
  rw [List.getLastD_eq_getLast?, List.getLast?_eq_some_getLast h]
  exact List.getLast_mem h
theorem named_plain {p : List ByteArray} (h : dotty p = false) (h0 : p ≠ []) : named p = true := by
  have := undotted h _ (last_mem h0)
  simp [named, this, h0]
theorem clS_plain {p : List ByteArray} (h : dotty p = false) (h0 : p ≠ []) (sl : Bool) : clS p sl = sl := by
  unfold clS
  rw [clP_plain h, named_plain h h0]
  simp [h0]
theorem clP_clP (p : List ByteArray) : clP (clP p) = clP p := clP_plain (clP_dotty p)
theorem clS_clP (p : List ByteArray) (sl : Bool) : clS (clP p) (clS p sl) = clS p sl := by
  by_cases h0 : clP p = []
  · unfold clS
    rw [clP_clP, h0]; rfl
  · exact clS_plain (clP_dotty p) h0 _
theorem clR_len (p : List ByteArray) : (clR p).length ≤ p.length := by
  have h : ∀ (p acc : List ByteArray), (p.foldl cl1 acc).length ≤ p.length + acc.length := by
    intro p
    induction p with
    | nil => intro acc; simp
    | cons q p ih =>
      intro acc
      have := ih (cl1 acc q)
      have h2 : (cl1 acc q).length ≤ acc.length + 1 := by
        unfold cl1
        split
        · omega
        · split
          · simp; omega
          · simp
      simp only [List.foldl_cons, List.length_cons]
      omega
  have := h p []
  simpa [clR] using this
theorem clP_len (p : List ByteArray) : (clP p).length ≤ p.length := by simpa [clP] using clR_len p

/-- The cleaned list is the way without its dots. -/
def InStep (F : Dr) : List ByteArray → En → List En → Prop
  | [], a, r => a = (1, true) ∧ r = []
  | s :: acc, a, r => isDot s = false ∧ isUp s = false ∧ ∃ b r', r = b :: r' ∧ b.2 = true ∧ a = F b.1 s ∧ ¬ (F b.1 s).1 < 1 ∧ InStep F acc b r'

theorem inStep_lead {F : Dr} : ∀ (acc : List ByteArray) (a : En) (r : List En), InStep F acc a r → lead F acc.reverse = .ok a r
  | [], a, r, h => by obtain ⟨rfl, rfl⟩ := h; rfl
  | s :: acc, a, r, h => by
    obtain ⟨h1, h2, b, r', rfl, hb, rfl, hF, hi⟩ := h
    rw [List.reverse_cons, lead_snoc, inStep_lead acc b r' hi]
    simp [step1, hb, h1, h2, hF]
theorem inStep_pos {F : Dr} {acc : List ByteArray} {a : En} {r : List En} (h : InStep F acc a r) : 1 ≤ a.1 := by
  cases acc with
  | nil => obtain ⟨rfl, _⟩ := h; decide
  | cons s acc => obtain ⟨_, _, b, r', _, _, rfl, hF, _⟩ := h; omega
theorem inStep_step {F : Dr} {acc : List ByteArray} {a : En} {r : List En} (h : InStep F acc a r) (s : ByteArray) {a' : En} {r' : List En} (hs : step1 F a r s = .ok a' r') : InStep F (cl1 acc s) a' r' := by
  unfold step1 at hs
  unfold cl1
  split at hs
  · rename_i ha
    split at hs
    · rename_i hd
      rw [if_pos hd]
      cases hs; exact h
    · rename_i hd
      rw [if_neg hd]
      split at hs
      · rename_i hu
        rw [if_pos hu]
        cases acc with
        | nil =>
          obtain ⟨rfl, rfl⟩ := h
          cases hs; exact ⟨rfl, rfl⟩
        | cons q acc =>
          obtain ⟨_, _, b, r1, rfl, _, _, _, hi⟩ := h
          cases hs; exact hi
      · rename_i hu
        rw [if_neg hu]
        split at hs
        · cases hs
        · rename_i hF
          cases hs
          exact ⟨by simpa using hd, by simpa using hu, a, r, rfl, ha, rfl, hF, h⟩
  · cases hs
theorem lead_inStep {F : Dr} {p : List ByteArray} : ∀ {a : En} {r : List En}, lead F p = .ok a r → InStep F (clR p) a r := by
  have h : ∀ (p : List ByteArray) (acc : List ByteArray) (a : En) (r : List En) (a' : En) (r' : List En), InStep F acc a r → wlk F a r p = .ok a' r' → InStep F (p.foldl cl1 acc) a' r' := by
    intro p
    induction p with
    | nil => intro acc a r a' r' hi hw; cases hw; exact hi
    | cons s p ih =>
      intro acc a r a' r' hi hw
      simp only [wlk] at hw
      cases hs : step1 F a r s with
      | bad e => rw [hs] at hw; cases hw
      | ok a1 r1 =>
        rw [hs] at hw
        exact ih _ _ _ _ _ (inStep_step hi s hs) hw
  intro a r hl
  exact h p [] _ _ _ _ ⟨rfl, rfl⟩ hl
theorem lead_clean {F : Dr} {p : List ByteArray} {a : En} {r : List En} (h : lead F p = .ok a r) : lead F (clP p) = .ok a r := inStep_lead _ _ _ (lead_inStep h)
theorem lead_pos {F : Dr} {p : List ByteArray} {a : En} {r : List En} (h : lead F p = .ok a r) : 1 ≤ a.1 := inStep_pos (lead_inStep h)
/-- All but the way's last are directories. -/
theorem inStep_dirs {F : Dr} : ∀ (acc : List ByteArray) (a : En) (r : List En), InStep F acc a r → ∀ b ∈ r, b.2 = true
  | [], a, r, h => by obtain ⟨_, rfl⟩ := h; intro b hb; cases hb
  | s :: acc, a, r, h => by
    obtain ⟨_, _, b, r', rfl, hb, _, _, hi⟩ := h
    intro c hc
    rcases List.mem_cons.1 hc with rfl | hc
    · exact hb
    · exact inStep_dirs acc b r' hi c hc
theorem snoc_last {p : List ByteArray} (h : p ≠ []) : p.dropLast ++ [lastP p] = p := by
  have := List.dropLast_concat_getLast h
  unfold lastP
  rw [List.getLastD_eq_getLast?, List.getLast?_eq_some_getLast h]
  exact this
theorem unnamed_dir {F : Dr} {p : List ByteArray} {a : En} {r : List En} (h : lead F p = .ok a r) (hn : named p = false) : a.2 = true := by
  by_cases h0 : p = []
  · subst h0; cases h; rfl
  · have hd : isDot (lastP p) = true ∨ isUp (lastP p) = true := by
      unfold named at hn
      cases h1 : isDot (lastP p) <;> cases h2 : isUp (lastP p) <;> simp_all
    rw [← snoc_last h0, lead_snoc] at h
    cases hl : lead F p.dropLast with
    | bad e => rw [hl] at h; cases h
    | ok b r1 =>
      rw [hl] at h
      have hI := lead_inStep hl
      unfold step1 at h
      simp only at h
      split at h
      · rename_i hb
        split at h
        · cases h; exact hb
        · rename_i h1
          rw [if_pos (hd.resolve_left h1)] at h
          cases r1 with
          | nil => cases h; exact hb
          | cons c r2 => cases h; exact inStep_dirs _ _ _ hI _ (List.mem_cons_self ..)
      · cases h
theorem lead_bad {F : Dr} {p : List ByteArray} {e : Int} (h : lead F p = .bad e) : e = 143 ∨ e = 144 := by
  have hh : ∀ (p : List ByteArray) (a : En) (r : List En), wlk F a r p = .bad e → e = 143 ∨ e = 144 := by
    intro p
    induction p with
    | nil => intro a r h; cases h
    | cons s p ih =>
      intro a r h
      simp only [wlk] at h
      cases hs : step1 F a r s with
      | ok a1 r1 => rw [hs] at h; exact ih _ _ h
      | bad e1 =>
        rw [hs] at h
        have he : e1 = e := by injection h
        subst he
        unfold step1 at hs
        split at hs
        · split at hs
          · cases hs
          · split at hs
            · split at hs <;> cases hs
            · split at hs
              · injection hs with hs; exact Or.inl hs.symm
              · cases hs
        · injection hs with hs; exact Or.inr hs.symm
  exact hh p _ _ h

/-- P14.7: where the path leads, the cleaned one leads too. -/
theorem rsv_clean (F : Dr) (p : List ByteArray) (sl : Bool) (h : (rsv F p sl).2.2 = 0) : rsv F (clP p) (clS p sl) = rsv F p sl ∧ 1 ≤ (rsv F p sl).1 := by
  unfold rsv at h ⊢
  cases hl : lead F p with
  | bad e =>
    rw [hl] at h
    rcases lead_bad hl with rfl | rfl <;> simp at h
  | ok a r =>
    rw [hl] at h
    rw [lead_clean hl]
    have hp := lead_pos hl
    simp only at h ⊢
    by_cases hs : (sl && !a.2) = true
    · rw [if_pos hs] at h; cases h
    · rw [if_neg hs]
      refine ⟨?_, hp⟩
      rw [if_neg]
      intro hc
      have h2 : a.2 = false := by simp at hc; exact hc.2
      have h3 : clS p sl = true := by simp at hc; exact hc.1
      have h4 : sl = false := by cases sl <;> simp_all
      have h5 : named p = false := by
        cases hn : named p with
        | false => rfl
        | true => simp [clS, h4, hn] at h3
      rw [unnamed_dir hl h5] at h2; cases h2
theorem rsv_bad (F : Dr) (p : List ByteArray) (sl : Bool) (h : ¬ (rsv F p sl).2.2 = 0) : ((rsv F p sl).2.2 = 143 ∨ (rsv F p sl).2.2 = 144) ∧ (rsv F p sl).1 = 0 ∧ (rsv F p sl).2.1 = false := by
  unfold rsv at h ⊢
  cases hl : lead F p with
  | bad e => exact ⟨lead_bad hl, rfl, rfl⟩
  | ok a r =>
    rw [hl] at h
    simp only at h ⊢
    split at h
    · rename_i hs; rw [if_pos hs]; exact ⟨Or.inr rfl, rfl, rfl⟩
    · exact absurd rfl h

/-- A table of edges. -/
def put1 (F : Dr) (e : Ed) : Dr := if 1 ≤ e.2.2.1 then (fun d s => if d = e.1 ∧ s = e.2.1 then (e.2.2.1, e.2.2.2) else F d s) else F
def tab0 : Dr := fun _ _ => (0, false)
def tabF (es : List Ed) : Dr := es.foldl put1 tab0
theorem tabF_snoc (es : List Ed) (e : Ed) : tabF (es ++ [e]) = put1 (tabF es) e := by simp [tabF]
end Go.Proofs.Ytfekgfimbkgkfab
