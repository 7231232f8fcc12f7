import Derived.Test.YtnafocbgapianabC2
import Derived.Test.YtnafocbgapianabF1
import Derived.Laws.CopyOwn
namespace Go.Proofs.Ytnafocbgapianab
open Go.RowKit

theorem setCells_block {b : Nat} {t : TypeId} (vs : List Value) : ∀ (o : Nat) (cur : List Value) (w : World), w.heap[b]? = some (.cells cur.toArray t (0, 0)) → o + vs.length = cur.length →
    (w.setCells b o vs).heap[b]? = some (.cells (cur.take o ++ vs).toArray t (0, 0)) := by
  induction vs with
  | nil =>
    intro o cur w h hl
    simp at hl
    have : cur.take o = cur := List.take_of_length_le (by omega)
    simpa [World.setCells, this] using h
  | cons v vs ih =>
    intro o cur w h hl
    have h1 := setCell_block (a := ⟨b, o, none⟩) (v := v) h rfl
    simp only at h1
    rw [List.setIfInBounds_toArray] at h1
    have h2 := ih (o + 1) (cur.set o v) _ h1 (by simp at hl ⊢; omega)
    have e : (cur.set o v).take (o + 1) ++ vs = cur.take o ++ v :: vs := by
      simp at hl
      rw [List.take_succ_eq_append_getElem (by simp; omega), List.take_set_of_le (Nat.le_refl _)]
      simp
    rw [e] at h2
    exact h2

theorem mk_rangeR {w : World} {d n : Nat} {S : Nat → Bool} {rest : List Value} {t : TypeId} (h : w.heap[d]? = some (mkObj n S rest t)) : w.rangeAt d 0 (mkCells n S rest) := by
  intro j v hv
  rw [Nat.zero_add, cell_of_row _ _ j _ _ _ h]
  simpa using hv
theorem mk_thereR {w : World} {d n : Nat} {S : Nat → Bool} {rest : List Value} {t : TypeId} (h : w.heap[d]? = some (mkObj n S rest t)) : w.there d 0 (17 + rest.length) := by
  intro j hj
  have hl := mkCells_len n S rest
  refine ⟨?_, by simp [World.frozen?, h, mkObj]⟩
  rw [Nat.zero_add, cell_of_row _ _ j _ _ _ h]
  simp; omega
theorem size89 : (Try.prog.info? 89).map (·.size) = some 21 := by kernel_rfl
theorem pool_zero (w : World) : (w.alloc (.cells #[.int .i64 0, .int .u64 0, .int .u64 0, .int .u64 0, .int .u64 0, .int .u64 0, .int .u64 0, .int .u64 0, .int .u64 0, .int .u64 0, .int .u64 0, .int .u64 0, .int .u64 0, .int .u64 0, .int .u64 0, .int .u64 0, .int .u64 0, .int .i64 0, .int .i64 0, .int .i64 0, .int .i64 0] 89)).heap[w.heap.size]? = some (mkObj 0 (fun _ => false) [.int .i64 0, .int .i64 0, .int .i64 0, .int .i64 0] 89) := by
  have : mkObj 0 (fun _ => false) [.int .i64 0, .int .i64 0, .int .i64 0, .int .i64 0] 89 = .cells #[.int .i64 0, .int .u64 0, .int .u64 0, .int .u64 0, .int .u64 0, .int .u64 0, .int .u64 0, .int .u64 0, .int .u64 0, .int .u64 0, .int .u64 0, .int .u64 0, .int .u64 0, .int .u64 0, .int .u64 0, .int .u64 0, .int .u64 0, .int .i64 0, .int .i64 0, .int .i64 0, .int .i64 0] 89 (0, 0) := by
    simp only [mkObj, mkCells, word_none]; rfl
  rw [this]
  exact (MapKept.heap_alloc w _).1
theorem pool_ones (s : Sh) (S : Nat → Bool) : (mkCells s.pages S s.rest).toArray.all (·.oneCell') = true := by
  apply all_oneCell_toArray
  intro v hv
  rw [mkCells_app] at hv
  rcases List.mem_append.1 hv with hv | hv
  · have := mk_ones s.pages S
    rw [List.all_toArray, List.all_eq_true] at this
    exact this v hv
  · simp [Sh.rest] at hv
    rcases hv with rfl | rfl | rfl | rfl <;> rfl

set_option maxHeartbeats 2000000 in
theorem copy_any (w : World) (d : Nat) (s : Sh) (S : Nat → Bool) (h : PoolAt w d s S) :
    Calls Try.prog 32 #[.pointer (some ⟨d, 0, none⟩)] w fun e w' => ∃ dq, e = .returned (.pointer (some ⟨dq, 0, none⟩)) ∧ w.heap.size ≤ dq ∧ PoolAt w' dq s S ∧ Keeps (fun k => w.heap.size ≤ k) w w' := by
  have HP := Hid.mk' h
  have HRA := Hid.mk' (mk_rangeR h.at_)
  have hl21 : (mkCells s.pages S s.rest).length = 21 := by rw [mkCells_len]; rfl
  have HLN := Hid.mk' (show (Try.prog.info? 89).map (·.size) = some (mkCells s.pages S s.rest).length by rw [hl21]; exact size89)
  have HZ := Hid.mk' (mk_thereR (pool_zero w))
  have HSZ : Hid ((mkCells s.pages S s.rest).toArray.size = 21) := by show _ = _; simpa using hl21
  have HS1 := Hid.mk' (show (Try.prog.info? 89).map (·.size) = some (mkCells s.pages S s.rest).toArray.size by rw [HSZ.out]; exact size89)
  clear h
  go_enter Try.func32, Try.ntmps32
  go_wp2_with (first
    | (with_reducible refine wpList_load_mid ?zag 89 ?zax ?zaho d 0 ?zahx (mkCells s.pages S s.rest) ?zadd ?zahc ?zahu ?zahd ?zahi ?zak
       case zaho => exact rfl
       case zag => exact rfl
       case zahx => exact rfl
       case zahc => exact HRA.out
       case zahu => exact Try.underlying89
       case zahd => exact rfl
       case zahi => exact HLN.out)
    | (with_reducible refine wpList_store_mid ?zbg 89 ?zbx ?zby ?zbho w.heap.size 0 (mkCells s.pages S s.rest).toArray ?zbhx ?zbhy ?zbht ?zbhi ?zbh1 ?zbk
       case zbho => exact rfl
       case zbg => exact rfl
       case zbhx => exact rfl
       case zbhy => exact rfl
       case zbht => rw [HSZ.out]; exact HZ.out
       case zbhi => exact HS1.out
       case zbh1 => exact pool_ones _ _))
  go_ret
  have g1 := (Keeps.of (X := fun k => w.heap.size ≤ k) (World.grownBy_alloc w (.cells #[.int .i64 0, .int .u64 0, .int .u64 0, .int .u64 0, .int .u64 0, .int .u64 0, .int .u64 0, .int .u64 0, .int .u64 0, .int .u64 0, .int .u64 0, .int .u64 0, .int .u64 0, .int .u64 0, .int .u64 0, .int .u64 0, .int .u64 0, .int .i64 0, .int .i64 0, .int .i64 0, .int .i64 0] 89) none) (by simp)).then (setCells_keep w.heap.size (mkCells s.pages S s.rest) 0 _) (by intro k hk; left; omega)
  have hb := setCells_block (b := w.heap.size) (t := 89) (mkCells s.pages S s.rest) 0 (mkCells 0 (fun _ => false) [.int .i64 0, .int .i64 0, .int .i64 0, .int .i64 0]) _ (pool_zero w) (by rw [hl21]; rfl)
  rw [List.take_zero, List.nil_append] at hb
  exact ⟨w.heap.size, rfl, Nat.le_refl _, ⟨hb, HP.out.good, HP.out.sup⟩, g1⟩

/-- copy into a row that is known whole, as a step of a region that draws its order: the row behind it, and nothing else turned. -/
theorem step_copy_row {P : Program} {ops : Array Oper} {o : Oper} {a : Act} {w : World} {K : Act → World → Prop} {Q : Exit → Act → World → Prop} {E : Prop} (hgd : o.guard = none) (d s : Operand) (dT sT : TypeId)
    (ho : o.op = .call { callee := .builtin .copy, args := #[d, s], argTypes := #[dT, sT] }) (elem : TypeId) (hu : P.underlying dT = some (.slice elem)) (hsz : (P.info? elem).map (·.size) = some 1)
    (g off dLen dCap : Nat) (ad : Addr) (sLen sCap : Nat) (hd : a.eval d = .slice (some ⟨g, off, none⟩) dLen dCap) (hs : a.eval s = .slice (some ad) sLen sCap)
    (cur : Array Value) (t : TypeId) (hg : w.heap[g]? = some (.cells cur t (0, 0))) (cs : List Value) (hn : cs.length = Nat.min sLen dLen)
    (hsrc : ∀ j v, cs[j]? = some v → w.cell? (ad.add j) = some v) (hfit : off + cs.length ≤ cur.size) (h1 : ∀ v ∈ cs, v.oneCell' = true)
    (h : ∀ w', w'.heap[g]? = some (.cells (cur.toList.take off ++ (cs ++ cur.toList.drop (off + cs.length))).toArray t (0, 0)) → Keeps (fun j => j = g) w w' → K (a.put o.dst (goInt cs.length)) w') :
    if Region.wanted o (yielded ops a.tmps) = true then Oper.wp P o a w K Q else E := by
  have hw : Region.wanted o (yielded ops a.tmps) = true := by simp [Region.wanted, hgd]
  rw [if_pos hw]
  have hrun := run_copy_row (P := P) w dT sT o.type elem g off dLen dCap ad sLen sCap cur t cs hu hsz hg hn hsrc hfit h1
  unfold Oper.wp
  simp [execOp, ho, resolve, invoke, builtin, hd, hs, hrun, Result.andThen]
  exact h _ (by simpa using setRow_heap w g _ _ t _ hg) ⟨rfl, rfl, rfl, by simp [World.setRow], fun k _ hk => setRow_other w g k _ (by omega)⟩

/-- A pool and its book are as they were, whatever turned beside them. -/
theorem Duo.but {w0 : World} {B d k hb : Nat} {s : Sh} {S H : Nat → Bool} {w w' : World} {X : Nat → Prop} (h : Duo w0 B d k hb s S H w) (kp : Keeps X w w') (h1 : ¬ X d) (h2 : ¬ X k) (h3 : ¬ X hb) (h4 : ∀ j, X j → B ≤ j) : Duo w0 B d k hb s S H w' :=
  ⟨h.pool.kept kp h1, h.book.kept kp h2 h3, h.mark, h.dk, h.low, h.keep.then kp (fun j hj => Or.inl (h4 j hj))⟩

end Go.Proofs.Ytnafocbgapianab
