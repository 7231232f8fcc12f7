import Derived.Test.YtnafocbgapianabB1
import Derived.Deep.MidRow
namespace Go.Proofs.Ytnafocbgapianab
open Go.RowKit

/-- A list of numbers that lies in memory, to be read. -/
def IntIn (w : World) (p : Option Addr) (l : List Int) : Prop :=
  0 < l.length → ∃ b o, p = some ⟨b, o, none⟩ ∧ b < w.heap.size ∧ ∀ i, i < l.length → w.cell? ⟨b, o + i, none⟩ = some (.int .i64 (l.getD i 0))

theorem IntIn.kept {w w' : World} {p : Option Addr} {l : List Int} {X : Nat → Prop} (h : IntIn w p l) (k : Keeps X w w') (hX : ∀ b, X b → p.map (·.block) ≠ some b) : IntIn w' p l := by
  intro h0
  obtain ⟨b, o, e, hb, hc⟩ := h h0
  have hn : ¬ X b := fun hx => hX b hx (by rw [e]; rfl)
  exact ⟨b, o, e, Nat.lt_of_lt_of_le hb k.size, fun i hi => k.cell (hc i hi) hn⟩

/-- Whether a number is a page of the data area. -/
def inD (s : Sh) (p : Int) : Bool := decide ((s.data : Int) ≤ p) && decide (p < (s.pages : Int))

theorem inD_iff {s : Sh} {p : Int} : inD s p = true ↔ (s.data : Int) ≤ p ∧ p < s.pages := by simp [inD]

set_option maxHeartbeats 2000000 in
theorem give_range (w : World) (d : Nat) (s : Sh) (S : Nat → Bool) (h : PoolAt w d s S) (p : Option Addr) (cap : Nat) (l : List Int) (hin : IntIn w p l) (hl : l.length ≤ maxLen) (hb : l.all (inD s) = false) :
    Calls Try.prog 21 #[.pointer (some ⟨d, 0, none⟩), .slice p l.length cap] w fun e w' => e = .returned (.int .i64 52) ∧ w' = w := by
  obtain ⟨c0, c1, c2⟩ := h.cells
  unfold maxLen at hl
  have HB := Hid.mk' hb
  have HIN := Hid.mk' hin
  clear h hb hin
  go_enter Try.func21, Try.ntmps21
  go_wp2
  go_loop [12] (fun i => ∃ k : Nat, k ≤ l.length ∧ i = .int .i64 k ∧ Hid ((l.take k).all (inD s) = true)) (fun i => l.length - (intOf i).toNat)
  case atStart => exact ⟨0, by omega, rfl, rfl⟩
  case round =>
    obtain ⟨k, hk, rfl, hrel⟩ := hrel
    by_cases hlt : k < l.length
    · obtain ⟨b, o, rfl, hbs, hc⟩ := HIN.out (by omega)
      have e1 := hc k hlt
      have htk := take_getD 0 hlt
      generalize l.getD k 0 = x at *
      have hlt' : (k : Int) < (l.length : Int) := by omega
      have HREL := hrel
      have HTK := Hid.mk' htk
      clear hc hrel htk
      by_cases h1 : x < (s.data : Int)
      · go_wp2
        go_ret
        exact ⟨rfl, rfl⟩
      · by_cases h2 : (s.pages : Int) ≤ x
        · go_wp2
          go_ret
          exact ⟨rfl, rfl⟩
        · have HI := Hid.mk' (inD_iff.2 (show (s.data : Int) ≤ x ∧ x < s.pages by omega))
          go_wp2
          go_round
          case rel =>
            refine ⟨k + 1, by omega, by go_num, ?_⟩
            show _ = true
            rw [HTK.out, List.all_append, HREL.out]
            simp [HI.out]
          case measure => simp [intOf]; omega
    · exfalso
      have h1 := hrel.out
      rw [show k = l.length by omega, List.take_length, HB.out] at h1
      exact absurd h1 (by decide)

/-- Pages given back, one after another; none if one is free already. -/
def gv (S : Nat → Bool) : List Nat → Option (Nat → Bool)
  | [] => some S
  | p :: ps => if S p = true then none else gv (upd S p true) ps

/-- The cells of marks one by one. -/
theorem mk_all {w : World} {d n : Nat} {S : Nat → Bool} {rest : List Value} {t : TypeId} (h : w.heap[d]? = some (mkObj n S rest t)) :
    w.cell? ⟨d, 0, none⟩ = some (.int .i64 n) ∧ w.cell? ⟨d, 1, none⟩ = some (.int .u64 (word S 0)) ∧ w.cell? ⟨d, 2, none⟩ = some (.int .u64 (word S 1)) ∧ w.cell? ⟨d, 3, none⟩ = some (.int .u64 (word S 2)) ∧ w.cell? ⟨d, 4, none⟩ = some (.int .u64 (word S 3)) ∧ w.cell? ⟨d, 5, none⟩ = some (.int .u64 (word S 4)) ∧ w.cell? ⟨d, 6, none⟩ = some (.int .u64 (word S 5)) ∧ w.cell? ⟨d, 7, none⟩ = some (.int .u64 (word S 6)) ∧ w.cell? ⟨d, 8, none⟩ = some (.int .u64 (word S 7)) ∧ w.cell? ⟨d, 9, none⟩ = some (.int .u64 (word S 8)) ∧ w.cell? ⟨d, 10, none⟩ = some (.int .u64 (word S 9)) ∧ w.cell? ⟨d, 11, none⟩ = some (.int .u64 (word S 10)) ∧ w.cell? ⟨d, 12, none⟩ = some (.int .u64 (word S 11)) ∧ w.cell? ⟨d, 13, none⟩ = some (.int .u64 (word S 12)) ∧ w.cell? ⟨d, 14, none⟩ = some (.int .u64 (word S 13)) ∧ w.cell? ⟨d, 15, none⟩ = some (.int .u64 (word S 14)) ∧ w.cell? ⟨d, 16, none⟩ = some (.int .u64 (word S 15)) :=
  ⟨mk_len h, mk_word h 0 (by omega), mk_word h 1 (by omega), mk_word h 2 (by omega), mk_word h 3 (by omega), mk_word h 4 (by omega), mk_word h 5 (by omega), mk_word h 6 (by omega), mk_word h 7 (by omega), mk_word h 8 (by omega), mk_word h 9 (by omega), mk_word h 10 (by omega), mk_word h 11 (by omega), mk_word h 12 (by omega), mk_word h 13 (by omega), mk_word h 14 (by omega), mk_word h 15 (by omega)⟩

theorem mk_copy (w : World) (n : Nat) (S : Nat → Bool) (t : TypeId) : (w.alloc (.cells #[.int .i64 n, .int .u64 (word S 0), .int .u64 (word S 1), .int .u64 (word S 2), .int .u64 (word S 3), .int .u64 (word S 4), .int .u64 (word S 5), .int .u64 (word S 6), .int .u64 (word S 7), .int .u64 (word S 8), .int .u64 (word S 9), .int .u64 (word S 10), .int .u64 (word S 11), .int .u64 (word S 12), .int .u64 (word S 13), .int .u64 (word S 14), .int .u64 (word S 15)] t)).heap[w.heap.size]? = some (mkObj n S [] t) := (MapKept.heap_alloc w _).1

theorem mkCells_eq (n : Nat) (S : Nat → Bool) (rest : List Value) : mkCells n S rest = .int .i64 n :: .int .u64 (word S 0) :: .int .u64 (word S 1) :: .int .u64 (word S 2) :: .int .u64 (word S 3) :: .int .u64 (word S 4) :: .int .u64 (word S 5) :: .int .u64 (word S 6) :: .int .u64 (word S 7) :: .int .u64 (word S 8) :: .int .u64 (word S 9) :: .int .u64 (word S 10) :: .int .u64 (word S 11) :: .int .u64 (word S 12) :: .int .u64 (word S 13) :: .int .u64 (word S 14) :: .int .u64 (word S 15) :: rest := rfl

/-- Marks written over marks. -/
def over (w : World) (d n : Nat) (S : Nat → Bool) : World :=
  (((((((((((((((((w.setCell ⟨d, 0, none⟩ (.int .i64 n)).setCell ⟨d, 1, none⟩ (.int .u64 (word S 0))).setCell ⟨d, 2, none⟩ (.int .u64 (word S 1))).setCell ⟨d, 3, none⟩ (.int .u64 (word S 2))).setCell ⟨d, 4, none⟩ (.int .u64 (word S 3))).setCell ⟨d, 5, none⟩ (.int .u64 (word S 4))).setCell ⟨d, 6, none⟩ (.int .u64 (word S 5))).setCell ⟨d, 7, none⟩ (.int .u64 (word S 6))).setCell ⟨d, 8, none⟩ (.int .u64 (word S 7))).setCell ⟨d, 9, none⟩ (.int .u64 (word S 8))).setCell ⟨d, 10, none⟩ (.int .u64 (word S 9))).setCell ⟨d, 11, none⟩ (.int .u64 (word S 10))).setCell ⟨d, 12, none⟩ (.int .u64 (word S 11))).setCell ⟨d, 13, none⟩ (.int .u64 (word S 12))).setCell ⟨d, 14, none⟩ (.int .u64 (word S 13))).setCell ⟨d, 15, none⟩ (.int .u64 (word S 14))).setCell ⟨d, 16, none⟩ (.int .u64 (word S 15)))

theorem over_block {w : World} {d n m : Nat} {S T : Nat → Bool} {rest : List Value} {t : TypeId} (h : w.heap[d]? = some (mkObj n S rest t)) : (over w d m T).heap[d]? = some (mkObj m T rest t) := by
  have h0 := setCell_block (a := ⟨d, 0, none⟩) (v := .int .i64 m) h rfl
  have h1 := setCell_block (a := ⟨d, 1, none⟩) (v := .int .u64 (word T 0)) h0 rfl
  have h2 := setCell_block (a := ⟨d, 2, none⟩) (v := .int .u64 (word T 1)) h1 rfl
  have h3 := setCell_block (a := ⟨d, 3, none⟩) (v := .int .u64 (word T 2)) h2 rfl
  have h4 := setCell_block (a := ⟨d, 4, none⟩) (v := .int .u64 (word T 3)) h3 rfl
  have h5 := setCell_block (a := ⟨d, 5, none⟩) (v := .int .u64 (word T 4)) h4 rfl
  have h6 := setCell_block (a := ⟨d, 6, none⟩) (v := .int .u64 (word T 5)) h5 rfl
  have h7 := setCell_block (a := ⟨d, 7, none⟩) (v := .int .u64 (word T 6)) h6 rfl
  have h8 := setCell_block (a := ⟨d, 8, none⟩) (v := .int .u64 (word T 7)) h7 rfl
  have h9 := setCell_block (a := ⟨d, 9, none⟩) (v := .int .u64 (word T 8)) h8 rfl
  have h10 := setCell_block (a := ⟨d, 10, none⟩) (v := .int .u64 (word T 9)) h9 rfl
  have h11 := setCell_block (a := ⟨d, 11, none⟩) (v := .int .u64 (word T 10)) h10 rfl
  have h12 := setCell_block (a := ⟨d, 12, none⟩) (v := .int .u64 (word T 11)) h11 rfl
  have h13 := setCell_block (a := ⟨d, 13, none⟩) (v := .int .u64 (word T 12)) h12 rfl
  have h14 := setCell_block (a := ⟨d, 14, none⟩) (v := .int .u64 (word T 13)) h13 rfl
  have h15 := setCell_block (a := ⟨d, 15, none⟩) (v := .int .u64 (word T 14)) h14 rfl
  have h16 := setCell_block (a := ⟨d, 16, none⟩) (v := .int .u64 (word T 15)) h15 rfl
  refine h16.trans ?_
  simp only [List.setIfInBounds_toArray, mkObj, mkCells_eq, List.set_cons_zero, List.set_cons_succ]

theorem setCells_keep (b : Nat) (vs : List Value) (o : Nat) (w : World) : Keeps (fun k => k = b) w (w.setCells b o vs) := by
  induction vs generalizing o w with
  | nil => exact Keeps.refl _ _
  | cons v vs ih => exact (Keeps.of (grownBy_setCell w ⟨b, o, none⟩ v) (by rintro k hk; cases hk; exact Or.inl rfl)).trans (ih _ _)
theorem over_eq (w : World) (d n : Nat) (S : Nat → Bool) : w.setCells d 0 (mkCells n S []) = over w d n S := by
  rw [mkCells_eq]; rfl

theorem mkCells_app (n : Nat) (S : Nat → Bool) (rest : List Value) : mkCells n S rest = mkCells n S [] ++ rest := by simp [mkCells]
theorem mkCells_len (n : Nat) (S : Nat → Bool) (rest : List Value) : (mkCells n S rest).length = 17 + rest.length := by simp [mkCells]; omega
theorem mk_range {w : World} {d n : Nat} {S : Nat → Bool} {rest : List Value} {t : TypeId} (h : w.heap[d]? = some (mkObj n S rest t)) : w.rangeAt d 0 (mkCells n S []) := by
  intro j v hv
  rw [Nat.zero_add, cell_of_row _ _ j _ _ _ h, mkCells_app]
  have := (List.getElem?_eq_some_iff.1 hv).1
  simp only [List.getElem?_toArray]
  rw [List.getElem?_append_left this]; exact hv
theorem mk_there {w : World} {d n : Nat} {S : Nat → Bool} {rest : List Value} {t : TypeId} (h : w.heap[d]? = some (mkObj n S rest t)) : w.there d 0 17 := by
  intro j hj
  have hl := mkCells_len n S rest
  refine ⟨?_, by simp [World.frozen?, h, mkObj]⟩
  rw [Nat.zero_add, cell_of_row _ _ j _ _ _ h]
  simp only [List.getElem?_toArray]
  rw [List.getElem?_eq_getElem (by omega)]; rfl
theorem mk_ones (n : Nat) (S : Nat → Bool) : (mkCells n S []).toArray.all (·.oneCell') = true := by
  apply all_oneCell_toArray
  intro v hv
  rw [mkCells_eq] at hv
  simp only [List.mem_cons, List.not_mem_nil, or_false] at hv
  rcases hv with rfl | rfl | rfl | rfl | rfl | rfl | rfl | rfl | rfl | rfl | rfl | rfl | rfl | rfl | rfl | rfl | rfl <;> rfl
theorem size70 : (Try.prog.info? 87).map (·.size) = some 17 := by kernel_rfl
theorem mk_zero (w : World) (t : TypeId) : (w.alloc (.cells #[.int .i64 0, .int .u64 0, .int .u64 0, .int .u64 0, .int .u64 0, .int .u64 0, .int .u64 0, .int .u64 0, .int .u64 0, .int .u64 0, .int .u64 0, .int .u64 0, .int .u64 0, .int .u64 0, .int .u64 0, .int .u64 0, .int .u64 0] t)).heap[w.heap.size]? = some (mkObj 0 (fun _ => false) [] t) := by
  have : mkObj 0 (fun _ => false) [] t = .cells #[.int .i64 0, .int .u64 0, .int .u64 0, .int .u64 0, .int .u64 0, .int .u64 0, .int .u64 0, .int .u64 0, .int .u64 0, .int .u64 0, .int .u64 0, .int .u64 0, .int .u64 0, .int .u64 0, .int .u64 0, .int .u64 0, .int .u64 0] t (0, 0) := by
    simp only [mkObj, mkCells, word_none]; rfl
  rw [this]
  exact (MapKept.heap_alloc w _).1

theorem sup_set {s : Sh} {S : Nat → Bool} {p : Nat} (h : ∀ i, S i = true → s.data ≤ i ∧ i < s.pages) (hp : s.data ≤ p ∧ p < s.pages) : ∀ i, upd S p true i = true → s.data ≤ i ∧ i < s.pages := by
  intro i hi
  unfold upd at hi
  split at hi
  · omega
  · exact h i hi

theorem inD_nat {s : Sh} {p : Int} (h : inD s p = true) : ∃ k : Nat, p = k ∧ s.data ≤ k ∧ k < s.pages := by
  have := inD_iff.1 h
  exact ⟨p.toNat, by omega, by omega, by omega⟩

set_option maxHeartbeats 2000000 in
theorem give_in (w : World) (d : Nat) (s : Sh) (S : Nat → Bool) (h : PoolAt w d s S) (p : Option Addr) (cap : Nat) (l : List Int) (hin : IntIn w p l) (hl : l.length ≤ maxLen) (hb : l.all (inD s) = true) :
    Calls Try.prog 21 #[.pointer (some ⟨d, 0, none⟩), .slice p l.length cap] w fun e w' =>
      (gv S (l.map Int.toNat) = none ∧ e = .returned (.int .i64 51) ∧ PoolAt w' d s S ∧ Keeps (fun k => w.heap.size ≤ k) w w') ∨
      (∃ S', gv S (l.map Int.toNat) = some S' ∧ e = .returned (.int .i64 0) ∧ PoolAt w' d s S' ∧ Keeps (fun k => k = d ∨ w.heap.size ≤ k) w w') := by
  obtain ⟨c0, c1, c2⟩ := h.cells
  have hpg : s.pages ≤ 1024 := h.good.2.1
  unfold maxLen at hl
  have HP := Hid.mk' h
  have HB := Hid.mk' (List.all_eq_true.1 hb)
  have HIN := Hid.mk' hin
  clear h hb hin
  go_enter Try.func21, Try.ntmps21
  go_wp2
  go_loop [12] (fun i => ∃ k : Nat, k ≤ l.length ∧ i = .int .i64 k) (fun i => l.length - (intOf i).toNat)
  case atStart => exact ⟨0, by omega, rfl⟩
  case round =>
    obtain ⟨k, hk, rfl⟩ := hrel
    by_cases hlt : k < l.length
    · obtain ⟨b, o, rfl, hbs, hc⟩ := HIN.out (by omega)
      have e1 := hc k hlt
      have hx := inD_iff.1 (HB.out _ (getD_mem (d := 0) hlt))
      generalize l.getD k 0 = x at *
      have hlt' : (k : Int) < (l.length : Int) := by omega
      have h1 : ¬ x < (s.data : Int) := by omega
      have h2 : ¬ (s.pages : Int) ≤ x := by omega
      clear hc
      go_wp2
      go_round
      case rel => exact ⟨k + 1, by omega, by go_num⟩
      case measure => simp [intOf]; omega
    · have hlt' : ¬ (k : Int) < (l.length : Int) := by omega
      clear hlt
      have HRA := Hid.mk' (mk_range HP.out.at_)
      have HLN := Hid.mk' (show (Try.prog.info? 87).map (·.size) = some (mkCells s.pages S []).length by rw [mkCells_len]; exact size70)
      have HZ := Hid.mk' (mk_there (mk_zero w 87))
      have HSZ : Hid ((mkCells s.pages S []).toArray.size = 17) := by show _ = _; simp [mkCells_len]
      have HS1 := Hid.mk' (show (Try.prog.info? 87).map (·.size) = some (mkCells s.pages S []).toArray.size by rw [HSZ.out]; exact size70)
      go_wp2_with (first
        | (with_reducible refine wpList_load_mid ?zag 87 ?zax ?zaho d 0 ?zahx (mkCells s.pages S []) ?zadd ?zahc ?zahu ?zahd ?zahi ?zak
           case zaho => exact rfl
           case zag => exact rfl
           case zahx => exact rfl
           case zahc => exact HRA.out
           case zahu => exact Try.underlying87
           case zahd => exact rfl
           case zahi => exact HLN.out)
        | (with_reducible refine wpList_store_mid ?zbg 87 ?zbx ?zby ?zbho w.heap.size 0 (mkCells s.pages S []).toArray ?zbhx ?zbhy ?zbht ?zbhi ?zbh1 ?zbk
           case zbho => exact rfl
           case zbg => exact rfl
           case zbhx => exact rfl
           case zbhy => exact rfl
           case zbht => rw [HSZ.out]; exact HZ.out
           case zbhi => exact HS1.out
           case zbh1 => exact mk_ones _ _))
      have hcp : ((w.alloc (.cells #[.int .i64 0, .int .u64 0, .int .u64 0, .int .u64 0, .int .u64 0, .int .u64 0, .int .u64 0, .int .u64 0, .int .u64 0, .int .u64 0, .int .u64 0, .int .u64 0, .int .u64 0, .int .u64 0, .int .u64 0, .int .u64 0, .int .u64 0] 87)).setCells w.heap.size 0 (mkCells s.pages S [])).heap[w.heap.size]? = some (mkObj s.pages S [] 87) := by
        rw [over_eq]; exact over_block (mk_zero w 87)
      have g1 : Keeps (fun k => w.heap.size ≤ k) w ((w.alloc (.cells #[.int .i64 0, .int .u64 0, .int .u64 0, .int .u64 0, .int .u64 0, .int .u64 0, .int .u64 0, .int .u64 0, .int .u64 0, .int .u64 0, .int .u64 0, .int .u64 0, .int .u64 0, .int .u64 0, .int .u64 0, .int .u64 0, .int .u64 0] 87)).setCells w.heap.size 0 (mkCells s.pages S [])) :=
        (Keeps.of (World.grownBy_alloc w _ none) (by simp)).then (setCells_keep _ _ _ _) (by intro k hk; left; omega)
      obtain ⟨w1, hw1⟩ : ∃ w1, w1 = (w.alloc (.cells #[.int .i64 0, .int .u64 0, .int .u64 0, .int .u64 0, .int .u64 0, .int .u64 0, .int .u64 0, .int .u64 0, .int .u64 0, .int .u64 0, .int .u64 0, .int .u64 0, .int .u64 0, .int .u64 0, .int .u64 0, .int .u64 0, .int .u64 0] 87)).setCells w.heap.size 0 (mkCells s.pages S []) := ⟨_, rfl⟩
      rw [← hw1] at hcp g1 ⊢
      have HC := Hid.mk' hcp
      have HG1 := Hid.mk' g1
      have hdl := heap_lt HP.out.at_
      clear hw1 hcp g1 c0 c1 c2 HRA HLN HZ HSZ HS1
      go_loopw [39] (fun i wr => ∃ (k : Nat) (T : Nat → Bool), k ≤ l.length ∧ i = .int .i64 k ∧ Hid (gv S (l.map Int.toNat) = gv T ((l.drop k).map Int.toNat) ∧ wr.heap[w.heap.size]? = some (mkObj s.pages T [] 87) ∧ (∀ i, T i = true → s.data ≤ i ∧ i < s.pages) ∧ Keeps (fun k => k = w.heap.size) w1 wr)) (fun i _ => l.length - (intOf i).toNat)
      case atStart => exact ⟨0, S, by omega, rfl, rfl, HC.out, HP.out.sup, Keeps.refl _ _⟩
      case round =>
        obtain ⟨k, T, hk, rfl, hrel⟩ := hrel
        have hkw : Keeps (fun k => w.heap.size ≤ k) w wr := HG1.out.then hrel.out.2.2.2 (by intro k hk; left; omega)
        by_cases hlt : k < l.length
        · obtain ⟨b, o, rfl, hbs, hc⟩ := HIN.out (by omega)
          have e1 := hkw.cell (hc k hlt) (by simp; omega)
          have hdr := drop_getD 0 hlt
          obtain ⟨x, hx, hx1, hx2⟩ := inD_nat (HB.out _ (getD_mem (d := 0) hlt))
          rw [hx] at e1 hdr
          have hlt' : (k : Int) < (l.length : Int) := by omega
          have hset := set_do wr w.heap.size s.pages x T [] 87 hrel.out.2.1 hpg hx2
          have HG := Hid.mk' hrel.out.1
          rw [hdr, List.map_cons, Int.toNat_natCast] at HG
          have HREL := hrel
          have HKW := Hid.mk' hkw
          clear hc hrel hkw hx hdr
          cases hT : T x with
          | true =>
            rw [hT, upd_id hT] at hset
            have HT := Hid.mk' hT
            clear hT
            go_wp2_with (first | (go_at_call 41; refine hset.mono ?_; rintro e w5 ⟨rfl, hx⟩; have HX := Hid.mk' hx; clear hx))
            go_ret
            refine Or.inl ⟨?_, rfl, ?_, ?_⟩
            · rw [HG.out, gv, if_pos HT.out]
            · exact (HP.out.kept HKW.out (by omega)).kept HX.out.2.1 (by omega)
            · exact HKW.out.then HX.out.2.1 (by intro k hk; left; omega)
          | false =>
            rw [hT] at hset
            have HT := Hid.mk' hT
            clear hT
            go_wp2_with (first | (go_at_call 41; refine hset.mono ?_; rintro e w5 ⟨rfl, hx⟩; have HX := Hid.mk' hx; clear hx))
            go_roundw
            case rel =>
              refine ⟨k + 1, upd T x true, by omega, by go_num, ?_, HX.out.1, sup_set HREL.out.2.2.1 ⟨hx1, hx2⟩, HREL.out.2.2.2.trans HX.out.2.1⟩
              rw [HG.out, gv, if_neg (by rw [HT.out]; decide)]
            case measure => simp [intOf]; omega
        · have hlt' : ¬ (k : Int) < (l.length : Int) := by omega
          have HJ := Hid.mk' (show k = l.length by omega)
          have HREL := hrel
          have hpd := HP.out.kept hkw (by omega)
          have HRA := Hid.mk' (mk_range hrel.out.2.1)
          have HLN := Hid.mk' (show (Try.prog.info? 87).map (·.size) = some (mkCells s.pages T []).length by rw [mkCells_len]; exact size70)
          have HZ := Hid.mk' (mk_there hpd.at_)
          have HSZ : Hid ((mkCells s.pages T []).toArray.size = 17) := by show _ = _; simp [mkCells_len]
          have HS1 := Hid.mk' (show (Try.prog.info? 87).map (·.size) = some (mkCells s.pages T []).toArray.size by rw [HSZ.out]; exact size70)
          have HKW := Hid.mk' hkw
          have HPD := Hid.mk' hpd
          have HO : Hid ((wr.setCells d 0 (mkCells s.pages T [])).heap[d]? = some (mkObj s.pages T s.rest 89)) := by
            show _ = _
            rw [over_eq]; exact over_block hpd.at_
          have HO2 := Hid.mk' (setCells_keep d (mkCells s.pages T []) 0 wr)
          clear hrel hkw hpd
          go_wp2_with (first
            | (with_reducible refine wpList_load_mid ?zcg 87 ?zcx ?zcho w.heap.size 0 ?zchx (mkCells s.pages T []) ?zcdd ?zchc ?zchu ?zchd ?zchi ?zck
               case zcho => exact rfl
               case zcg => exact rfl
               case zchx => exact rfl
               case zchc => exact HRA.out
               case zchu => exact Try.underlying87
               case zchd => exact rfl
               case zchi => exact HLN.out)
            | (with_reducible refine wpList_store_mid ?zdg 87 ?zdx ?zdy ?zdho d 0 (mkCells s.pages T []).toArray ?zdhx ?zdhy ?zdht ?zdhi ?zdh1 ?zdk
               case zdho => exact rfl
               case zdg => exact rfl
               case zdhx => exact rfl
               case zdhy => exact rfl
               case zdht => rw [HSZ.out]; exact HZ.out
               case zdhi => exact HS1.out
               case zdh1 => exact mk_ones _ _))
          go_ret
          refine Or.inr ⟨T, ?_, rfl, ⟨HO.out, HP.out.good, HREL.out.2.2.1⟩, ?_⟩
          · rw [HREL.out.1, HJ.out, List.drop_length]; rfl
          · exact (HKW.out.mono (fun k _ hk => Or.inr hk)).then HO2.out (by intro k hk; left; left; exact hk)


end Go.Proofs.Ytnafocbgapianab
