import Derived.Test.YtndojlacdggfcabI4
namespace Go.Proofs.Ytndojlacdggfcab
open Go.RowKit

/-- Where a play stands: three trees of each kind, all made since w0. -/
def PL (w0 W : World) (b : Nat) : Prop := ∃ ts rs fs ps qs, BegAt W b 3 ts rs fs ps qs ∧ Keeps (fun _ => False) w0 W ∧ w0.heap.size ≤ b ∧ ∀ j, j < 3 → w0.heap.size ≤ ts j ∧ w0.heap.size ≤ rs j
def opCells (kd D off v : Int) (s : Value) : Array Value := #[.int .i64 kd, .int .i64 D, .int .i64 off, .int .i64 v, s]

theorem place_q (c : Int) (w : World) : Calls Try.prog 41 #[.int .i64 c] w fun e w' => e = .returned (.int .i64 (plc c 3)) ∧ w' = w := (place_any c w).mono fun _ _ ⟨h1, h2⟩ => ⟨h1, h2.symm⟩

/-- What a step reads of its own box and of the play's. -/
structure OpAt (W : World) (B b d : Nat) (ts rs : Nat → Nat) (kd D off v : Int) (s : Value) : Prop where
  o0 : W.cell? ⟨B, 0, none⟩ = some (.int .i64 kd)
  o1 : W.cell? ⟨B, 1, none⟩ = some (.int .i64 D)
  o2 : W.cell? ⟨B, 2, none⟩ = some (.int .i64 off)
  o3 : W.cell? ⟨B, 3, none⟩ = some (.int .i64 v)
  o4 : W.cell? ⟨B, 4, none⟩ = some s
  b0 : W.cell? ⟨b, d, none⟩ = some (.pointer (some ⟨ts d, 0, none⟩))
  b1 : W.cell? ⟨b, 3 + d, none⟩ = some (.pointer (some ⟨rs d, 0, none⟩))
theorem OpAt.keep {X : Nat → Prop} {W W' : World} {B b d : Nat} {ts rs : Nat → Nat} {kd D off v : Int} {s : Value} (h : OpAt W B b d ts rs kd D off v s) (hk : Keeps X W W') (hB : ¬ X B) (hb : ¬ X b) : OpAt W' B b d ts rs kd D off v s :=
  ⟨hk.cell h.o0 hB, hk.cell h.o1 hB, hk.cell h.o2 hB, hk.cell h.o3 hB, hk.cell h.o4 hB, hk.cell h.b0 hb, hk.cell h.b1 hb⟩
theorem OpAt.new {w : World} {b d : Nat} {ts rs : Nat → Nat} {fs : Nat → Nat → Int} {ps qs : Nat → Option Addr} (hB : BegAt w b 3 ts rs fs ps qs) (hd : d < 3) (kd D off v : Int) (s : Value) :
    OpAt (w.alloc (.cells #[.int .i64 kd, .int .i64 D, .int .i64 off, .int .i64 v, s] 68)) w.heap.size b d ts rs kd D off v s := by
  have hK1 := Keeps.new w (.cells #[.int .i64 kd, .int .i64 D, .int .i64 off, .int .i64 v, s] 68)
  have hbx := (MapKept.heap_alloc w (.cells #[.int .i64 kd, .int .i64 D, .int .i64 off, .int .i64 v, s] 68)).1
  generalize w.alloc (.cells #[.int .i64 kd, .int .i64 D, .int .i64 off, .int .i64 v, s] 68) = W1 at *
  obtain ⟨b0, b1⟩ := b_cell (hK1.at hB.blk id) d hd
  rw [hB.ps_eq d hd] at b0
  rw [hB.qs_eq d hd] at b1
  exact ⟨by simp [World.cell?, hbx], by simp [World.cell?, hbx], by simp [World.cell?, hbx], by simp [World.cell?, hbx], by simp [World.cell?, hbx], b0, b1⟩

end Go.Proofs.Ytndojlacdggfcab
