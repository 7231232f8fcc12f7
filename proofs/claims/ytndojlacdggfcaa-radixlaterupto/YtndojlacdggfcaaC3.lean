import Derived.Test.YtndojlacdggfcaaC2
namespace Go.Proofs.Ytndojlacdggfcaa
open Go.RowKit Go.Shelf

attribute [local go_sem] Oper.semAt_some

theorem Keeps.grown {A B : World} (h : Keeps (fun _ => False) A B) : A.grownBy B none := ⟨h.os, h.tape, h.output, h.size, fun k hk _ => h.block k hk id⟩

set_option maxRecDepth 100000 in
set_option maxHeartbeats 2000000 in
theorem from1_in (n l Bt Bo t : Nat) (lo : Int) (g : Nat → Int) (J Jx : List El → World → Prop) (B : Nat) (hJ : AbidesFrom B J)
    (hY : ∀ m pre x W, J pre W → pre.length < (els g lo 0 512).length → YieldAt Fence.wide m Try.prog l (encs x) W fun e W' =>
      (e = .returned (.bool true) ∧ J (pre ++ [x]) W' ∧ KeepS W W') ∨ (e = .returned (.bool false) ∧ Jx (pre ++ [x]) W'))
    (W : World) (hBt : W.cell? ⟨Bt, 0, none⟩ = some (.pointer (some ⟨t, 0, none⟩))) (hBo : W.cell? ⟨Bo, 0, none⟩ = some (.int .i64 lo)) (hT : TreeAt W t g) (h0 : J [] W) :
    CallsIn Fence.wide n Try.prog 31 #[.func (.yield l) #[] #[], .pointer (some ⟨Bt, 0, none⟩), .pointer (some ⟨Bo, 0, none⟩)] W fun e W' => (∃ v, e = .returned v) ∧
      ((∃ ys, ys = els g lo 0 512 ∧ J ys W') ∨ (∃ pre, pre <+: els g lo 0 512 ∧ Jx pre W')) := by
  have hfol : Try.prog.follows .mixedOrders = true := by kernel_rfl
  obtain ⟨p, v, ht, hs⟩ := hT
  obtain ⟨c0, c1, _⟩ := cells2' ht
  have hK := Keeps.new W (.cells #[.pointer p, .int .i64 v] 71)
  have hB0 := (MapKept.heap_alloc W (.cells #[.pointer p, .int .i64 v] 71)).1
  obtain ⟨b0, b1, _⟩ := cells2' hB0
  have hBo1 := hK.cell hBo id
  have hr : ∀ m k, CallsIn Fence.wide m Try.prog 33 #[] ((W.alloc (.cells #[.pointer p, .int .i64 v] 71)).drewN k) fun e w' => e = .returned (.int .i64 512) ∧ w' = ((W.alloc (.cells #[.pointer p, .int .i64 v] 71)).drewN k) := fun m k => callsIn_wide.2 (reach_any _)
  have he : ∀ m k, CallsIn Fence.wide m Try.prog 32 #[.agg #[.pointer p, .int .i64 v], .int .i64 0, .int .i64 512, .int .i64 lo, .func (.yield l) #[] #[]] ((W.alloc (.cells #[.pointer p, .int .i64 v] 71)).drewN k) fun e W' =>
      ∃ b : Bool, e = .returned (.bool b) ∧ Hid ((∃ ys, ys = els g lo 0 512 ∧ J ys W') ∨ (∃ q, q <+: els g lo 0 512 ∧ Jx q W')) := fun m k => by
    have hk1 := hK.trans (Keeps.drewN (fun _ => False) _ k)
    have := each_in Fence.wide rfl trivial rfl l (els g lo 0 512).length B lo g J Jx hJ hY 3 m p v 0 [] ((W.alloc (.cells #[.pointer p, .int .i64 v] 71)).drewN k) _ (by decide) ((hs.keep hk1.none_nodes).congr fun o _ => by rw [Nat.zero_add]) (by decide)
      (hJ [] W _ none h0 hk1.grown (by simp)) (by simp)
    exact this.mono fun e W' h => h.elim (fun ⟨h1, h2, _⟩ => ⟨true, h1, .inl ⟨_, rfl, h2⟩⟩) (fun ⟨h1, q, h2, h3⟩ => ⟨false, h1, .inr ⟨q, h2, h3⟩⟩)
  clear hs hY h0 hK hB0
  refine callsIn_of_wp Try.func31 rfl trivial ?_ rfl
  simp only [Try.ntmps31, List.size_toArray, List.length_cons, List.length_nil, Nat.reduceAdd, Nat.reduceSub, Array.replicate_succ, Array.replicate_zero, List.push_toArray, List.append_toArray, List.nil_append, List.cons_append]
  gi_wp2
  gi_region_with_o (first
    | (refine ⟨trivial, fun h => (by cases h), ?_⟩; gi_at_call 33; refine (hr _ 1).mono ?_; rintro e w' ⟨rfl, hw⟩; subst w')
    | (refine ⟨trivial, fun h => (by cases h), ?_⟩; gi_at_call 32; refine (he _ 1).mono ?_; rintro e w' ⟨b, rfl, hx⟩))
  all_goals
    gi_wp2
    go_end0
    exact ⟨⟨_, rfl⟩, hx.out⟩

end Go.Proofs.Ytndojlacdggfcaa
