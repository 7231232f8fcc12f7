import Derived.Test.YtendmohjodeelaaE4
import Derived.RangeFuncNested
import Derived.RangeFuncBound
import Derived.RangeFuncCalls
import Derived.RangeFuncLeaves
import Derived.Shelf.Abstract
import Derived.Shelf.RegionOpen
import Derived.OwnWalkIn
import Derived.TacticsInMore
import Derived.LoopNIn
import Derived.LoopIn
namespace Go.Proofs.Ytendmohjodeelaa
open Go.RowKit Go.Maps Go.Great Go.Shelf

attribute [local go_sem] Oper.semAt_some

theorem room_of_none {F : Fence} (hd : F.depth = none) (k : Nat) : F.room k := fun d h => by rw [hd] at h; cases h
theorem RoundIn.anyDepth {F : Fence} (hd : F.depth = none) {m m' : Nat} {P : Program} {l : Nat} {f : FuncId} {tmps : Array Value} {assign body : Code} {w : World} {R : Ending → World → Prop}
    (h : RoundIn F m P l f tmps assign body w R) : RoundIn F m' P l f tmps assign body w R := ⟨h.1, fun c cs _ => h.2 c cs (room_of_none hd _)⟩
theorem YieldAt.anyDepth {F : Fence} (hd : F.depth = none) {m : Nat} (m' : Nat) {P : Program} {l : Nat} {args : Array Value} {W : World} {R : Ending → World → Prop} (h : YieldAt F m P l args W R) : YieldAt F m' P l args W R := by
  obtain ⟨fn, tmps, assign, body, hy, hR⟩ := h
  exact ⟨fn, tmps, assign, body, hy, RoundIn.anyDepth hd hR⟩

theorem Keeps.grown {A B : World} (h : Keeps (fun _ => False) A B) : A.grownBy B none := ⟨h.os, h.tape, h.output, h.size, fun k hk _ => h.block k hk id⟩
theorem Keeps.of_below {A B : World} (h : Below A.heap.size A B) : Keeps (fun _ => False) A B := let ⟨a, b, c, d, e⟩ := h; ⟨a, b, c, d, fun k hk _ => e k hk⟩

/-- What All hands on: a name and its inode. -/
def encs (x : De) : Array Value := #[.string x.1, .int .i64 x.2]

/-- What the closure's loop holds. -/
def RI (J : List De → World → Prop) (S : List Rw) (d : Int) (Sf : Nat → World → Prop) (b : Nat) (p : Option Addr) (cap k : Nat) (wr : World) : Prop :=
  J ((lstS S d).take k) wr ∧ wr.ownsRow b 30 2 (.slice p (lstS S d).length cap) (lstS S d).length (dcells (lstS S d)) ∧ ∀ g, (Value.slice p (lstS S d).length cap).ownBlock = some g → Sf g wr
theorem RI.step {J : List De → World → Prop} {S : List Rw} {d : Int} {Sf : Nat → World → Prop} {b : Nat} {p : Option Addr} {cap k : Nat} {wr W2 : World} {o : Obj} {q : De} {Kp : World → World → Prop} (h : RI J S d Sf b p cap k wr)
    (hst : ∀ W1 W2 g c, Sf g W1 → Kp W1 W2 → W1.heap[g]? = some (.cells c 30 (0, 0)) → Sf g W2 ∧ W2.heap[g]? = some (.cells c 30 (0, 0))) (hgr : ∀ W1 W2 g, Sf g W1 → Keeps (fun _ => False) W1 W2 → Sf g W2)
    (hq : (lstS S d).take (k + 1) = (lstS S d).take k ++ [q]) (hj : J ((lstS S d).take k ++ [q]) W2) (hk : Kp (wr.alloc o) W2) : RI J S d Sf b p cap (k + 1) W2 := by
  have hr1 : (wr.alloc o).ownsRow b 30 2 (.slice p (lstS S d).length cap) (lstS S d).length (dcells (lstS S d)) := h.2.1.alloc o
  have hs1 : ∀ g, (Value.slice p (lstS S d).length cap).ownBlock = some g → Sf g (wr.alloc o) := fun g hg => hgr _ _ g (h.2.2 g hg) ((Keeps.refl _ wr).alloc o)
  refine ⟨by rw [hq]; exact hj, ⟨hr1.1, ?_⟩, fun g hg => ?_⟩
  · rcases hr1.2 with hn | ⟨g, cap', cur, e, hb, hgg, rest⟩
    · exact .inl hn
    · exact .inr ⟨g, cap', cur, e, hb, (hst _ _ g cur (hs1 g (by rw [e]; rfl)) hk hgg).2, rest⟩
  · rcases hr1.2 with hn | ⟨g', cap', cur, e, hb, hgg, rest⟩
    · rw [hn.1] at hg; cases hg
    · rw [e] at hg
      cases hg
      exact (hst _ _ g' cur (hs1 g' (by rw [e]; rfl)) hk hgg).1

set_option maxRecDepth 100000 in
set_option maxHeartbeats 2000000 in
/-- All's closure: Sf g W says that what the loop's body does leaves the row g as it is. -/
theorem all1_in (n l Bx Bd x bm : Nat) (d : Int) (S : List Rw) (hl : S.length < 4000000000000) (J Jx : List De → World → Prop) (B : Nat) (hJ : AbidesFrom B J) (Kp : World → World → Prop) (Sf : Nat → World → Prop)
    (hY : ∀ m pre x W, J pre W → pre.length < (lstS S d).length → YieldAt Fence.wide m Try.prog l (encs x) W fun e W' =>
      (e = .returned (.bool true) ∧ J (pre ++ [x]) W' ∧ Kp W W') ∨ (e = .returned (.bool false) ∧ Jx (pre ++ [x]) W'))
    (W : World) (hBx : W.cell? ⟨Bx, 0, none⟩ = some (.pointer (some ⟨x, 0, none⟩))) (hBd : W.cell? ⟨Bd, 0, none⟩ = some (.int .i64 d)) (hI : IxAt W x bm S) (h0 : J [] W)
    (hnew : ∀ W1 g, Keeps (fun _ => False) W W1 → W.heap.size ≤ g → Sf g W1) (hgr : ∀ W1 W2 g, Sf g W1 → Keeps (fun _ => False) W1 W2 → Sf g W2)
    (hst : ∀ W1 W2 g c, Sf g W1 → Kp W1 W2 → W1.heap[g]? = some (.cells c 30 (0, 0)) → Sf g W2 ∧ W2.heap[g]? = some (.cells c 30 (0, 0))) :
    CallsIn Fence.wide n Try.prog 31 #[.func (.yield l) #[] #[], .pointer (some ⟨Bx, 0, none⟩), .pointer (some ⟨Bd, 0, none⟩)] W fun e W' => (∃ v, e = .returned v) ∧
      ((∃ ys, ys = lstS S d ∧ J ys W') ∨ (∃ pre, pre <+: lstS S d ∧ Jx pre W')) := by
  have h12 : ∀ m, CallsIn Fence.wide m Try.prog 11 #[.pointer (some ⟨x, 0, none⟩), .int .i64 d] W fun e w' => ∃ v, e = .returned v ∧ Hid (w'.ownsRow W.heap.size 30 2 v (lstS S d).length (dcells (lstS S d)) ∧ Keeps (fun _ => False) W w') := fun m => callsIn_wide.2 (list_any W x bm S hI d (by omega))
  refine callsIn_of_wp Try.func31 rfl trivial ?_ rfl
  simp only [Try.ntmps31, List.size_toArray, List.length_cons, List.length_nil, Nat.reduceAdd, Nat.reduceSub, Array.replicate_succ, Array.replicate_zero, List.push_toArray, List.append_toArray, List.nil_append, List.cons_append]
  gi_wp2_with (refine ⟨trivial, fun h => (by cases h), ?_⟩; gi_at_call 11; refine (h12 _).mono ?_; rintro e w' ⟨v, rfl, H⟩; obtain ⟨p, cap, rfl⟩ := (DSl.of_row H.out.1 rfl).shape)
  have HI0 : Hid (RI J S d Sf W.heap.size p cap 0 w') := ⟨by simpa using hJ [] W _ none h0 H.out.2.grown (by simp), H.out.1, fun g hg => hnew _ _ H.out.2 (H.out.1.lt g hg).1⟩
  have HST : Hid (∀ W1 W2 g c, Sf g W1 → Kp W1 W2 → W1.heap[g]? = some (.cells c 30 (0, 0)) → Sf g W2 ∧ W2.heap[g]? = some (.cells c 30 (0, 0))) := hst
  have HGR : Hid (∀ W1 W2 g, Sf g W1 → Keeps (fun _ => False) W1 W2 → Sf g W2) := hgr
  clear H h12 hnew hgr hst hI h0 hBx hBd
  have hll : (lstS S d).length < 4000000000000 := by rw [lst_len]; have := filt_le S (inDir d); omega
  gi_loopw [10] (fun c wr => ∃ k : Nat, k ≤ (lstS S d).length ∧ c = .int .i64 k ∧ Hid (RI J S d Sf W.heap.size p cap k wr)) (fun c _ => (lstS S d).length - (intOf c).toNat)
  case atStart => exact ⟨0, by omega, rfl, HI0⟩
  case round =>
    obtain ⟨k, hk, rfl, HR⟩ := hrel
    by_cases hlt : k < (lstS S d).length
    · have hkl : (k : Int) < ((lstS S d).length : Int) := by omega
      obtain ⟨g, o, cap', e, hg, hcells⟩ := (DSl.of_row HR.out.2.1 rfl).pos (by omega)
      cases e
      obtain ⟨c0, c1⟩ := hcells k hlt
      clear hcells hg
      have HJ : Hid (J ((lstS S d).take k) wr) := HR.out.1
      obtain ⟨q, hq⟩ : ∃ q, (lstS S d).getD k dz = q := ⟨_, rfl⟩
      have HQ : Hid ((lstS S d).take (k + 1) = (lstS S d).take k ++ [q]) := by rw [← hq]; exact take_getD dz hlt
      rw [hq] at c0 c1
      have HJ1 : Hid (J ((lstS S d).take k) (wr.alloc (.cells #[.string q.1, .int .i64 q.2] 30))) := hJ _ _ _ none HJ.out (World.grownBy_alloc wr _ none) (by simp)
      obtain ⟨fn, tmps, assign, body, hy, hR⟩ := hY (n - 1) ((lstS S d).take k) q _ HJ1.out (by rw [List.length_take]; omega)
      dsimp only [encs] at hy
      have hR2 := hR.mono (R' := fun e W' => (e = .returned (.bool true) ∧ Hid (RI J S d Sf W.heap.size (some ⟨g, o, none⟩) cap (k + 1) W')) ∨ (e = .returned (.bool false) ∧ Hid (∃ pre, pre <+: lstS S d ∧ Jx pre W'))) (fun e W' h => h.elim
        (fun ⟨he, hj', hk'⟩ => .inl ⟨he, HR.out.step HST.out HGR.out HQ.out hj' hk'⟩)
        (fun ⟨he, hx⟩ => .inr ⟨he, _, ⟨(lstS S d).drop (k + 1), by rw [← HQ.out, List.take_append_drop]⟩, hx⟩))
      clear hR hq
      gi_wp2_with (first
        | ((try refine ⟨fun h => (by cases h), ?_⟩); refine hR2.mono ?_; clear hR2; rintro e W2 (⟨rfl, hx⟩ | ⟨rfl, hx⟩)))
      · exact ⟨⟨k + 1, by omega, by go_num, hx⟩, by simp [intOf]; omega⟩
      · try simp only [Exit.inBlock, Exit.then]
        refine bodyPost_ret (results_none rfl _ _ _) rfl ?_
        exact ⟨⟨_, rfl⟩, Or.inr hx.out⟩
    · obtain rfl : k = (lstS S d).length := by omega
      have HJ : Hid (J (lstS S d) wr) := by have := HR.out.1; rwa [List.take_length] at this
      gi_wp2
      go_end0
      exact ⟨⟨_, rfl⟩, Or.inl ⟨_, rfl, HJ.out⟩⟩

set_option maxRecDepth 100000 in
theorem all_any (w : World) (p : Option Addr) (d : Int) : Calls Try.prog 22 #[.pointer p, .int .i64 d] w fun e w' =>
    e = .returned (.func (.func 31) #[] #[.pointer (some ⟨w.heap.size, 0, none⟩), .pointer (some ⟨w.heap.size + 1, 0, none⟩)]) ∧ w' = (w.alloc (.cells #[.pointer p] 24)).alloc (.cells #[.int .i64 d] 3) := by
  have hmf : ∀ (fn : Fn) (first cap : Array Value) (w : World), (Instr.makeFunc fn first cap).run Try.prog w = .ok (.func fn first cap) w := fun _ _ _ _ => rfl
  go_enter Try.func22, Try.ntmps22
  go_wp2
  go_ret
  exact ⟨rfl, rfl⟩

end Go.Proofs.Ytendmohjodeelaa
