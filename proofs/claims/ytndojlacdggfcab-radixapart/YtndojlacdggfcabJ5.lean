import Derived.Test.YtndojlacdggfcabI5
namespace Go.Proofs.Ytndojlacdggfcab
open Go.RowKit

set_option maxRecDepth 100000 in
set_option maxHeartbeats 2000000 in
theorem asks_runs (w0 w : World) (b : Nat) (D off v : Int) (p : Option Addr) (n c : Nat) (h : PL w0 w b) :
    Calls Try.prog 39 #[.pointer (some ⟨b, 0, none⟩), .agg #[.int .i64 5, .int .i64 D, .int .i64 off, .int .i64 v, .slice p n c]] w fun e w' => e = .returned (.bool true) ∧ PL w0 w' b := by
  obtain ⟨ts, rs, fs, ps, qs, hB, hk0, hb0, hn0⟩ := h
  have hd := plc_lt D (show 1 ≤ 3 by omega)
  have hpl := place_q D
  generalize plc D 3 = d at *
  have HOP := Hid.mk' (OpAt.new hB hd 5 D off v (.slice p n c))
  have HK1 := Hid.mk' (Keeps.new w (.cells #[.int .i64 5, .int .i64 D, .int .i64 off, .int .i64 v, .slice p n c] 68))
  obtain ⟨W1, hW1⟩ : ∃ W1, w.alloc (.cells #[.int .i64 5, .int .i64 D, .int .i64 off, .int .i64 v, .slice p n c] 68) = W1 := ⟨_, rfl⟩
  rw [hW1] at HOP HK1
  have hne : w.heap.size ≠ b := by have := heap_lt hB.blk; omega
  have HBG := Hid.mk' (And.intro hB (And.intro hk0 (And.intro hb0 hn0)))
  clear hB hk0 hb0 hn0
  have hd3 : (d : Int) < 3 := by omega
  have hd0 : (0 : Int) ≤ d := by omega
  obtain ⟨o0, o1, o2, o3, o4, b0, b1⟩ := HOP.out
  go_enter Try.func39, Try.ntmps39
  go_wp2
  go_quiet (first | (go_at_call 41; exact Calls.quiet_of_same (hpl _)))
  obtain ⟨Wa, hWa⟩ : ∃ Wa, W1.drewN nq = Wa := ⟨_, rfl⟩
  have HKA := Hid.mk' (show Keeps (fun _ => False) W1 Wa by rw [← hWa]; exact Keeps.drewN _ _ _)
  rw [hWa]
  clear hWa hW1 o0 o1 o2 o3 o4 b0 b1
  obtain ⟨o0, o1, o2, o3, o4, b0, b1⟩ := HOP.out.keep HKA.out id id
  go_wp2
  go_quiet (first | (go_at_call 41; exact Calls.quiet_of_same (hpl _)))
  obtain ⟨Wb, hWb⟩ : ∃ Wb, Wa.drewN nq = Wb := ⟨_, rfl⟩
  have HKB := Hid.mk' (show Keeps (fun _ => False) W1 Wb by rw [← hWb]; exact HKA.out.trans (Keeps.drewN _ _ _))
  rw [hWb]
  clear hWb o0 o1 o2 o3 o4 b0 b1
  have hOB := HOP.out.keep HKB.out id id
  obtain ⟨o0, o1, o2, o3, o4, b0, b1⟩ := hOB
  have hTd := (HBG.out.1.tree d hd).keep (HK1.out.trans HKB.out)
  have hRd : RefAt Wb (rs d) (fs d) := (HK1.out.trans HKB.out).at (HBG.out.1.ref d hd) id
  have htb : ts d ≠ b := tree_ne_b (HBG.out.1.tree d hd) HBG.out.1.blk
  have hrb : rs d ≠ b := ref_ne_b (HBG.out.1.ref d hd) HBG.out.1.blk
  have htB : ts d ≠ w.heap.size := by have := (HBG.out.1.tree d hd).lt; omega
  have hrB : rs d ≠ w.heap.size := by have := heap_lt (HBG.out.1.ref d hd); omega
  have hS := (runs_any Wb _ _ hTd).mono (R' := fun e w' => ∃ s, e = .returned s ∧ Hid (Keeps (fun _ => False) Wb w' ∧ w'.ownsRow Wb.heap.size 38 3 s (runsOf (els (fs d) 0 0 512)).length (rflat (runsOf (els (fs d) 0 0 512))))) (fun e w' ⟨s, h1, h2⟩ => ⟨s, h1, h2⟩)
  have hR : ∀ wx s, (Keeps (fun _ => False) Wb wx ∧ wx.ownsRow Wb.heap.size 38 3 s (runsOf (els (fs d) 0 0 512)).length (rflat (runsOf (els (fs d) 0 0 512)))) → Calls Try.prog 46 #[.pointer (some ⟨rs d, 0, none⟩)] wx fun e w' => ∃ s', e = .returned s' ∧ Hid (Keeps (fun _ => False) Wb w') ∧
      (∀ n, Calls Try.prog 14 #[s, s'] (w'.drewN n) fun e w'' => e = .returned (.bool true) ∧ Hid (Keeps (fun _ => False) Wb w'')) := fun wx s ⟨hk, hro⟩ => by
    refine (ref_runs wx _ _ (hk.at hRd id)).mono fun e w' ⟨s', h1, hh⟩ => ⟨s', h1, hk.trans hh.out.1, fun n => ?_⟩
    have hl := Nat.le_trans (runsOf_len (els (fs d) 0 0 512)) (els_len (fs d) 0 0 512)
    have r1 := ownsRow_keeps hro hh.out.1 (fun c hc h => h)
    have q1 := (Row.of_own r1).keep (Keeps.drewN _ _ n)
    have q2 := (Row.of_own hh.out.2).keep (Keeps.drewN _ _ n)
    refine (sameRuns_any (w'.drewN n) s s' _ q1 q2 (by omega)).mono fun e w'' ⟨h1, m, h2⟩ => ⟨h1, by rw [h2]; exact ((hk.trans hh.out.1).trans (Keeps.drewN _ _ n)).trans (Keeps.drewN _ _ m)⟩
  go_wp2_with (first
    | (go_at_call 14; refine (hsame 0).mono ?_; rintro e w7 ⟨rfl, H7⟩)
    | (go_at_call 46; refine (hR _ _ H5.out).mono ?_; rintro e w6 ⟨s', rfl, H6, hsame⟩)
    | (go_at_call 11; refine hS.mono ?_; rintro e w5 ⟨s, rfl, H5⟩))
  go_ret
  exact ⟨rfl, ⟨ts, rs, fs, ps, qs, HBG.out.1.keep ((HK1.out.trans HKB.out).trans H7.out), HBG.out.2.1.trans ((HK1.out.trans HKB.out).trans H7.out), HBG.out.2.2⟩⟩

end Go.Proofs.Ytndojlacdggfcab
