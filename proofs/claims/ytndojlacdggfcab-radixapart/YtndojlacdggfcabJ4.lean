import Derived.Test.YtndojlacdggfcabI5
namespace Go.Proofs.Ytndojlacdggfcab
open Go.RowKit

set_option maxRecDepth 100000 in
set_option maxHeartbeats 2000000 in
theorem asks_cut (w0 w : World) (b : Nat) (D off v : Int) (p : Option Addr) (n c : Nat) (h : PL w0 w b) :
    Calls Try.prog 39 #[.pointer (some ⟨b, 0, none⟩), .agg #[.int .i64 4, .int .i64 D, .int .i64 off, .int .i64 v, .slice p n c]] w fun e w' => e = .returned (.bool true) ∧ PL w0 w' b := by
  obtain ⟨ts, rs, fs, ps, qs, hB, hk0, hb0, hn0⟩ := h
  have hd := plc_lt D (show 1 ≤ 3 by omega)
  have hpl := place_q D
  generalize plc D 3 = d at *
  have HOP := Hid.mk' (OpAt.new hB hd 4 D off v (.slice p n c))
  have HK1 := Hid.mk' (Keeps.new w (.cells #[.int .i64 4, .int .i64 D, .int .i64 off, .int .i64 v, .slice p n c] 68))
  obtain ⟨W1, hW1⟩ : ∃ W1, w.alloc (.cells #[.int .i64 4, .int .i64 D, .int .i64 off, .int .i64 v, .slice p n c] 68) = W1 := ⟨_, rfl⟩
  rw [hW1] at HOP HK1
  have hne : w.heap.size ≠ b := by have := heap_lt hB.blk; omega
  have HBG := Hid.mk' (And.intro hB (And.intro hk0 (And.intro hb0 hn0)))
  clear hB hk0 hb0 hn0
  have hd3 : (d : Int) < 3 := by omega
  have hd0 : (0 : Int) ≤ d := by omega
  obtain ⟨o0, o1, o2, o3, o4, b0, b1⟩ := HOP.out
  go_enter Try.func39, Try.ntmps39
  go_wp2
  go_quiet (first | (go_at_call 41; exact Calls.quiet_of_same (hpl _)))
  obtain ⟨Wa, hWa⟩ : ∃ Wa, W1.drewN nq = Wa := ⟨_, rfl⟩
  have HKA := Hid.mk' (show Keeps (fun _ => False) W1 Wa by rw [← hWa]; exact Keeps.drewN _ _ _)
  rw [hWa]
  clear hWa hW1 o0 o1 o2 o3 o4 b0 b1
  obtain ⟨o0, o1, o2, o3, o4, b0, b1⟩ := HOP.out.keep HKA.out id id
  go_wp2
  go_quiet (first | (go_at_call 41; exact Calls.quiet_of_same (hpl _)))
  obtain ⟨Wb, hWb⟩ : ∃ Wb, Wa.drewN nq = Wb := ⟨_, rfl⟩
  have HKB := Hid.mk' (show Keeps (fun _ => False) W1 Wb by rw [← hWb]; exact HKA.out.trans (Keeps.drewN _ _ _))
  rw [hWb]
  clear hWb o0 o1 o2 o3 o4 b0 b1
  have hOB := HOP.out.keep HKB.out id id
  obtain ⟨o0, o1, o2, o3, o4, b0, b1⟩ := hOB
  have hTd := (HBG.out.1.tree d hd).keep (HK1.out.trans HKB.out)
  have hRd : RefAt Wb (rs d) (fs d) := (HK1.out.trans HKB.out).at (HBG.out.1.ref d hd) id
  have htb : ts d ≠ b := tree_ne_b (HBG.out.1.tree d hd) HBG.out.1.blk
  have hrb : rs d ≠ b := ref_ne_b (HBG.out.1.ref d hd) HBG.out.1.blk
  have htB : ts d ≠ w.heap.size := by have := (HBG.out.1.tree d hd).lt; omega
  have hrB : rs d ≠ w.heap.size := by have := heap_lt (HBG.out.1.ref d hd); omega
  have fin : ∀ (f' : Nat → Int) (A B : World), Keeps (fun c => c = ts d) Wb A → TreeAt A (ts d) f' → Keeps (fun c => c = rs d) A B → RefAt B (rs d) f' → PL w0 B b := fun f' A B k1 hT k2 hR => by
    have hbw := HBG.out.1.keep (HK1.out.trans HKB.out)
    refine ⟨ts, rs, setT fs d f', ps, qs, hbw.turn hd k1 hT k2 hR, ?_, HBG.out.2.2⟩
    have hw0 := (HBG.out.2.1.trans (HK1.out.trans HKB.out))
    exact keeps_new (keeps_new hw0 k1 (HBG.out.2.2.2 d hd).1) k2 (HBG.out.2.2.2 d hd).2
  have FIN := Hid.mk' fin
  clear fin
  have hS := (cut_any Wb _ off _ hTd).mono (R' := fun e w' => ∃ s, e = .returned s ∧ Hid (Keeps (fun c => c = ts d) Wb w' ∧ TreeAt w' (ts d) (cutF (fs d) 0 off) ∧ w'.ownsRow Wb.heap.size 3 1 s (els (fs d) off 0 512).length ((els (fs d) off 0 512).map val)) ∧ w'.cell? ⟨w.heap.size, 2, none⟩ = some (.int .i64 off))
    (fun e w' ⟨s, h1, h2, h3, h4⟩ => ⟨s, h1, ⟨h2, h3, h4⟩, h2.cell o2 htB.symm⟩)
  have hR : ∀ wx s, (Keeps (fun c => c = ts d) Wb wx ∧ TreeAt wx (ts d) (cutF (fs d) 0 off) ∧ wx.ownsRow Wb.heap.size 3 1 s (els (fs d) off 0 512).length ((els (fs d) off 0 512).map val)) → Calls Try.prog 45 #[.pointer (some ⟨rs d, 0, none⟩), .int .i64 off] wx fun e w' => ∃ s', e = .returned s' ∧ Hid (Keeps (fun c => c = rs d) wx w' ∧ RefAt w' (rs d) (cutF (fs d) 0 off)) ∧
      (∀ n, Calls Try.prog 20 #[s, s'] (w'.drewN n) fun e w'' => e = .returned (.bool true) ∧ Hid (∃ m, w'' = w'.drewN m)) := fun wx s ⟨hk, hT, hro⟩ => by
    refine (ref_cut wx _ _ off (hk.at hRd (fun e => tree_ne_ref hTd hRd e.symm))).mono fun e w' ⟨s', h1, hh⟩ => ⟨s', h1, ⟨hh.out.1, hh.out.2.1⟩, fun n => ?_⟩
    have hl := els_len (fs d) off 0 512
    have e1 : (els (fs d) off 0 512).map val = ((els (fs d) off 0 512).map (fun x => x.2)).map (fun x => .int .i64 x) := by rw [List.map_map]; rfl
    have e2 : ((els (fs d) off 0 512).map (fun x => x.2)).length = (els (fs d) off 0 512).length := by simp
    have r1 := ownsRow_keeps hro hh.out.1 (fun c hc h => by have := (hro.lt c hc).1; have := heap_lt hRd; omega)
    have q1 := (Row.of_own r1).keep (Keeps.drewN _ _ n)
    have q2 := (Row.of_own hh.out.2.2).keep (Keeps.drewN _ _ n)
    rw [e1, ← e2] at q1 q2
    refine (sameInts_any (w'.drewN n) s s' _ q1 q2 (by rw [e2]; omega)).mono fun e w'' ⟨h1, m, h2⟩ => ⟨h1, n + m, by rw [h2]; simp [World.drewN, Nat.add_assoc]⟩
  go_wp2_with (first
    | (go_at_call 20; refine (hsame 0).mono ?_; rintro e w7 ⟨rfl, H7⟩)
    | (go_at_call 45; refine (hR _ _ H5.out).mono ?_; rintro e w6 ⟨s', rfl, H6, hsame⟩)
    | (go_at_call 19; refine hS.mono ?_; rintro e w5 ⟨s, rfl, H5, y0⟩))
  go_ret
  obtain ⟨m, rfl⟩ := H7.out
  have hdn := Keeps.drewN (fun c => c = rs d) w6 m
  exact ⟨rfl, FIN.out _ _ _ H5.out.1 H5.out.2.1 (H6.out.1.trans hdn) (by exact H6.out.2)⟩

end Go.Proofs.Ytndojlacdggfcab
