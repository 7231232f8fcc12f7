import Derived.Test.YtendmohjodeelaaB2
namespace Go.Proofs.Ytendmohjodeelaa
open Go.RowKit Go.Maps Go.Great Go.Sort Go.Shelf

theorem list_pos (w : World) (x bm : Nat) (S : List Rw) (h : IxAt w x bm S) (d : Int) (hl : S.length < 5000000000000) (n : Nat) (hn : (lstS S d).length = n) (hn0 : 0 < n) :
    Calls Try.prog 11 #[.pointer (some ⟨x, 0, none⟩), .int .i64 d] w fun e w' => ∃ g cap, e = .returned (.slice (some ⟨g, 0, none⟩) n cap) ∧ Hid (w'.ownsRow w.heap.size 30 2 (.slice (some ⟨g, 0, none⟩) n cap) n (dcells (lstS S d)) ∧ Keeps (fun _ => False) w w') := by
  refine (list_any w x bm S h d hl).mono ?_
  rintro e w' ⟨v, rfl, H⟩
  have h1 := H.out.1
  rw [hn] at h1
  rcases h1.2 with ⟨_, h0⟩ | ⟨g, cap, cur, rfl, _⟩
  · omega
  · exact ⟨g, cap, rfl, h1, H.out.2⟩

abbrev sa : ByteArray := ⟨#[97]⟩
abbrev sb : ByteArray := ⟨#[98]⟩
theorem f1 : putE [] 1 sb 3 = 0 := by kernel_rfl
theorem f1' : putS [] 1 sb 3 = [(1, sb, 3)] := by kernel_rfl
theorem f2 : putE [(1, sb, 3)] 1 sa 3 = 0 := by kernel_rfl
theorem f2' : putS [(1, sb, 3)] 1 sa 3 = [(1, sa, 3), (1, sb, 3)] := by kernel_rfl
theorem f3 : putE [(1, sa, 3), (1, sb, 3)] 1 sa 4 = 81 := by kernel_rfl
theorem f3' : putS [(1, sa, 3), (1, sb, 3)] 1 sa 4 = [(1, sa, 3), (1, sb, 3)] := by kernel_rfl
theorem f4 : putE [(1, sa, 3), (1, sb, 3)] 1 ⟨#[]⟩ 4 = 80 := by kernel_rfl
theorem f4' : putS [(1, sa, 3), (1, sb, 3)] 1 ⟨#[]⟩ 4 = [(1, sa, 3), (1, sb, 3)] := by kernel_rfl
theorem f5 : lstS [(1, sa, 3), (1, sb, 3)] 1 = [(sa, 3), (sb, 3)] := by kernel_rfl
theorem f6 : ((List.filter (toIno 3) [(1, sa, 3), (1, sb, 3)]).length : Int) = 2 := by kernel_rfl
theorem f7 : getS [(1, sa, 3), (1, sb, 3)] 1 sa = 3 := by kernel_rfl
theorem f7' : dropE [(1, sa, 3), (1, sb, 3)] 1 sa = 0 := by kernel_rfl
theorem f7'' : delS [(1, sa, 3), (1, sb, 3)] 1 sa = [(1, sb, 3)] := by kernel_rfl
theorem f8 : getS [(1, sb, 3)] 1 sa = 0 := by kernel_rfl
theorem f8' : getS [(1, sb, 3)] 1 sb = 3 := by kernel_rfl
theorem f9 : ((List.filter (inDir 1) [(1, sb, 3)]).length : Int) = 1 := by kernel_rfl

def S1 : List Rw := [(1, sb, 3)]
def S2 : List Rw := [(1, sa, 3), (1, sb, 3)]

theorem put_at (S S' : List Rw) (d : Int) (s : ByteArray) (n : Int) (E : Int) (hE : putE S d s n = E) (hS : putS S d s n = S') (hl : S.length < 35184372088832) (w : World) (x bm : Nat) (h : Hid (IxAt w x bm S)) :
    Calls Try.prog 18 #[.pointer (some ⟨x, 0, none⟩), .int .i64 d, .string s, .int .i64 n] w fun e w' => e = .returned (.int .i64 E) ∧ Hid (IxAt w' x bm S') ∧ Hid (Keeps (fun k => k = bm) w w') := by
  refine (put_any w x bm S h.out d s n hl).mono ?_
  rintro e w' ⟨rfl, H⟩
  rw [hE, ← hS]
  exact ⟨rfl, H.out.1, H.out.2⟩
theorem get_at (S : List Rw) (d : Int) (hd : (Lit.int .i64 d).wf = true) (s : ByteArray) (E : Int) (hE : getS S d s = E) (w : World) (x bm : Nat) (h : Hid (IxAt w x bm S)) :
    Calls Try.prog 13 #[.pointer (some ⟨x, 0, none⟩), .int .i64 d, .string s] w fun e w' => e = .returned (.int .i64 E) ∧ Hid (IxAt w' x bm S) ∧ Hid (Keeps (fun _ => False) w w') := by
  refine (get_any w x bm S h.out d hd s).mono ?_
  rintro e w' ⟨rfl, H⟩
  rw [hE]
  exact ⟨rfl, h.out.keep H (fun h => h) (fun h => h), H⟩
theorem len_at (S : List Rw) (d : Int) (E : Int) (hE : ((S.filter (inDir d)).length : Int) = E) (hl : S.length < 35184372088832) (w : World) (x bm : Nat) (h : Hid (IxAt w x bm S)) :
    Calls Try.prog 12 #[.pointer (some ⟨x, 0, none⟩), .int .i64 d] w fun e w' => e = .returned (.int .i64 E) ∧ Hid (IxAt w' x bm S) ∧ Hid (Keeps (fun _ => False) w w') := by
  refine (len_any w x bm S h.out d hl).mono ?_
  rintro e w' ⟨rfl, H⟩
  rw [hE]
  exact ⟨rfl, h.out.keep H (fun h => h) (fun h => h), H⟩
theorem links_at (S : List Rw) (d : Int) (E : Int) (hE : ((S.filter (toIno d)).length : Int) = E) (hl : S.length < 35184372088832) (w : World) (x bm : Nat) (h : Hid (IxAt w x bm S)) :
    Calls Try.prog 14 #[.pointer (some ⟨x, 0, none⟩), .int .i64 d] w fun e w' => e = .returned (.int .i64 E) ∧ Hid (IxAt w' x bm S) ∧ Hid (Keeps (fun _ => False) w w') := by
  refine (links_any w x bm S h.out d hl).mono ?_
  rintro e w' ⟨rfl, H⟩
  rw [hE]
  exact ⟨rfl, h.out.keep H (fun h => h) (fun h => h), H⟩
theorem drop_at (S S' : List Rw) (d : Int) (hd : (Lit.int .i64 d).wf = true) (s : ByteArray) (n E : Int) (hn : getS S d s = n) (hE : dropE S d s = E) (hS : delS S d s = S') (w : World) (x bm : Nat) (h : Hid (IxAt w x bm S)) :
    Calls Try.prog 21 #[.pointer (some ⟨x, 0, none⟩), .int .i64 d, .string s] w fun e w' => e = .returned (.tuple #[.int .i64 n, .int .i64 E]) ∧ Hid (IxAt w' x bm S') ∧ Hid (Keeps (fun k => k = bm) w w') := by
  refine (drop_any w x bm S h.out d hd s).mono ?_
  rintro e w' ⟨rfl, H⟩
  rw [hn, hE, ← hS]
  exact ⟨rfl, H.out.1, H.out.2⟩

set_option maxHeartbeats 2000000 in
theorem first_any (w : World) : Calls Try.prog 9 #[] w fun e w' => e = .returned (.bool true) ∧ Keeps (fun _ => False) w w' := by
  have h17 := (new_any w).mono (R' := fun e w' => e = .returned (.pointer (some ⟨w.heap.size + 1, 0, none⟩)) ∧ Hid (IxAt w' (w.heap.size + 1) w.heap.size []) ∧ Hid (Keeps (fun _ => False) w w')) (fun e w' ⟨a, b⟩ => ⟨a, b.out.1, b.out.2.1⟩)
  have p1 := put_at [] S1 1 sb 3 0 f1 f1' (by decide)
  have p2 := put_at S1 S2 1 sa 3 0 f2 f2' (by decide)
  have p3 := put_at S2 S2 1 sa 4 81 f3 f3' (by decide)
  have p4 := put_at S2 S2 1 ⟨#[]⟩ 4 80 f4 f4' (by decide)
  have p6 := links_at S2 3 2 f6 (by decide)
  have p7 := drop_at S2 S1 1 (by decide) sa 3 0 f7 f7' f7''
  have p8 := get_at S1 1 (by decide) sa 0 f8
  have p9 := get_at S1 1 (by decide) sb 3 f8'
  have p10 := len_at S1 1 1 f9 (by decide)
  go_enter Try.func9, Try.ntmps9
  go_wp2_with (first
    | (go_at_call 12; refine (p10 w9 _ _ H9).mono ?_; rintro e w10 ⟨rfl, H10, K10⟩)
    | (go_at_call 13; refine (p9 w8 _ _ H8).mono ?_; rintro e w9 ⟨rfl, H9, K9⟩)
    | (go_at_call 13; refine (p8 w7 _ _ H7).mono ?_; rintro e w8 ⟨rfl, H8, K8⟩)
    | (go_at_call 21; refine (p7 w6 _ _ H6).mono ?_; rintro e w7 ⟨rfl, H7, K7⟩)
    | (go_at_call 14; refine (p6 w5 _ _ H5).mono ?_; rintro e w6 ⟨rfl, H6, K6⟩)
    | (go_at_call 11; refine (list_pos w4 _ _ S2 H4.out 1 (by decide) 2 rfl (by decide)).mono ?_; rintro e w5 ⟨g, cap, rfl, HX⟩; have H5 : Hid (IxAt w5 (w.heap.size + 1) w.heap.size S2) := H4.out.keep HX.out.2 (fun h => h) (fun h => h); have q0 : w5.cell? ⟨g, 0, none⟩ = some (.string sa) := HX.out.1.cellAt 0 (by decide); have q1 : w5.cell? ⟨g, 1, none⟩ = some (.int .i64 3) := HX.out.1.cellAt 1 (by decide); have q2 : w5.cell? ⟨g, 2, none⟩ = some (.string sb) := HX.out.1.cellAt 2 (by decide); have q3 : w5.cell? ⟨g, 3, none⟩ = some (.int .i64 3) := HX.out.1.cellAt 3 (by decide))
    | (go_at_call 18; refine (p4 w3 _ _ H3).mono ?_; rintro e w4 ⟨rfl, H4, K4⟩)
    | (go_at_call 18; refine (p3 w2 _ _ H2).mono ?_; rintro e w3 ⟨rfl, H3, K3⟩)
    | (go_at_call 18; refine (p2 w1 _ _ H1).mono ?_; rintro e w2 ⟨rfl, H2, K2⟩)
    | (go_at_call 18; refine (p1 w0 _ _ H0).mono ?_; rintro e w1 ⟨rfl, H1, K1⟩)
    | (go_at_call 17; refine h17.mono ?_; rintro e w0 ⟨rfl, H0, K0⟩))
  go_ret
  have hx : ∀ k, k = w.heap.size → False ∨ w.heap.size ≤ k := fun k h => Or.inr (by omega)
  exact ⟨rfl, (((((((((K0.out.then K1.out hx).then K2.out hx).then K3.out hx).then K4.out hx).trans HX.out.2).trans K6.out).then K7.out hx).trans K8.out).trans K9.out).trans K10.out⟩

end Go.Proofs.Ytendmohjodeelaa
