import Derived.Test.YtendmohjodeelabG1
namespace Go.Proofs.Ytendmohjodeelab
open Go.RowKit Go.Maps Go.Great

/-- 'append(a, one)'. -/
theorem wpList_appd {ops : Array Oper} {rest : List Oper} {o : Oper} {a : Act} {Q : Exit → Act → World → Prop} (w : World) (hgd : o.guard = none) (s x : Operand)
    (ho : o.op = .call { callee := .builtin .append, args := #[s, x], argTypes := #[27, 27] }) (base : Nat) (v : Value) (n : Nat) (xs : List Value) (hs : a.eval s = v) (hown : w.ownsRow base 33 2 v n xs) (q0 : ByteArray) (q1 : Int) (g : Nat)
    (hx : a.eval x = .slice (some ⟨g, 0, none⟩) 1 1) (hb : w.heap[g]? = some (.cells #[.string q0, .int .i64 q1] 33 (0, 0))) (hn : n < 4000000000000) (hbase : base ≤ w.heap.size)
    (h : ∀ g' cap w', w'.ownsRow base 33 2 (.slice (some ⟨g', 0, none⟩) (n + 1) cap) (n + 1) (xs ++ [.string q0, .int .i64 q1]) → w.grownBy w' v.ownBlock → (v.ownBlock = some g' ∨ (g' = w.heap.size ∧ w.grownBy w' none)) → wpList Try.prog ops Q rest (a.put o.dst (.slice (some ⟨g', 0, none⟩) (n + 1) cap)) w') : wpList Try.prog ops Q (o :: rest) a w := by
  obtain ⟨i0, hi, hz0, hz1, hz2⟩ := info_parts info30
  exact wpList_append_stay w hgd s x 27 ho base 33 i0 _ 2 24 Try.underlying27 hi hz0 hz1 hz2 rfl (by decide) v n xs hs hown ⟨g, 0, none⟩ 1 1 [.string q0, .int .i64 q1] hx rfl (World.news_of_block hb) (by simp [Value.oneCell']) (by omega) (by unfold maxLen; omega) (by omega) hbase _ rfl
    fun g' cap w' h1 h2 h3 _ => h g' cap w' h1 h2 h3

/-- The marked list's inodes, where it lies now and where it lay. -/
def F1 (va : Value) (ga2 n : Nat) (g j : Nat) (u : Value) : Prop := Fr neg1 ga2 n g j u ∨ ∃ c, va.ownBlock = some c ∧ Fr neg1 c n g j u
def F2 (F : Nat → Nat → Value → Prop) (gb2 n : Nat) (g j : Nat) (u : Value) : Prop := F g j u ∨ Fr thou gb2 n g j u
section
variable {W w w' : World} {s s6 s7 x bm y by_ n : Nat} {S T : List Rw} {vk va vB : Value} {L : List De} {xs ys : List Value} {o : Obj} {q0 : ByteArray} {q1 : Int} {ga2 ca2 : Nat}
theorem apart_a (h : AS W w s x bm y by_ S T vk L (fun _ _ _ => False)) (hown : w.ownsRow s 33 2 va n xs) (hup : IUp neg1 xs n) (hb : w.ownsRow s6 33 2 vB n ys) (hab : ∀ g, va.ownBlock = some g → s ≤ g ∧ g < s6) (hbb : ∀ g, vB.ownBlock = some g → s6 ≤ g ∧ g < s7) (hs7 : s7 ≤ w.heap.size)
    (r8 : w'.ownsRow s 33 2 (.slice (some ⟨ga2, 0, none⟩) (n + 1) ca2) (n + 1) (xs ++ [.string q0, .int .i64 q1])) (g8 : (w.alloc o).grownBy w' va.ownBlock) (o8 : va.ownBlock = some ga2 ∨ (ga2 = (w.alloc o).heap.size ∧ (w.alloc o).grownBy w' none)) :
    AS W w' s x bm y by_ S T vk L (F1 va ga2 n) ∧ w'.ownsRow s6 33 2 vB n ys ∧ (∀ g j u, F1 va ga2 n g j u → vB.ownBlock ≠ some g) ∧ s7 ≤ w'.heap.size := by
  have hxl : xs.length = n * 2 := hown.1
  have ka : Keeps (fun _ => False) w (w.alloc o) := (Keeps.refl _ w).alloc o
  refine ⟨(h.grown ka).write (Keeps.of g8 (fun k hk => Or.inl (hab k hk).1)) ?_, ownsRow_keep (World.ownsRow.alloc hb o) (X := fun c => c < s6) (Keeps.of g8 (fun k hk => Or.inl (hab k hk).2)) (fun g hg => by have := (hbb g hg).1; omega), ?_, by have := g8.size; rw [World.size_alloc] at this; omega⟩
  · rintro g j u (⟨rfl, i, hi, rfl, rfl⟩ | ⟨c, hc, rfl, i, hi, rfl, rfl⟩)
    · refine ⟨(World.ownsRow.lt r8 g rfl).1, own_cell r8 rfl ?_⟩
      rw [List.getElem?_append_left (by omega)]
      exact hup i hi
    · exact ⟨(hab g hc).1, stay_cell (World.ownsRow.alloc hown o) r8 o8 hc _ _ (hup i hi)⟩
  · rintro g j u (⟨rfl, _⟩ | ⟨c, hc, rfl, _⟩) hg
    · have h1 := hbb g hg
      rcases o8 with h2 | ⟨h2, _⟩
      · have := hab g h2; omega
      · rw [World.size_alloc] at h2; omega
    · have h1 := hbb g hg
      have := hab g hc; omega
theorem apart_b {F : Nat → Nat → Value → Prop} {gb2 cb2 : Nat} (h : AS W w s x bm y by_ S T vk L F) (hss : s ≤ s6) (hown : w.ownsRow s6 33 2 vB n ys) (hup : IUp thou ys n) (hF : ∀ g j u, F g j u → vB.ownBlock ≠ some g)
    (r9 : w'.ownsRow s6 33 2 (.slice (some ⟨gb2, 0, none⟩) (n + 1) cb2) (n + 1) (ys ++ [.string q0, .int .i64 q1])) (g9 : (w.alloc o).grownBy w' vB.ownBlock) : AS W w' s x bm y by_ S T vk L (F2 F gb2 n) := by
  have hxl : ys.length = n * 2 := hown.1
  have ka : Keeps (fun _ => False) w (w.alloc o) := (Keeps.refl _ w).alloc o
  have h' := h.grown ka
  refine h'.write (Keeps.of g9 (fun k hk => Or.inl (by have := (World.ownsRow.lt hown k hk).1; omega))) ?_
  rintro g j u (hf | ⟨rfl, i, hi, rfl, rfl⟩)
  · exact ⟨(h'.fz g j u hf).1, (Keeps.of (X := fun c => vB.ownBlock = some c) g9 (fun k hk => Or.inl hk)).cell (h'.fz g j u hf).2 (hF g j u hf)⟩
  · refine ⟨Nat.le_trans hss (World.ownsRow.lt r9 g rfl).1, own_cell r9 rfl ?_⟩
    rw [List.getElem?_append_left (by omega)]
    exact hup i hi
theorem row_some {base : Nat} {p : Option Addr} {c : Nat} (h : w.ownsRow base 33 2 (.slice p n c) n xs) (h0 : 0 < n) : ∃ g, p = some ⟨g, 0, none⟩ := by
  rcases h.2 with ⟨e, h1⟩ | ⟨g, cap, cur, e, _⟩
  · omega
  · cases e; exact ⟨g, rfl⟩
end

set_option maxHeartbeats 8000000 in
set_option maxRecDepth 100000 in
theorem apart_walk (w : World) (p : Option Addr) (cap : Nat) (l : List OpT) (hp : OpIn w p l) (hn : l.length < 3000000000000) (pm : Option Addr) (capm : Nat) (lm : List OpT) (hpm : OpIn w pm lm) (hnm : lm.length < 3000000000000) (dir : Int) :
    Calls Try.prog 4 #[.slice p l.length cap, .slice pm lm.length capm, .int .i64 dir] w fun e w' => e = .returned (.bool true) ∧ Keeps (fun _ => False) w w' := by
  have h8 := ks_filled w p cap l hp hn
  have hlen := fillS_len l
  obtain ⟨d, hd⟩ : ∃ d, d = inoF dir := ⟨_, rfl⟩
  have h10a : ∀ W, Calls Try.prog 10 #[.int .i64 dir] W fun e w' => e = .returned (.int .i64 d) ∧ w' = W := fun W => by rw [hd]; exact ino_any dir W
  clear hd
  generalize fillS l = S at *
  obtain ⟨L, hL⟩ : ∃ L, lstS S d = L := ⟨_, rfl⟩
  have HL : Hid (lstS S d = L) := hL
  have hLl : L.length < 3000000000000 := by rw [← hL, lst_len]; have := filt_le S (inDir d); omega
  have HSL : Hid (S.length < 3000000000000) := Hid.mk' (by omega)
  have HNN : Hid (((S.filter (inDir d)).length : Int) = (L.length : Int)) := Hid.mk' (by rw [← hL, lst_len])
  have HM : Hid (OpIn w pm lm) := hpm
  clear hlen hp hL hpm hn
  go_enter Try.func4, Try.ntmps4
  go_wp2_with (first
    | (go_at_call 12; refine (as_row H6 d L HL.out).mono ?_; rintro e w7 ⟨pb, cb, rfl, H7, R7, K7⟩; clear H6)
    | (go_at_call 12; refine (as_row H5 d L HL.out).mono ?_; rintro e w6 ⟨pa, ca, rfl, H6, R6, K6⟩; clear H5)
    | (go_at_call 11; refine (cs_keep H4 D4 (by omega) HBY.out).mono ?_; rintro e w5 ⟨pk, ck, rfl, H5⟩; clear H4 D4)
    | (go_at_call 12; refine (cs_list H3 d L HL.out).mono ?_; rintro e w4 ⟨p4, c4, rfl, H4, D4⟩; clear H3)
    | (go_at_call 13; refine (cs_copyB H2).mono ?_; rintro e w3 ⟨rfl, H3⟩; have HBY : Hid (w.heap.size ≤ w2.heap.size) := Hid.mk' H2.out.keep.size; clear H2)
    | (go_at_call 10; refine (h10a _).mono ?_; rintro e w0 ⟨rfl, hw0⟩; subst w0; clear h10a)
    | (go_at_call 9; refine (ks_first H1).mono ?_; rintro e w2 ⟨rfl, H2⟩; clear H1)
    | (go_at_call 8; refine h8.mono ?_; rintro e w1 ⟨rfl, H1⟩; clear h8))
  obtain ⟨s, hs⟩ : ∃ s, w5.heap.size = s := ⟨_, rfl⟩
  obtain ⟨s6, hs6⟩ : ∃ s6, w6.heap.size = s6 := ⟨_, rfl⟩
  obtain ⟨s7, hs7⟩ : ∃ s7, w7.heap.size = s7 := ⟨_, rfl⟩
  obtain ⟨yb, hyb⟩ : ∃ yb, w2.heap.size = yb := ⟨_, rfl⟩
  have HSS : Hid (s ≤ s6 ∧ s6 ≤ s7) := Hid.mk' (by have := K6.out.size; have := K7.out.size; omega)
  have HAB : Hid (∀ g, (Value.slice pa L.length ca).ownBlock = some g → s ≤ g ∧ g < s6) := Hid.mk' (fun g hg => by have := World.ownsRow.lt R6.out g hg; omega)
  have HBB : Hid (∀ g, (Value.slice pb L.length cb).ownBlock = some g → s6 ≤ g ∧ g < s7) := Hid.mk' (fun g hg => by have := World.ownsRow.lt R7.out g hg; omega)
  have HR0 : Hid (∃ xs, AS w w7 s (w.heap.size + 1) w.heap.size (yb + 1) yb S S (.slice pk L.length ck) L (fun _ _ _ => False) ∧ w7.ownsRow s 33 2 (.slice pa L.length ca) L.length xs ∧ IUp neg1 xs 0 ∧ w7.ownsRow s6 33 2 (.slice pb L.length cb) L.length (dcells L) ∧ s7 ≤ w7.heap.size) := by
    have h1 := R6.out.grown K7.out
    have h2 := R7.out
    have h3 := H7.out
    rw [hs, hyb] at h3
    unfold RowD at h1 h2
    rw [hs] at h1
    rw [hs6] at h2
    exact ⟨_, h3, h1, fun i hi => absurd hi (by omega), h2, by omega⟩
  have HPA : Hid (0 < L.length → ∃ g, pa = some ⟨g, 0, none⟩) := Hid.mk' (fun h0 => row_some R6.out h0)
  have HS67 : Hid (s6 ≤ w7.heap.size) := Hid.mk' (by have := HSS.out; omega)
  rw [hyb]
  clear H7 R6 R7 K6 K7 hs hs6 hs7 hyb HBY
  go_loopw [13] (fun c wr => ∃ k : Nat, k ≤ L.length ∧ c = .int .i64 k ∧ Hid (∃ xs, AS w wr s (w.heap.size + 1) w.heap.size (yb + 1) yb S S (.slice pk L.length ck) L (fun _ _ _ => False) ∧ wr.ownsRow s 33 2 (.slice pa L.length ca) L.length xs ∧ IUp neg1 xs k ∧ wr.ownsRow s6 33 2 (.slice pb L.length cb) L.length (dcells L) ∧ s7 ≤ wr.heap.size)) (fun c _ => L.length - (intOf c).toNat)
  case atStart => exact ⟨0, by omega, rfl, HR0⟩
  case round =>
    clear HR0
    obtain ⟨k, hk, rfl, HR⟩ := hrel
    by_cases h1 : k < L.length
    · have h1' : (k : Int) < (L.length : Int) := by omega
      have hk0 : (0 : Int) ≤ (k : Int) := by omega
      have hneg : IntKind.i64.wrap (-(k : Int)) = -(k : Int) := i64_id (by omega) (by omega)
      obtain ⟨xs, hAS, hown, hup, hbrow, hs7⟩ := HR.out
      obtain ⟨ga, rfl⟩ := row_some hown (by omega)
      have hxl : xs.length = L.length * 2 := hown.1
      have z0 := own_cell hown rfl (List.getElem?_eq_getElem (show k * 2 < xs.length by omega))
      have z1 := own_cell hown rfl (List.getElem?_eq_getElem (show k * 2 + 1 < xs.length by omega))
      obtain ⟨cur, hobj⟩ := row_obj hown rfl
      have f0 : ∀ j, wr.frozen? ⟨ga, j, none⟩ = false := fun j => by simp [World.frozen?, hobj]
      have fz := f0 (k * 2)
      have fz1 := f0 (k * 2 + 1)
      generalize xs[k * 2]'(by omega) = v0 at z0
      generalize xs[k * 2 + 1]'(by omega) = v1 at z1
      have k2 : Keeps (fun c => c = ga) wr ((wr.setCell ⟨ga, k * 2, none⟩ (.string ⟨#[109, 97, 114, 107]⟩)).setCell ⟨ga, k * 2 + 1, none⟩ (.int .i64 (-(k : Int)))) := (one_keeps _ _ _ _).trans (one_keeps _ _ _ _)
      have hga := HAB.out ga rfl
      have HN : Hid (∃ xs, AS w ((wr.setCell ⟨ga, k * 2, none⟩ (.string ⟨#[109, 97, 114, 107]⟩)).setCell ⟨ga, k * 2 + 1, none⟩ (.int .i64 (-(k : Int)))) s (w.heap.size + 1) w.heap.size (yb + 1) yb S S (.slice pk L.length ck) L (fun _ _ _ => False) ∧ ((wr.setCell ⟨ga, k * 2, none⟩ (.string ⟨#[109, 97, 114, 107]⟩)).setCell ⟨ga, k * 2 + 1, none⟩ (.int .i64 (-(k : Int)))).ownsRow s 33 2 (.slice (some ⟨ga, 0, none⟩) L.length ca) L.length xs ∧ IUp neg1 xs (k + 1) ∧ ((wr.setCell ⟨ga, k * 2, none⟩ (.string ⟨#[109, 97, 114, 107]⟩)).setCell ⟨ga, k * 2 + 1, none⟩ (.int .i64 (-(k : Int)))).ownsRow s6 33 2 (.slice pb L.length cb) L.length (dcells L) ∧ s7 ≤ ((wr.setCell ⟨ga, k * 2, none⟩ (.string ⟨#[109, 97, 114, 107]⟩)).setCell ⟨ga, k * 2 + 1, none⟩ (.int .i64 (-(k : Int)))).heap.size) := ⟨_, hAS.write (k2.mono (fun c _ hc => by subst hc; exact hga.1)) (fun _ _ _ h => h.elim), ownsRow_set (ownsRow_set hown rfl (k * 2) (.string ⟨#[109, 97, 114, 107]⟩)) rfl (k * 2 + 1) (.int .i64 (-(k : Int))), hup.next (by omega) _ _ rfl, ownsRow_keep hbrow k2 (fun g hg e => by have := HBB.out g hg; omega), Nat.le_trans hs7 k2.size⟩
      clear HR hAS hown hup hbrow hs7 hobj f0 k2 hga hxl
      go_wp2
      go_roundw
      case rel => exact ⟨k + 1, by omega, by go_num, HN⟩
      case measure => simp [intOf]; omega
    · have h1' : ¬ (k : Int) < (L.length : Int) := by omega
      obtain rfl : k = L.length := by omega
      obtain ⟨wA, hwA⟩ : ∃ wA : World, wA = wr := ⟨wr, rfl⟩
      subst hwA
      obtain ⟨xs, hAS, hown, hup, hbrow, hs7⟩ := HR.out
      have HAS : Hid (AS w wA s (w.heap.size + 1) w.heap.size (yb + 1) yb S S (.slice pk L.length ck) L (fun _ _ _ => False)) := hAS
      have HOWN : Hid (wA.ownsRow s 33 2 (.slice pa L.length ca) L.length xs) := hown
      have HUP : Hid (IUp neg1 xs L.length) := hup
      have HBR : Hid (wA.ownsRow s6 33 2 (.slice pb L.length cb) L.length (dcells L)) := hbrow
      have HS7 : Hid (s7 ≤ wA.heap.size) := hs7
      have hsA : s ≤ (wA.alloc (.cells #[.string ⟨#[109, 111, 114, 101]⟩, .int .i64 (-7)] 33)).heap.size := by have := hAS.sx; rw [World.size_alloc]; omega
      have hwL : IntKind.i64.wrap ((L.length : Int) + 1) = (L.length : Int) + 1 := i64_id (by omega) (by omega)
      clear HR hAS hown hup hbrow hs7
      go_wp2_with (first
        | (go_at_call 16; refine (as_same H11 D11 (by omega) true (by simp)).mono ?_; rintro e w12 ⟨rfl, H12, K12⟩; clear H11 D11)
        | (go_at_call 12; refine (as_list H10 d L HL.out).mono ?_; rintro e w11 ⟨p11, c11, rfl, H11, D11, K11⟩; clear H10)
        | (go_at_call 16; refine (as_same (Hid.mk' H9.out.1) (Hid.mk' (DSl.of_row H9.out.2.1 rfl)) (by omega) true (by simp)).mono ?_; rintro e w10 ⟨rfl, H10, K10⟩)
        | (at_builtin; go_must (refine wpList_appd _ rfl _ _ rfl s _ L.length xs rfl (World.ownsRow.alloc HOWN.out _) ⟨#[109, 111, 114, 101]⟩ (-7) wA.heap.size rfl (heap_alloc_last wA _) (by omega) hsA ?_); intro ga2 ca2 w9 r9 g9 o9; have H9 := Hid.mk' (apart_a HAS.out HOWN.out HUP.out HBR.out HAB.out HBB.out HS7.out r9 g9 o9); clear r9 g9 o9 HAS HOWN HUP HBR HS7 hsA))
      have HR1 : Hid (∃ ys, AS w w12 s (w.heap.size + 1) w.heap.size (yb + 1) yb S S (.slice pk L.length ck) L (F1 (.slice pa L.length ca) ga2 L.length) ∧ w12.ownsRow s6 33 2 (.slice pb L.length cb) L.length ys ∧ IUp thou ys 0 ∧ s6 ≤ w12.heap.size) := Hid.mk' ⟨_, H12.out, ownsRow_keep (ownsRow_keep (ownsRow_keep H9.out.2.1 K10.out (fun _ _ h => h)) K11.out (fun _ _ h => h)) K12.out (fun _ _ h => h), fun i hi => absurd hi (by omega), by have h1 := H9.out.2.2.2; have h2 := K10.out.size; have h3 := K11.out.size; have h4 := K12.out.size; have h5 := HSS.out; omega⟩
      have HFF : Hid (∀ g j u, F1 (.slice pa L.length ca) ga2 L.length g j u → (Value.slice pb L.length cb).ownBlock ≠ some g) := Hid.mk' H9.out.2.2.1
      clear H12 H9 K10 K11 K12
      go_loopw [15] (fun c wr => ∃ k : Nat, k ≤ L.length ∧ c = .int .i64 k ∧ Hid (∃ ys, AS w wr s (w.heap.size + 1) w.heap.size (yb + 1) yb S S (.slice pk L.length ck) L (F1 (.slice pa L.length ca) ga2 L.length) ∧ wr.ownsRow s6 33 2 (.slice pb L.length cb) L.length ys ∧ IUp thou ys k ∧ s6 ≤ wr.heap.size)) (fun c _ => L.length - (intOf c).toNat)
      case atStart => exact ⟨0, by omega, rfl, HR1⟩
      case round =>
        clear HR1
        obtain ⟨k, hk, rfl, HR⟩ := hrel
        by_cases h1 : k < L.length
        · have h1' : (k : Int) < (L.length : Int) := by omega
          have hk0 : (0 : Int) ≤ (k : Int) := by omega
          have hneg : IntKind.i64.wrap (1000 + (k : Int)) = 1000 + (k : Int) := i64_id (by omega) (by omega)
          obtain ⟨ys, hAS, hown, hup, hs6w⟩ := HR.out
          obtain ⟨gb, rfl⟩ := row_some hown (by omega)
          have hxl : ys.length = L.length * 2 := hown.1
          have z0 := own_cell hown rfl (List.getElem?_eq_getElem (show k * 2 < ys.length by omega))
          have z1 := own_cell hown rfl (List.getElem?_eq_getElem (show k * 2 + 1 < ys.length by omega))
          obtain ⟨cur, hobj⟩ := row_obj hown rfl
          have f0 : ∀ j, wr.frozen? ⟨gb, j, none⟩ = false := fun j => by simp [World.frozen?, hobj]
          have fz := f0 (k * 2)
          have fz1 := f0 (k * 2 + 1)
          generalize ys[k * 2]'(by omega) = v0 at z0
          generalize ys[k * 2 + 1]'(by omega) = v1 at z1
          have k2 : Keeps (fun c => c = gb) wr ((wr.setCell ⟨gb, k * 2, none⟩ (.string ⟨#[111, 116, 104, 101, 114]⟩)).setCell ⟨gb, k * 2 + 1, none⟩ (.int .i64 (1000 + (k : Int)))) := (one_keeps _ _ _ _).trans (one_keeps _ _ _ _)
          have hgb := HBB.out gb rfl
          have HN : Hid (∃ ys, AS w ((wr.setCell ⟨gb, k * 2, none⟩ (.string ⟨#[111, 116, 104, 101, 114]⟩)).setCell ⟨gb, k * 2 + 1, none⟩ (.int .i64 (1000 + (k : Int)))) s (w.heap.size + 1) w.heap.size (yb + 1) yb S S (.slice pk L.length ck) L (F1 (.slice pa L.length ca) ga2 L.length) ∧ ((wr.setCell ⟨gb, k * 2, none⟩ (.string ⟨#[111, 116, 104, 101, 114]⟩)).setCell ⟨gb, k * 2 + 1, none⟩ (.int .i64 (1000 + (k : Int)))).ownsRow s6 33 2 (.slice (some ⟨gb, 0, none⟩) L.length cb) L.length ys ∧ IUp thou ys (k + 1) ∧ s6 ≤ ((wr.setCell ⟨gb, k * 2, none⟩ (.string ⟨#[111, 116, 104, 101, 114]⟩)).setCell ⟨gb, k * 2 + 1, none⟩ (.int .i64 (1000 + (k : Int)))).heap.size) := ⟨_, hAS.write (k2.mono (fun c _ hc => by subst hc; have := HSS.out; omega)) (fun g j u hf => ⟨(hAS.fz g j u hf).1, k2.cell (hAS.fz g j u hf).2 (fun e => HFF.out g j u hf (by simp only at e; rw [e]; rfl))⟩), ownsRow_set (ownsRow_set hown rfl (k * 2) (.string ⟨#[111, 116, 104, 101, 114]⟩)) rfl (k * 2 + 1) (.int .i64 (1000 + (k : Int))), hup.next (by omega) _ _ rfl, Nat.le_trans hs6w k2.size⟩
          clear HR hAS hown hup hobj f0 k2 hgb hxl hs6w
          go_wp2
          go_roundw
          case rel => exact ⟨k + 1, by omega, by go_num, HN⟩
          case measure => simp [intOf]; omega
        · have h1' : ¬ (k : Int) < (L.length : Int) := by omega
          obtain rfl : k = L.length := by omega
          obtain ⟨wB, hwB⟩ : ∃ wB : World, wB = wr := ⟨wr, rfl⟩
          subst hwB
          obtain ⟨ys, hAS, hown, hup, hs6w⟩ := HR.out
          have HAS : Hid (AS w wB s (w.heap.size + 1) w.heap.size (yb + 1) yb S S (.slice pk L.length ck) L (F1 (.slice pa L.length ca) ga2 L.length)) := hAS
          have HOWN : Hid (wB.ownsRow s6 33 2 (.slice pb L.length cb) L.length ys) := hown
          have HUP : Hid (IUp thou ys L.length) := hup
          have hsB : s6 ≤ (wB.alloc (.cells #[.string ⟨#[108, 97, 115, 116]⟩, .int .i64 (-9)] 33)).heap.size := by rw [World.size_alloc]; omega
          clear HR hAS hown hup hs6w
          go_wp2_with (first
            | (at_builtin; go_must (refine wpList_appd _ rfl _ _ rfl s6 _ L.length ys rfl (World.ownsRow.alloc HOWN.out _) ⟨#[108, 97, 115, 116]⟩ (-9) wB.heap.size rfl (heap_alloc_last wB _) (by omega) hsB ?_); intro gb2 cb2 w9 r9 g9 o9; have H9 := Hid.mk' (apart_b HAS.out HSS.out.1 HOWN.out HUP.out HFF.out r9 g9); clear r9 g9 o9 HAS HOWN HUP hsB))
          go_loopw [16] (fun c wr => ∃ (k : Nat) (T : List Rw), k ≤ lm.length ∧ c = .int .i64 k ∧ Hid (T.length ≤ S.length + k) ∧ Hid (AS w wr s (w.heap.size + 1) w.heap.size (yb + 1) yb S T (.slice pk L.length ck) L (F2 (F1 (.slice pa L.length ca) ga2 L.length) gb2 L.length))) (fun c _ => lm.length - (intOf c).toNat)
          case atStart => exact ⟨0, S, by omega, rfl, Hid.mk' (by omega), H9⟩
          case round =>
            clear H9
            obtain ⟨k, T, hk, rfl, HTL, HR⟩ := hrel
            by_cases h1 : k < lm.length
            · have h1' : (k : Int) < (lm.length : Int) := by omega
              have hk0 : (0 : Int) ≤ (k : Int) := by omega
              obtain ⟨b, o, rfl, hb, hc⟩ := HM.out (by omega)
              have HCC : Hid (∀ i, i < lm.length → ∀ j u, (opCells (lm.getD i opZ))[j]? = some u → w.cell? ⟨b, o + i * 6 + j, none⟩ = some u) := hc
              obtain ⟨t, ht⟩ : ∃ t, lm.getD k opZ = t := ⟨_, rfl⟩
              have hcl : ∀ ww : World, Keeps (fun _ => False) w ww → ww.cell? ⟨b, o + k * 6, none⟩ = some (.int .i64 t.k) ∧ ww.cell? ⟨b, o + k * 6 + 3, none⟩ = some (.int .i64 t.d) ∧ ww.cell? ⟨b, o + k * 6 + 4, none⟩ = some (.string t.s) ∧ ww.cell? ⟨b, o + k * 6 + 5, none⟩ = some (.int .i64 t.i) := by
                intro ww kk
                have c0 := kk.cell (hc k h1 0 _ rfl) (fun h => h)
                have c3 := kk.cell (hc k h1 3 _ rfl) (fun h => h)
                have c4 := kk.cell (hc k h1 4 _ rfl) (fun h => h)
                have c5 := kk.cell (hc k h1 5 _ rfl) (fun h => h)
                rw [ht] at c0 c3 c4 c5
                exact ⟨c0, c3, c4, c5⟩
              have HCL := Hid.mk' hcl
              obtain ⟨c0, c3, c4, c5⟩ := hcl _ HR.out.keep
              have hTb : T.length < 7900000000000 := by have := HTL.out; have := HSL.out; omega
              clear hc ht hcl HCC
              have h10 := ino_any
              have h19 : ∀ nn, Calls Try.prog 19 #[.pointer (some ⟨yb + 1, 0, none⟩), .int .i64 (inoF t.d), .string t.s, .int .i64 (inoF t.i)] (wr.drewN nn) fun e w' => ∃ E : Int, e = .returned (.int .i64 E) ∧ ∃ T', Hid (T'.length ≤ S.length + (k + 1)) ∧ Hid (AS w w' s (w.heap.size + 1) w.heap.size (yb + 1) yb S T' (.slice pk L.length ck) L (F2 (F1 (.slice pa L.length ca) ga2 L.length) gb2 L.length)) ∧ w'.cell? ⟨b, o + k * 6, none⟩ = some (.int .i64 t.k) ∧ w'.cell? ⟨b, o + k * 6 + 3, none⟩ = some (.int .i64 t.d) ∧ w'.cell? ⟨b, o + k * 6 + 4, none⟩ = some (.string t.s) ∧ w'.cell? ⟨b, o + k * 6 + 5, none⟩ = some (.int .i64 t.i) := by
                intro nn
                refine (as_puty (Hid.mk' (HR.out.drewN nn)) (inoF t.d) t.s (inoF t.i) hTb).mono ?_
                rintro e w' ⟨E, rfl, T', hT', h'⟩
                exact ⟨E, rfl, T', Hid.mk' (by have := HTL.out; omega), h', HCL.out _ h'.out.keep⟩
              by_cases hk2 : t.k = 2
              · have hk3 : (t.k == 2) = true := by simp [hk2]
                clear hk2
                go_wp2
                go_region_held3 (fun wx => wx.cell? ⟨b, o + k * 6, none⟩ = some (.int .i64 t.k) ∧ wx.cell? ⟨b, o + k * 6 + 3, none⟩ = some (.int .i64 t.d) ∧ wx.cell? ⟨b, o + k * 6 + 4, none⟩ = some (.string t.s) ∧ wx.cell? ⟨b, o + k * 6 + 5, none⟩ = some (.int .i64 t.i))
                  (first | go_keep)
                  (first
                    | (go_at_call 19; refine (h19 _).mono ?_; clear h19; rintro e w2 ⟨E, rfl, T2, HT2, H2, x0, x1, x2, x3⟩)
                    | (go_at_call 10; refine (h10 _ _).mono ?_; rintro e w2 ⟨rfl, hw2⟩; subst w2))
                all_goals
                  have h20 : ∀ nn, Calls Try.prog 20 #[.pointer (some ⟨yb + 1, 0, none⟩), .int .i64 (inoF t.d), .string t.s] (w2.drewN nn) fun e w' => ∃ a E : Int, e = .returned (.tuple #[.int .i64 a, .int .i64 E]) ∧ ∃ T', Hid (T'.length ≤ S.length + (k + 1)) ∧ Hid (AS w w' s (w.heap.size + 1) w.heap.size (yb + 1) yb S T' (.slice pk L.length ck) L (F2 (F1 (.slice pa L.length ca) ga2 L.length) gb2 L.length)) ∧ w'.cell? ⟨b, o + k * 6 + 3, none⟩ = some (.int .i64 t.d) ∧ w'.cell? ⟨b, o + k * 6 + 4, none⟩ = some (.string t.s) := by
                    intro nn
                    refine (as_dropy (Hid.mk' (H2.out.drewN nn)) (inoF t.d) (inoF_wf _) t.s).mono ?_
                    rintro e w' ⟨a, E, rfl, T', hT', h'⟩
                    have hcc := HCL.out _ h'.out.keep
                    exact ⟨a, E, rfl, T', Hid.mk' (by have := HT2.out; omega), h', hcc.2.1, hcc.2.2.1⟩
                  go_wp2
                  go_region_held3 (fun wx => wx.cell? ⟨b, o + k * 6 + 3, none⟩ = some (.int .i64 t.d) ∧ wx.cell? ⟨b, o + k * 6 + 4, none⟩ = some (.string t.s))
                    (first | go_keep)
                    (first
                      | (go_at_call 20; refine (h20 _).mono ?_; clear h20; rintro e w4 ⟨a4, E4, rfl, T4, HT4, H4, y1, y2⟩)
                      | (go_at_call 10; refine (h10 _ _).mono ?_; rintro e w4 ⟨rfl, hw4⟩; subst w4))
                  all_goals
                    go_wp2
                    go_roundw
                    case rel => exact ⟨k + 1, T4, by omega, by go_num, HT4, H4⟩
                    case measure => simp [intOf]; omega
              · have hk3 : (t.k == 2) = false := by simp [hk2]
                go_wp2
                go_region_held3 (fun wx => wx.cell? ⟨b, o + k * 6, none⟩ = some (.int .i64 t.k) ∧ wx.cell? ⟨b, o + k * 6 + 3, none⟩ = some (.int .i64 t.d) ∧ wx.cell? ⟨b, o + k * 6 + 4, none⟩ = some (.string t.s) ∧ wx.cell? ⟨b, o + k * 6 + 5, none⟩ = some (.int .i64 t.i))
                  (first | go_keep)
                  (first
                    | (go_at_call 19; refine (h19 _).mono ?_; clear h19; rintro e w2 ⟨E, rfl, T2, HT2, H2, x0, x1, x2, x3⟩)
                    | (go_at_call 10; refine (h10 _ _).mono ?_; rintro e w2 ⟨rfl, hw2⟩; subst w2))
                all_goals
                  go_wp2
                  go_roundw
                  case rel => exact ⟨k + 1, T2, by omega, by go_num, HT2, H2⟩
                  case measure => simp [intOf]; omega
            · have h1' : ¬ (k : Int) < (lm.length : Int) := by omega
              go_wp2_with (first
                | (go_at_call 14; refine (as_cleary HR d).mono ?_; clear HR; rintro e w14 ⟨E14, rfl, H14⟩))
              go_loopw [17] (fun c wr => ∃ k : Nat, k ≤ L.length ∧ c = .int .i64 k ∧ Hid (AS w wr s (w.heap.size + 1) w.heap.size (yb + 1) yb S (clrS T d) (.slice pk L.length ck) L (F2 (F1 (.slice pa L.length ca) ga2 L.length) gb2 L.length))) (fun c _ => L.length - (intOf c).toNat)
              case atStart => exact ⟨0, by omega, rfl, H14⟩
              case round =>
                clear H14
                obtain ⟨i, hi, rfl, HR⟩ := hrel
                by_cases h2 : i < L.length
                · have h2' : (i : Int) < (L.length : Int) := by omega
                  have h3' : (i : Int) < (L.length : Int) + 1 := by omega
                  have h4' : (i : Int) < ((L.length + 1 : Nat) : Int) := by omega
                  have hi0 : (0 : Int) ≤ (i : Int) := by omega
                  have hneg : IntKind.i64.wrap (-(i : Int)) = -(i : Int) := i64_id (by omega) (by omega)
                  have htho : IntKind.i64.wrap (1000 + (i : Int)) = 1000 + (i : Int) := i64_id (by omega) (by omega)
                  obtain ⟨ga, rfl⟩ := HPA.out (by omega)
                  have c1 := (HR.out.fz ga2 (i * 2 + 1) _ (Or.inl (Or.inl ⟨rfl, i, h2, rfl, rfl⟩))).2
                  have c2 := (HR.out.fz ga (i * 2 + 1) _ (Or.inl (Or.inr ⟨ga, rfl, rfl, i, h2, rfl, rfl⟩))).2
                  have c3 := (HR.out.fz gb2 (i * 2 + 1) _ (Or.inr ⟨rfl, i, h2, rfl, rfl⟩)).2
                  simp only [neg1, thou] at c1 c2 c3
                  go_wp2
                  go_roundw
                  case rel => exact ⟨i + 1, by omega, by go_num, HR⟩
                  case measure => simp [intOf]; omega
                · have h2' : ¬ (i : Int) < (L.length : Int) := by omega
                  have HC0 : Hid ((((clrS T d).filter (inDir d)).length : Int) = 0) := Hid.mk' (by rw [clr_dir]; rfl)
                  go_wp2_with (first
                    | (go_at_call 15; refine (as_len H23 d _ HNN.out).mono ?_; clear H23; rintro e w24 ⟨rfl, H24⟩)
                    | (go_at_call 16; refine (as_same H22 D22 (by omega) true (by simp)).mono ?_; rintro e w23 ⟨rfl, H23, K23⟩; clear H22 D22)
                    | (go_at_call 12; refine (as_list H21 d L HL.out).mono ?_; rintro e w22 ⟨p22, c22, rfl, H22, D22, K22⟩; clear H21)
                    | (go_at_call 15; refine (as_leny HR d _ HC0.out).mono ?_; clear HR; rintro e w21 ⟨rfl, H21⟩))
                  all_goals go_ret
                  all_goals first
                    | exact ⟨rfl, H24.out.keep⟩
                    | exact ⟨ret_bool (by simp), H24.out.keep⟩

end Go.Proofs.Ytendmohjodeelab
