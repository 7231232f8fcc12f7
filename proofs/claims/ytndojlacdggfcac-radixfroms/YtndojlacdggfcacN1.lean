import Derived.Test.YtndojlacdggfcacI1
namespace Go.Proofs.Ytndojlacdggfcac
open Go.RowKit Go.Shelf

attribute [local go_sem] Oper.semAt_some

/-- The part of the list that is held. -/
def heldL (L : List El) (stop : Int) : List El := if 0 ≤ stop ∧ stop < (L.length : Int) then L.take (stop.toNat + 1) else L
theorem heldL_prefix (L : List El) (stop : Int) : heldL L stop <+: L := by
  unfold heldL
  split
  · exact List.take_prefix _ _
  · exact List.prefix_rfl
theorem prefix_snoc_get {L : List El} {pre : List El} {x : El} (h : pre ++ [x] <+: L) : L[pre.length]? = some x := by
  obtain ⟨t, rfl⟩ := h
  simp
theorem prefix_get_snoc {L : List El} {pre : List El} {x : El} (h : pre <+: L) (hx : L[pre.length]? = some x) : pre ++ [x] <+: L := by
  obtain ⟨t, rfl⟩ := h
  cases t with
  | nil => simp at hx
  | cons y t =>
    simp at hx
    subst hx
    exact ⟨t, by simp⟩

theorem addr_zero (a : Addr) : a.add 0 = a := by
  obtain ⟨b, o, sp⟩ := a
  cases sp <;> rfl
theorem slice_to (w : World) (p : Option Addr) (n cap k : Nat) (hk : k ≤ cap) :
    (Instr.slice 31 (.slice p n cap) none (some (.int .i64 (k : Int))) none).run Try.prog w = .ok (.slice p k cap) w := by
  have he : Try.prog.elem 31 = 48 := by kernel_rfl
  have hz : (sizeOf (Try.prog.elem 31)).run Try.prog w = .ok 2 w := by rw [he]; rfl
  have ht : Try.prog.underlying 31 = some (.slice (Try.prog.elem 31)) := by rw [he]; exact Try.underlying31
  rw [run_slice_h w 31 p n cap ht .i64 (k : Int) (by omega) (by omega), hz]
  have : p.map (fun a => a.add 0) = p := by cases p <;> simp [addr_zero]
  simp [Result.andThen, sliced, this]

/-- The boxes of from: the list, where it stops, the answer, how many have come. -/
structure FrAt (W : World) (B : Nat) (v : Value) (stop : Int) (n : Nat) : Prop where
  l : Boxed W B 31 v
  s : Boxed W (B + 1) 3 (.int .i64 stop)
  r : Boxed W (B + 2) 4 (.bool false)
  n : Boxed W (B + 3) 3 (.int .i64 (n : Int))
theorem FrAt.own {β : Type} {B : Nat} {v : Value} {stop : Int} {D : Nat} {g : β → Nat} : OwnFrom D (fun (s : β) W => FrAt W B v stop (g s)) := fun s X Y row hs hg hr => by
  have kept : ∀ {b t u}, Boxed X b t u → Boxed Y b t u := fun {b t u} hb => hb.kept hg (fun e => by
    obtain ⟨_, o, ho, hc⟩ := hr b e.symm
    rw [show X.heap[b]? = _ from hb] at ho; cases ho; cases hc)
  exact ⟨kept hs.l, kept hs.s, kept hs.r, kept hs.n⟩

def FrI (w : World) (L : List El) (v : Value) (stop : Int) (pre : List El) (W : World) : Prop :=
  FrAt W w.heap.size v stop pre.length ∧ (pre <+: heldL L stop ∧ (0 ≤ stop → pre.length < (heldL L stop).length ∨ (heldL L stop).length = 0)) ∧ Keeps (fun _ => False) w W
def FrX (w : World) (L : List El) (v : Value) (stop : Int) (c : Code) (pre : List El) (W : World) : Prop :=
  (c = .ret ∧ ¬ pre <+: L) ∨ (c = .exit 0 ∧ FrAt W w.heap.size v stop (heldL L stop).length ∧ Keeps (fun _ => False) w W)

theorem six_new (w : World) (o1 o2 o3 o4 o5 o6 : Obj) : ∀ W, (((((w.alloc o1).alloc o2).alloc o3).alloc o4).alloc o5).alloc o6 = W → W.heap[w.heap.size]? = some o1 ∧ W.heap[w.heap.size + 1]? = some o2 ∧ W.heap[w.heap.size + 2]? = some o3 ∧ W.heap[w.heap.size + 3]? = some o4 ∧ W.heap[w.heap.size + 4]? = some o5 ∧ W.heap[w.heap.size + 5]? = some o6 ∧ Keeps (fun _ => False) w W := by
  rintro W rfl
  obtain ⟨b1, b2, b3, b4, hsz, hk⟩ := four_new w o1 o2 o3 o4
  generalize (((w.alloc o1).alloc o2).alloc o3).alloc o4 = W4 at *
  have k5 := Keeps.new W4 o5
  have k6 := Keeps.new (W4.alloc o5) o6
  have b5 := (MapKept.heap_alloc W4 o5).1
  have b6 := (MapKept.heap_alloc (W4.alloc o5) o6).1
  rw [World.size_alloc] at b6
  rw [hsz] at b5 b6
  have k := k5.trans k6
  exact ⟨k.at b1 id, k.at b2 id, k.at b3 id, k.at b4 id, k6.at b5 id, b6, hk.trans k⟩
theorem FrAt.keep {W W' : World} {B : Nat} {v : Value} {stop : Int} {n : Nat} (h : FrAt W B v stop n) (hk : Keeps (fun c => c = B + 3) W W') (m : Nat) (hn : Boxed W' (B + 3) 3 (.int .i64 (m : Int))) : FrAt W' B v stop m :=
  ⟨hk.at h.l (by omega), hk.at h.s (by omega), hk.at h.r (by omega), hn⟩
theorem FrI.own {w : World} {L : List El} {v : Value} {stop : Int} {D : Nat} (hD : w.heap.size ≤ D) : OwnFrom D (FrI w L v stop) := fun s X Y row hs hg hr =>
  ⟨FrAt.own (β := List El) (g := fun s => s.length) s X Y row hs.1 hg hr, hs.2.1, ownKeeps (β := List El) hD s X Y row hs.2.2 hg hr⟩
theorem FrX.own {w : World} {L : List El} {v : Value} {stop : Int} {D : Nat} (hD : w.heap.size ≤ D) (c : Code) : OwnFrom D (FrX w L v stop c) := fun s X Y row hs hg hr => by
  rcases hs with h | ⟨h1, h2, h3⟩
  · exact .inl h
  · exact .inr ⟨h1, FrAt.own (β := List El) (g := fun _ => (heldL L stop).length) s X Y row h2 hg hr, ownKeeps (β := List El) hD s X Y row h3 hg hr⟩

theorem one_keeps' (W : World) (b k : Nat) (v : Value) : Keeps (fun c => c = b) W (W.setCell ⟨b, k, none⟩ v) := Keeps.of (grownBy_setCell W ⟨b, k, none⟩ v) (by rintro c hc; cases hc; exact .inl rfl)

set_option maxRecDepth 100000 in
set_option maxHeartbeats 4000000 in
theorem from_law (w : World) (t : Nat) (f : Nat → Int) (off stop : Int) (a : Option Addr) (cap : Nat) (L : List El) (hL : els f off 0 512 = L) (hT : TreeAt w t f) (hR : Row w (.slice a L.length cap) L.length (pflat L)) (hcap : L.length ≤ cap) :
    Calls Try.prog 9 #[.pointer (some ⟨t, 0, none⟩), .slice a L.length cap, .int .i64 off, .int .i64 stop] w fun e w' => e = .returned (.bool true) ∧ Keeps (fun _ => False) w w' := by
  have hlen : L.length ≤ 512 := by rw [← hL]; exact els_len f off 0 512
  obtain ⟨H', hH⟩ : ∃ H', heldL L stop = H' := ⟨_, rfl⟩
  have hHp := heldL_prefix L stop
  rw [hH] at hHp
  have hRow : 0 < L.length → ∃ b o, a = some ⟨b, o, none⟩ ∧ b < w.heap.size ∧ ∀ (j : Nat) (u : Value), (pflat L)[j]? = some u → w.cell? ⟨b, o + j, none⟩ = some u := by
    obtain ⟨a', cap', e, h⟩ := hR
    cases e
    exact h
  clear hR
  refine (callsIn_wide (n := 9)).1 ?_
  refine callsIn_of_wp_marks Try.func9 rfl trivial ?_ rfl
  simp only [Try.ntmps9, List.size_toArray, List.length_cons, List.length_nil, Nat.reduceAdd, Nat.reduceSub, Array.replicate_succ, Array.replicate_zero, List.push_toArray, List.append_toArray, List.nil_append, List.cons_append]
  by_cases hs0 : 0 ≤ stop
  · by_cases hs1 : stop < (L.length : Int)
    · obtain ⟨S, rfl⟩ := Int.eq_ofNat_of_zero_le hs0
      have hHlen : H'.length = S + 1 := by rw [← hH, heldL, if_pos ⟨hs0, hs1⟩]; simp; omega
      have hsl := fun w => slice_to w a L.length cap (S + 1) (by omega)
      rw [Int.natCast_add] at hsl
      have hfirst : 0 ≤ (S : Int) → ([] : List El).length < (heldL L (S : Int)).length ∨ (heldL L (S : Int)).length = 0 := fun _ => by rw [hH]; left; simp; omega
      gi_wp2_with (refine ⟨trivial, ?_⟩; gi_at_call 13; refine (callsIn_wide.2 (from_any _ _ _)).mono ?_; rintro e w' ⟨rfl, rfl⟩)
      have h6 := six_new w (.cells #[.slice a (S + 1) cap] 31) (.cells #[.int .i64 (S : Int)] 3) (.cells #[.bool false] 4) (.cells #[.int .i64 0] 3) (.cells #[.pointer (some ⟨t, 0, none⟩)] 33) (.cells #[.int .i64 off] 3) _ rfl
      obtain ⟨W0, hW0⟩ : ∃ W0, (((((w.alloc (.cells #[.slice a (S + 1) cap] 31)).alloc (.cells #[.int .i64 (S : Int)] 3)).alloc (.cells #[.bool false] 4)).alloc (.cells #[.int .i64 0] 3)).alloc (.cells #[.pointer (some ⟨t, 0, none⟩)] 33)).alloc (.cells #[.int .i64 off] 3) = W0 := ⟨_, rfl⟩
      rw [hW0] at h6 ⊢
      clear hW0
      obtain ⟨b0, b1, b2, b3, b4, b5, hK0⟩ := h6
      have c1 : W0.cell? ⟨w.heap.size + 1 + 1 + 1 + 1, 0, none⟩ = some (.pointer (some ⟨t, 0, none⟩)) := (show Boxed W0 _ _ _ from b4).cell
      have c2 : W0.cell? ⟨w.heap.size + 1 + 1 + 1 + 1 + 1, 0, none⟩ = some (.int .i64 off) := (show Boxed W0 _ _ _ from b5).cell
      have hseq := from_stops 8 (w.heap.size + 1 + 1 + 1 + 1) (w.heap.size + 1 + 1 + 1 + 1 + 1) t off f W0 c1 c2 (hT.keep hK0)
      rw [hL] at hseq
      refine wpIn_rangeFunc_ownG rfl (by decide) (gf := 16) (lb := #[.pointer (some ⟨w.heap.size + 1 + 1 + 1 + 1, 0, none⟩), .pointer (some ⟨w.heap.size + 1 + 1 + 1 + 1 + 1, 0, none⟩)]) rfl trivial (enters_of Try.func16 (by kernel_rfl) rfl)
        hseq (fun h k => h.trans k) (keepS_b W0) (Below.refl _ _) (fun _ => rfl)
        (FrI w L (.slice a (S + 1) cap) (S : Int)) (FrX w L (.slice a (S + 1) cap) (S : Int)) (FrI.own hK0.size) (FrX.own hK0.size) ⟨⟨b0, b1, b2, b3⟩, ⟨List.nil_prefix, hfirst⟩, hK0⟩
        (fun x => { tmps := #[.pointer (some ⟨t, 0, none⟩), .slice a L.length cap, .int .i64 off, .int .i64 (S : Int), undef, .pointer (some ⟨w.heap.size, 0, none⟩), undef, .pointer (some ⟨w.heap.size + 1, 0, none⟩), .pointer (some ⟨w.heap.size + 1 + 1, 0, none⟩), .pointer (some ⟨w.heap.size + 1 + 1 + 1, 0, none⟩), .int .i64 (x.1.val : Int), .int .i64 x.2, .int .i64 (S : Int), .bool true, .bool true, .int .i64 (S : Int), .slice a L.length cap, .int .i64 (L.length : Int), .bool true, .bool true, .slice a L.length cap, .int .i64 (S : Int), .int .i64 ((S : Int) + 1), .slice a (S + 1) cap, .pointer (some ⟨t, 0, none⟩), .int .i64 off, .func (.func 16) #[] #[.pointer (some ⟨w.heap.size + 1 + 1 + 1 + 1, 0, none⟩), .pointer (some ⟨w.heap.size + 1 + 1 + 1 + 1 + 1, 0, none⟩)], .int .i64 (x.1.val : Int), .int .i64 x.2, undef, undef, undef, undef, undef, undef, undef, undef, undef, undef, undef, undef, undef, undef, undef, undef, undef, undef, undef, undef, undef, undef, undef, undef, undef, undef, undef, undef, undef, undef, undef, undef, undef, undef, undef, undef], defers := [] }) ?assign ?body ?done ?halt
      case assign =>
        intro l x W K hK
        simp only [encs]
        gi_wp2
        simpa using hK
      case body =>
        rintro l pre x W ⟨hF, ⟨hpre, hgo⟩, hk⟩ hl
        obtain ⟨⟨xo, hxo⟩, xv⟩ := x
        obtain ⟨f0, f1, f2, f3⟩ := id hF
        have d0 := f0.cell
        have d1 := f1.cell
        have d2 := f2.cell
        have d3 := f3.cell
        have e2 := f2.frozen
        have e3 := f3.frozen
        rw [hH] at hpre hgo
        have hpl : pre.length ≤ H'.length := hpre.length_le
        by_cases hge : (S + 1) ≤ pre.length
        · exfalso
          have := hgo hs0; omega
        · have hlt : (pre.length : Int) < (((S + 1) : Nat) : Int) := by omega
          obtain ⟨ab, ao, rfl, _, hc⟩ := hRow (by omega)
          obtain ⟨g0, g1⟩ := pflat_get L pre.length (by omega)
          have q0 := hk.cell (hc _ _ g0) id
          have q1 := hk.cell (hc _ _ g1) id
          rw [← Nat.add_assoc] at q1
          have hget : L[pre.length]? = some (L.getD pre.length e0) := by rw [List.getD_eq_getElem?_getD, List.getElem?_eq_getElem (by omega)]; rfl
          generalize L.getD pre.length e0 = y at *
          obtain ⟨⟨yo, hyo⟩, yv⟩ := y
          simp only at q0 q1
          have hmis : ((⟨yo, hyo⟩, yv) : El) ≠ (⟨xo, hxo⟩, xv) → ¬ pre ++ [((⟨xo, hxo⟩, xv) : El)] <+: L := fun hne hp => by
            have := prefix_snoc_get hp
            rw [hget] at this
            exact hne (Option.some.inj this)
          have HMIS := Hid.mk' hmis
          have HGET := Hid.mk' hget
          clear hmis hget hc g0 g1 hgo
          by_cases hxy : yo = xo
          · subst hxy
            by_cases hvv : yv = xv
            · subst hvv
              have hnew := Boxed.set (.int .i64 ((pre.length : Int) + 1)) f3
              have hks := one_keeps' W (w.heap.size + 3) 0 (.int .i64 ((pre.length : Int) + 1))
              have hF' : FrAt _ w.heap.size (.slice (some ⟨ab, ao, none⟩) (S + 1) cap) (S : Int) (pre.length + 1) := hF.keep hks (pre.length + 1) (by simpa using hnew)
              have hk' := hk.then hks (by rintro c rfl; right; omega)
              have hkS : KeepS W (W.setCell ⟨w.heap.size + 3, 0, none⟩ (.int .i64 ((pre.length : Int) + 1))) := keepS_box f3 (by decide) (by decide) _
              have hpre' : pre ++ [((⟨yo, hyo⟩, yv) : El)] <+: H' := by
                refine prefix_get_snoc hpre ?_
                obtain ⟨tt, htt⟩ := hHp
                have := HGET.out
                rw [← htt, List.getElem?_append_left (by omega)] at this
                exact this
              generalize hWn : W.setCell ⟨w.heap.size + 3, 0, none⟩ (.int .i64 ((pre.length : Int) + 1)) = Wn at *
              have n0 := hF'.l.cell
              have n1 := hF'.s.cell
              have n3 := hF'.n.cell
              have HN := Hid.mk' (And.intro hF' (And.intro hk' (And.intro hkS hpre')))
              have HKO : Hid (KeepsOthers W Wn) := by rw [← hWn]; exact KeepsOthers.setCell _ _ _
              clear hnew hks hF' hk' hkS hpre' hF
              by_cases hend : pre.length + 1 = (S + 1)
              · have hend' : ((pre.length : Int) + 1 == (((S + 1) : Nat) : Int)) = true := by simp; omega
                obtain rfl : S = pre.length := by omega
                have hA1 : (((pre.length : Int) + 1) == ((pre.length : Int) + 1)) = true := by simp
                clear hend
                gi_wp2
                exact ⟨HKO.out.from _, .inr ⟨rfl, by rw [hH, hHlen]; exact HN.out.1, HN.out.2.1⟩⟩
              · have hend' : ((pre.length : Int) + 1 == (((S + 1) : Nat) : Int)) = false := by simp; omega
                gi_wp2
                exact ⟨HKO.out.from _, HN.out.2.2.1, ⟨by simpa using HN.out.1, ⟨by rw [hH]; exact HN.out.2.2.2, fun h0 => by rw [hH]; left; simp; omega⟩, HN.out.2.1⟩⟩
            · have hvb : (yv == xv) = false := by simpa using hvv
              have hvb2 : (yv != xv) = true := by simpa using hvv
              gi_wp2
              exact ⟨(KeepsOthers.setCell _ _ _).from _, .inl ⟨rfl, HMIS.out (by intro e; cases e; exact hvv rfl)⟩⟩
          · have hxb : ((yo : Int) == (xo : Int)) = false := by simpa using fun e => hxy (by omega)
            gi_wp2
            exact ⟨(KeepsOthers.setCell _ _ _).from _, .inl ⟨rfl, HMIS.out (by intro e; cases e; exact hxy rfl)⟩⟩
      case done =>
        rintro D ys W hD hys ⟨hF, ⟨hpre, _⟩, hk⟩ hK
        obtain rfl : L = ys := hys.symm
        rw [hH] at hpre
        have hm : L.length = (S + 1) := by have h1 := hpre.length_le; have h2 := hHp.length_le; omega
        have hm' : ((L.length : Int) == (((S + 1) : Nat) : Int)) = true := by simp <;> omega
        obtain ⟨f0, f1, f2, f3⟩ := hF
        have d0 := f0.cell
        have d2 := f2.cell
        have d3 := f3.cell
        have e2 := f2.frozen
        have hK2 : (W.setCell ⟨w.heap.size + 2, 0, none⟩ (.bool true)).heap[D]? = some (.deferred (some [])) := (KeepsOthers.setCell W _ _).same D _ hK rfl
        have hr2 := Boxed.set (.bool true) f2
        have hks := (one_keeps' W (w.heap.size + 2) 0 (.bool true))
        have hkk := hk.then hks (by rintro c rfl; right; omega)
        have hDw : w.heap.size ≤ D := Nat.le_trans hK0.size hD
        have hne : w.heap.size + 2 ≠ D := by rintro rfl; have hh := (show W.heap[w.heap.size + 2]? = _ from f2).symm.trans hK; cases hh
        have hcell : ((W.setCell ⟨w.heap.size + 2, 0, none⟩ (.bool true)).putObj D (.deferred none)).cell? ⟨w.heap.size + 2, 0, none⟩ = some (.bool true) := (show Boxed _ _ _ _ from (World.putObj_heap_other hne).trans hr2).cell
        have hfin := hkk.step (grownBy_putObj' (W.setCell ⟨w.heap.size + 2, 0, none⟩ (.bool true)) D (.deferred none)) (by rintro k hk'; cases hk'; exact .inr hDw)
        have HFIN := Hid.mk' (And.intro hK2 hfin)
        clear hK2 hfin hkk hks hr2
        gi_wp2
        refine ⟨by simp, .inl ⟨_, _, rfl, run_takeDeferred HFIN.out.1, ?_⟩⟩
        exact ⟨.bool true, by simp [results, Try.results9, go_sem, hcell], rfl, HFIN.out.2⟩
      case halt =>
        rintro D c pre W hD hSp hX hK
        rcases hX with ⟨rfl, hbad⟩ | ⟨rfl, hF, hk⟩
        · exact absurd hSp hbad
        · rw [hH, hHlen] at hF
          have hm' : (((((S + 1) : Nat) : Int)) == (((S + 1) : Nat) : Int)) = true := by simp
          obtain ⟨f0, f1, f2, f3⟩ := hF
          have d0 := f0.cell
          have d2 := f2.cell
          have d3 := f3.cell
          have e2 := f2.frozen
          have hK2 : (W.setCell ⟨w.heap.size + 2, 0, none⟩ (.bool true)).heap[D]? = some (.deferred (some [])) := (KeepsOthers.setCell W _ _).same D _ hK rfl
          have hr2 := Boxed.set (.bool true) f2
          have hks := (one_keeps' W (w.heap.size + 2) 0 (.bool true))
          have hkk := hk.then hks (by rintro c rfl; right; omega)
          have hDw : w.heap.size ≤ D := Nat.le_trans hK0.size hD
          have hne : w.heap.size + 2 ≠ D := by rintro rfl; have hh := (show W.heap[w.heap.size + 2]? = _ from f2).symm.trans hK; cases hh
          have hcell : ((W.setCell ⟨w.heap.size + 2, 0, none⟩ (.bool true)).putObj D (.deferred none)).cell? ⟨w.heap.size + 2, 0, none⟩ = some (.bool true) := (show Boxed _ _ _ _ from (World.putObj_heap_other hne).trans hr2).cell
          have hfin := hkk.step (grownBy_putObj' (W.setCell ⟨w.heap.size + 2, 0, none⟩ (.bool true)) D (.deferred none)) (by rintro k hk'; cases hk'; exact .inr hDw)
          have HFIN := Hid.mk' (And.intro hK2 hfin)
          clear hK2 hfin hkk hks hr2
          gi_wp2
          refine ⟨by simp, .inl ⟨_, _, rfl, run_takeDeferred HFIN.out.1, ?_⟩⟩
          exact ⟨.bool true, by simp [results, Try.results9, go_sem, hcell], rfl, HFIN.out.2⟩
    · have hs1' : (L.length : Int) ≤ stop := by omega
      have hHlen : H'.length = L.length := by rw [← hH, heldL, if_neg (by omega)]
      have hfirst : 0 ≤ stop → ([] : List El).length < (heldL L stop).length ∨ (heldL L stop).length = 0 := fun _ => by
        rw [hH]
        rcases Nat.eq_zero_or_pos H'.length with h | h
        · exact .inr h
        · exact .inl h
      gi_wp2_with (refine ⟨trivial, ?_⟩; gi_at_call 13; refine (callsIn_wide.2 (from_any _ _ _)).mono ?_; rintro e w' ⟨rfl, rfl⟩)
      have h6 := six_new w (.cells #[.slice a L.length cap] 31) (.cells #[.int .i64 stop] 3) (.cells #[.bool false] 4) (.cells #[.int .i64 0] 3) (.cells #[.pointer (some ⟨t, 0, none⟩)] 33) (.cells #[.int .i64 off] 3) _ rfl
      obtain ⟨W0, hW0⟩ : ∃ W0, (((((w.alloc (.cells #[.slice a L.length cap] 31)).alloc (.cells #[.int .i64 stop] 3)).alloc (.cells #[.bool false] 4)).alloc (.cells #[.int .i64 0] 3)).alloc (.cells #[.pointer (some ⟨t, 0, none⟩)] 33)).alloc (.cells #[.int .i64 off] 3) = W0 := ⟨_, rfl⟩
      rw [hW0] at h6 ⊢
      clear hW0
      obtain ⟨b0, b1, b2, b3, b4, b5, hK0⟩ := h6
      have c1 : W0.cell? ⟨w.heap.size + 1 + 1 + 1 + 1, 0, none⟩ = some (.pointer (some ⟨t, 0, none⟩)) := (show Boxed W0 _ _ _ from b4).cell
      have c2 : W0.cell? ⟨w.heap.size + 1 + 1 + 1 + 1 + 1, 0, none⟩ = some (.int .i64 off) := (show Boxed W0 _ _ _ from b5).cell
      have hseq := from_stops 8 (w.heap.size + 1 + 1 + 1 + 1) (w.heap.size + 1 + 1 + 1 + 1 + 1) t off f W0 c1 c2 (hT.keep hK0)
      rw [hL] at hseq
      refine wpIn_rangeFunc_ownG rfl (by decide) (gf := 16) (lb := #[.pointer (some ⟨w.heap.size + 1 + 1 + 1 + 1, 0, none⟩), .pointer (some ⟨w.heap.size + 1 + 1 + 1 + 1 + 1, 0, none⟩)]) rfl trivial (enters_of Try.func16 (by kernel_rfl) rfl)
        hseq (fun h k => h.trans k) (keepS_b W0) (Below.refl _ _) (fun _ => rfl)
        (FrI w L (.slice a L.length cap) stop) (FrX w L (.slice a L.length cap) stop) (FrI.own hK0.size) (FrX.own hK0.size) ⟨⟨b0, b1, b2, b3⟩, ⟨List.nil_prefix, hfirst⟩, hK0⟩
        (fun x => { tmps := #[.pointer (some ⟨t, 0, none⟩), .slice a L.length cap, .int .i64 off, .int .i64 stop, undef, .pointer (some ⟨w.heap.size, 0, none⟩), undef, .pointer (some ⟨w.heap.size + 1, 0, none⟩), .pointer (some ⟨w.heap.size + 1 + 1, 0, none⟩), .pointer (some ⟨w.heap.size + 1 + 1 + 1, 0, none⟩), .int .i64 (x.1.val : Int), .int .i64 x.2, .int .i64 stop, .bool true, .bool true, .int .i64 stop, .slice a L.length cap, .int .i64 (L.length : Int), .bool false, .bool false, undef, undef, undef, undef, .pointer (some ⟨t, 0, none⟩), .int .i64 off, .func (.func 16) #[] #[.pointer (some ⟨w.heap.size + 1 + 1 + 1 + 1, 0, none⟩), .pointer (some ⟨w.heap.size + 1 + 1 + 1 + 1 + 1, 0, none⟩)], .int .i64 (x.1.val : Int), .int .i64 x.2, undef, undef, undef, undef, undef, undef, undef, undef, undef, undef, undef, undef, undef, undef, undef, undef, undef, undef, undef, undef, undef, undef, undef, undef, undef, undef, undef, undef, undef, undef, undef, undef, undef, undef, undef, undef], defers := [] }) ?assign ?body ?done ?halt
      case assign =>
        intro l x W K hK
        simp only [encs]
        gi_wp2
        simpa using hK
      case body =>
        rintro l pre x W ⟨hF, ⟨hpre, hgo⟩, hk⟩ hl
        obtain ⟨⟨xo, hxo⟩, xv⟩ := x
        obtain ⟨f0, f1, f2, f3⟩ := id hF
        have d0 := f0.cell
        have d1 := f1.cell
        have d2 := f2.cell
        have d3 := f3.cell
        have e2 := f2.frozen
        have e3 := f3.frozen
        rw [hH] at hpre hgo
        have hpl : pre.length ≤ H'.length := hpre.length_le
        by_cases hge : L.length ≤ pre.length
        · exfalso
          omega
        · have hlt : (pre.length : Int) < ((L.length : Nat) : Int) := by omega
          obtain ⟨ab, ao, rfl, _, hc⟩ := hRow (by omega)
          obtain ⟨g0, g1⟩ := pflat_get L pre.length (by omega)
          have q0 := hk.cell (hc _ _ g0) id
          have q1 := hk.cell (hc _ _ g1) id
          rw [← Nat.add_assoc] at q1
          have hget : L[pre.length]? = some (L.getD pre.length e0) := by rw [List.getD_eq_getElem?_getD, List.getElem?_eq_getElem (by omega)]; rfl
          generalize L.getD pre.length e0 = y at *
          obtain ⟨⟨yo, hyo⟩, yv⟩ := y
          simp only at q0 q1
          have hmis : ((⟨yo, hyo⟩, yv) : El) ≠ (⟨xo, hxo⟩, xv) → ¬ pre ++ [((⟨xo, hxo⟩, xv) : El)] <+: L := fun hne hp => by
            have := prefix_snoc_get hp
            rw [hget] at this
            exact hne (Option.some.inj this)
          have HMIS := Hid.mk' hmis
          have HGET := Hid.mk' hget
          clear hmis hget hc g0 g1 hgo
          by_cases hxy : yo = xo
          · subst hxy
            by_cases hvv : yv = xv
            · subst hvv
              have hnew := Boxed.set (.int .i64 ((pre.length : Int) + 1)) f3
              have hks := one_keeps' W (w.heap.size + 3) 0 (.int .i64 ((pre.length : Int) + 1))
              have hF' : FrAt _ w.heap.size (.slice (some ⟨ab, ao, none⟩) L.length cap) stop (pre.length + 1) := hF.keep hks (pre.length + 1) (by simpa using hnew)
              have hk' := hk.then hks (by rintro c rfl; right; omega)
              have hkS : KeepS W (W.setCell ⟨w.heap.size + 3, 0, none⟩ (.int .i64 ((pre.length : Int) + 1))) := keepS_box f3 (by decide) (by decide) _
              have hpre' : pre ++ [((⟨yo, hyo⟩, yv) : El)] <+: H' := by
                refine prefix_get_snoc hpre ?_
                obtain ⟨tt, htt⟩ := hHp
                have := HGET.out
                rw [← htt, List.getElem?_append_left (by omega)] at this
                exact this
              generalize hWn : W.setCell ⟨w.heap.size + 3, 0, none⟩ (.int .i64 ((pre.length : Int) + 1)) = Wn at *
              have n0 := hF'.l.cell
              have n1 := hF'.s.cell
              have n3 := hF'.n.cell
              have HN := Hid.mk' (And.intro hF' (And.intro hk' (And.intro hkS hpre')))
              have HKO : Hid (KeepsOthers W Wn) := by rw [← hWn]; exact KeepsOthers.setCell _ _ _
              clear hnew hks hF' hk' hkS hpre' hF
              by_cases hend : pre.length + 1 = L.length
              · have hend' : ((pre.length : Int) + 1 == ((L.length : Nat) : Int)) = true := by simp; omega
                have HEND := Hid.mk' hend
                clear hend
                gi_wp2
                exact ⟨HKO.out.from _, .inr ⟨rfl, by rw [hH, hHlen]; have hq := HN.out.1; rw [HEND.out] at hq; exact hq, HN.out.2.1⟩⟩
              · have hend' : ((pre.length : Int) + 1 == ((L.length : Nat) : Int)) = false := by simp; omega
                gi_wp2
                exact ⟨HKO.out.from _, HN.out.2.2.1, ⟨by simpa using HN.out.1, ⟨by rw [hH]; exact HN.out.2.2.2, fun h0 => by rw [hH]; left; simp; omega⟩, HN.out.2.1⟩⟩
            · have hvb : (yv == xv) = false := by simpa using hvv
              have hvb2 : (yv != xv) = true := by simpa using hvv
              gi_wp2
              exact ⟨(KeepsOthers.setCell _ _ _).from _, .inl ⟨rfl, HMIS.out (by intro e; cases e; exact hvv rfl)⟩⟩
          · have hxb : ((yo : Int) == (xo : Int)) = false := by simpa using fun e => hxy (by omega)
            gi_wp2
            exact ⟨(KeepsOthers.setCell _ _ _).from _, .inl ⟨rfl, HMIS.out (by intro e; cases e; exact hxy rfl)⟩⟩
      case done =>
        rintro D ys W hD hys ⟨hF, ⟨hpre, _⟩, hk⟩ hK
        obtain rfl : L = ys := hys.symm
        rw [hH] at hpre
        have hm : L.length = L.length := by have h1 := hpre.length_le; have h2 := hHp.length_le; omega
        have hm' : ((L.length : Int) == ((L.length : Nat) : Int)) = true := by simp <;> omega
        obtain ⟨f0, f1, f2, f3⟩ := hF
        have d0 := f0.cell
        have d2 := f2.cell
        have d3 := f3.cell
        have e2 := f2.frozen
        have hK2 : (W.setCell ⟨w.heap.size + 2, 0, none⟩ (.bool true)).heap[D]? = some (.deferred (some [])) := (KeepsOthers.setCell W _ _).same D _ hK rfl
        have hr2 := Boxed.set (.bool true) f2
        have hks := (one_keeps' W (w.heap.size + 2) 0 (.bool true))
        have hkk := hk.then hks (by rintro c rfl; right; omega)
        have hDw : w.heap.size ≤ D := Nat.le_trans hK0.size hD
        have hne : w.heap.size + 2 ≠ D := by rintro rfl; have hh := (show W.heap[w.heap.size + 2]? = _ from f2).symm.trans hK; cases hh
        have hcell : ((W.setCell ⟨w.heap.size + 2, 0, none⟩ (.bool true)).putObj D (.deferred none)).cell? ⟨w.heap.size + 2, 0, none⟩ = some (.bool true) := (show Boxed _ _ _ _ from (World.putObj_heap_other hne).trans hr2).cell
        have hfin := hkk.step (grownBy_putObj' (W.setCell ⟨w.heap.size + 2, 0, none⟩ (.bool true)) D (.deferred none)) (by rintro k hk'; cases hk'; exact .inr hDw)
        have HFIN := Hid.mk' (And.intro hK2 hfin)
        clear hK2 hfin hkk hks hr2
        gi_wp2
        refine ⟨by simp, .inl ⟨_, _, rfl, run_takeDeferred HFIN.out.1, ?_⟩⟩
        exact ⟨.bool true, by simp [results, Try.results9, go_sem, hcell], rfl, HFIN.out.2⟩
      case halt =>
        rintro D c pre W hD hSp hX hK
        rcases hX with ⟨rfl, hbad⟩ | ⟨rfl, hF, hk⟩
        · exact absurd hSp hbad
        · rw [hH, hHlen] at hF
          have hm' : ((((L.length : Nat) : Int)) == ((L.length : Nat) : Int)) = true := by simp
          obtain ⟨f0, f1, f2, f3⟩ := hF
          have d0 := f0.cell
          have d2 := f2.cell
          have d3 := f3.cell
          have e2 := f2.frozen
          have hK2 : (W.setCell ⟨w.heap.size + 2, 0, none⟩ (.bool true)).heap[D]? = some (.deferred (some [])) := (KeepsOthers.setCell W _ _).same D _ hK rfl
          have hr2 := Boxed.set (.bool true) f2
          have hks := (one_keeps' W (w.heap.size + 2) 0 (.bool true))
          have hkk := hk.then hks (by rintro c rfl; right; omega)
          have hDw : w.heap.size ≤ D := Nat.le_trans hK0.size hD
          have hne : w.heap.size + 2 ≠ D := by rintro rfl; have hh := (show W.heap[w.heap.size + 2]? = _ from f2).symm.trans hK; cases hh
          have hcell : ((W.setCell ⟨w.heap.size + 2, 0, none⟩ (.bool true)).putObj D (.deferred none)).cell? ⟨w.heap.size + 2, 0, none⟩ = some (.bool true) := (show Boxed _ _ _ _ from (World.putObj_heap_other hne).trans hr2).cell
          have hfin := hkk.step (grownBy_putObj' (W.setCell ⟨w.heap.size + 2, 0, none⟩ (.bool true)) D (.deferred none)) (by rintro k hk'; cases hk'; exact .inr hDw)
          have HFIN := Hid.mk' (And.intro hK2 hfin)
          clear hK2 hfin hkk hks hr2
          gi_wp2
          refine ⟨by simp, .inl ⟨_, _, rfl, run_takeDeferred HFIN.out.1, ?_⟩⟩
          exact ⟨.bool true, by simp [results, Try.results9, go_sem, hcell], rfl, HFIN.out.2⟩
  · have hs0' : stop < 0 := by omega
    have hHlen : H'.length = L.length := by rw [← hH, heldL, if_neg (by omega)]
    have hfirst : 0 ≤ stop → ([] : List El).length < (heldL L stop).length ∨ (heldL L stop).length = 0 := fun h => absurd h (by omega)
    gi_wp2_with (refine ⟨trivial, ?_⟩; gi_at_call 13; refine (callsIn_wide.2 (from_any _ _ _)).mono ?_; rintro e w' ⟨rfl, rfl⟩)
    have h6 := six_new w (.cells #[.slice a L.length cap] 31) (.cells #[.int .i64 stop] 3) (.cells #[.bool false] 4) (.cells #[.int .i64 0] 3) (.cells #[.pointer (some ⟨t, 0, none⟩)] 33) (.cells #[.int .i64 off] 3) _ rfl
    obtain ⟨W0, hW0⟩ : ∃ W0, (((((w.alloc (.cells #[.slice a L.length cap] 31)).alloc (.cells #[.int .i64 stop] 3)).alloc (.cells #[.bool false] 4)).alloc (.cells #[.int .i64 0] 3)).alloc (.cells #[.pointer (some ⟨t, 0, none⟩)] 33)).alloc (.cells #[.int .i64 off] 3) = W0 := ⟨_, rfl⟩
    rw [hW0] at h6 ⊢
    clear hW0
    obtain ⟨b0, b1, b2, b3, b4, b5, hK0⟩ := h6
    have c1 : W0.cell? ⟨w.heap.size + 1 + 1 + 1 + 1, 0, none⟩ = some (.pointer (some ⟨t, 0, none⟩)) := (show Boxed W0 _ _ _ from b4).cell
    have c2 : W0.cell? ⟨w.heap.size + 1 + 1 + 1 + 1 + 1, 0, none⟩ = some (.int .i64 off) := (show Boxed W0 _ _ _ from b5).cell
    have hseq := from_stops 8 (w.heap.size + 1 + 1 + 1 + 1) (w.heap.size + 1 + 1 + 1 + 1 + 1) t off f W0 c1 c2 (hT.keep hK0)
    rw [hL] at hseq
    refine wpIn_rangeFunc_ownG rfl (by decide) (gf := 16) (lb := #[.pointer (some ⟨w.heap.size + 1 + 1 + 1 + 1, 0, none⟩), .pointer (some ⟨w.heap.size + 1 + 1 + 1 + 1 + 1, 0, none⟩)]) rfl trivial (enters_of Try.func16 (by kernel_rfl) rfl)
      hseq (fun h k => h.trans k) (keepS_b W0) (Below.refl _ _) (fun _ => rfl)
      (FrI w L (.slice a L.length cap) stop) (FrX w L (.slice a L.length cap) stop) (FrI.own hK0.size) (FrX.own hK0.size) ⟨⟨b0, b1, b2, b3⟩, ⟨List.nil_prefix, hfirst⟩, hK0⟩
      (fun x => { tmps := #[.pointer (some ⟨t, 0, none⟩), .slice a L.length cap, .int .i64 off, .int .i64 stop, undef, .pointer (some ⟨w.heap.size, 0, none⟩), undef, .pointer (some ⟨w.heap.size + 1, 0, none⟩), .pointer (some ⟨w.heap.size + 1 + 1, 0, none⟩), .pointer (some ⟨w.heap.size + 1 + 1 + 1, 0, none⟩), .int .i64 (x.1.val : Int), .int .i64 x.2, .int .i64 stop, .bool false, .bool false, undef, undef, undef, undef, .bool false, undef, undef, undef, undef, .pointer (some ⟨t, 0, none⟩), .int .i64 off, .func (.func 16) #[] #[.pointer (some ⟨w.heap.size + 1 + 1 + 1 + 1, 0, none⟩), .pointer (some ⟨w.heap.size + 1 + 1 + 1 + 1 + 1, 0, none⟩)], .int .i64 (x.1.val : Int), .int .i64 x.2, undef, undef, undef, undef, undef, undef, undef, undef, undef, undef, undef, undef, undef, undef, undef, undef, undef, undef, undef, undef, undef, undef, undef, undef, undef, undef, undef, undef, undef, undef, undef, undef, undef, undef, undef, undef], defers := [] }) ?assign ?body ?done ?halt
    case assign =>
      intro l x W K hK
      simp only [encs]
      gi_wp2
      simpa using hK
    case body =>
      rintro l pre x W ⟨hF, ⟨hpre, hgo⟩, hk⟩ hl
      obtain ⟨⟨xo, hxo⟩, xv⟩ := x
      obtain ⟨f0, f1, f2, f3⟩ := id hF
      have d0 := f0.cell
      have d1 := f1.cell
      have d2 := f2.cell
      have d3 := f3.cell
      have e2 := f2.frozen
      have e3 := f3.frozen
      rw [hH] at hpre hgo
      have hpl : pre.length ≤ H'.length := hpre.length_le
      by_cases hge : L.length ≤ pre.length
      · exfalso
        omega
      · have hlt : (pre.length : Int) < ((L.length : Nat) : Int) := by omega
        obtain ⟨ab, ao, rfl, _, hc⟩ := hRow (by omega)
        obtain ⟨g0, g1⟩ := pflat_get L pre.length (by omega)
        have q0 := hk.cell (hc _ _ g0) id
        have q1 := hk.cell (hc _ _ g1) id
        rw [← Nat.add_assoc] at q1
        have hget : L[pre.length]? = some (L.getD pre.length e0) := by rw [List.getD_eq_getElem?_getD, List.getElem?_eq_getElem (by omega)]; rfl
        generalize L.getD pre.length e0 = y at *
        obtain ⟨⟨yo, hyo⟩, yv⟩ := y
        simp only at q0 q1
        have hmis : ((⟨yo, hyo⟩, yv) : El) ≠ (⟨xo, hxo⟩, xv) → ¬ pre ++ [((⟨xo, hxo⟩, xv) : El)] <+: L := fun hne hp => by
          have := prefix_snoc_get hp
          rw [hget] at this
          exact hne (Option.some.inj this)
        have HMIS := Hid.mk' hmis
        have HGET := Hid.mk' hget
        clear hmis hget hc g0 g1 hgo
        by_cases hxy : yo = xo
        · subst hxy
          by_cases hvv : yv = xv
          · subst hvv
            have hnew := Boxed.set (.int .i64 ((pre.length : Int) + 1)) f3
            have hks := one_keeps' W (w.heap.size + 3) 0 (.int .i64 ((pre.length : Int) + 1))
            have hF' : FrAt _ w.heap.size (.slice (some ⟨ab, ao, none⟩) L.length cap) stop (pre.length + 1) := hF.keep hks (pre.length + 1) (by simpa using hnew)
            have hk' := hk.then hks (by rintro c rfl; right; omega)
            have hkS : KeepS W (W.setCell ⟨w.heap.size + 3, 0, none⟩ (.int .i64 ((pre.length : Int) + 1))) := keepS_box f3 (by decide) (by decide) _
            have hpre' : pre ++ [((⟨yo, hyo⟩, yv) : El)] <+: H' := by
              refine prefix_get_snoc hpre ?_
              obtain ⟨tt, htt⟩ := hHp
              have := HGET.out
              rw [← htt, List.getElem?_append_left (by omega)] at this
              exact this
            generalize hWn : W.setCell ⟨w.heap.size + 3, 0, none⟩ (.int .i64 ((pre.length : Int) + 1)) = Wn at *
            have n0 := hF'.l.cell
            have n1 := hF'.s.cell
            have n3 := hF'.n.cell
            have HN := Hid.mk' (And.intro hF' (And.intro hk' (And.intro hkS hpre')))
            have HKO : Hid (KeepsOthers W Wn) := by rw [← hWn]; exact KeepsOthers.setCell _ _ _
            clear hnew hks hF' hk' hkS hpre' hF
            by_cases hend : pre.length + 1 = L.length
            · have hend' : ((pre.length : Int) + 1 == ((L.length : Nat) : Int)) = true := by simp; omega
              have HEND := Hid.mk' hend
              clear hend
              gi_wp2
              exact ⟨HKO.out.from _, HN.out.2.2.1, ⟨by simpa using HN.out.1, ⟨by rw [hH]; exact HN.out.2.2.2, fun h0 => by omega⟩, HN.out.2.1⟩⟩
            · have hend' : ((pre.length : Int) + 1 == ((L.length : Nat) : Int)) = false := by simp; omega
              gi_wp2
              exact ⟨HKO.out.from _, HN.out.2.2.1, ⟨by simpa using HN.out.1, ⟨by rw [hH]; exact HN.out.2.2.2, fun h0 => by rw [hH]; left; simp; omega⟩, HN.out.2.1⟩⟩
          · have hvb : (yv == xv) = false := by simpa using hvv
            have hvb2 : (yv != xv) = true := by simpa using hvv
            gi_wp2
            exact ⟨(KeepsOthers.setCell _ _ _).from _, .inl ⟨rfl, HMIS.out (by intro e; cases e; exact hvv rfl)⟩⟩
        · have hxb : ((yo : Int) == (xo : Int)) = false := by simpa using fun e => hxy (by omega)
          gi_wp2
          exact ⟨(KeepsOthers.setCell _ _ _).from _, .inl ⟨rfl, HMIS.out (by intro e; cases e; exact hxy rfl)⟩⟩
    case done =>
      rintro D ys W hD hys ⟨hF, ⟨hpre, _⟩, hk⟩ hK
      obtain rfl : L = ys := hys.symm
      rw [hH] at hpre
      have hm : L.length = L.length := by have h1 := hpre.length_le; have h2 := hHp.length_le; omega
      have hm' : ((L.length : Int) == ((L.length : Nat) : Int)) = true := by simp <;> omega
      obtain ⟨f0, f1, f2, f3⟩ := hF
      have d0 := f0.cell
      have d2 := f2.cell
      have d3 := f3.cell
      have e2 := f2.frozen
      have hK2 : (W.setCell ⟨w.heap.size + 2, 0, none⟩ (.bool true)).heap[D]? = some (.deferred (some [])) := (KeepsOthers.setCell W _ _).same D _ hK rfl
      have hr2 := Boxed.set (.bool true) f2
      have hks := (one_keeps' W (w.heap.size + 2) 0 (.bool true))
      have hkk := hk.then hks (by rintro c rfl; right; omega)
      have hDw : w.heap.size ≤ D := Nat.le_trans hK0.size hD
      have hne : w.heap.size + 2 ≠ D := by rintro rfl; have hh := (show W.heap[w.heap.size + 2]? = _ from f2).symm.trans hK; cases hh
      have hcell : ((W.setCell ⟨w.heap.size + 2, 0, none⟩ (.bool true)).putObj D (.deferred none)).cell? ⟨w.heap.size + 2, 0, none⟩ = some (.bool true) := (show Boxed _ _ _ _ from (World.putObj_heap_other hne).trans hr2).cell
      have hfin := hkk.step (grownBy_putObj' (W.setCell ⟨w.heap.size + 2, 0, none⟩ (.bool true)) D (.deferred none)) (by rintro k hk'; cases hk'; exact .inr hDw)
      have HFIN := Hid.mk' (And.intro hK2 hfin)
      clear hK2 hfin hkk hks hr2
      gi_wp2
      refine ⟨by simp, .inl ⟨_, _, rfl, run_takeDeferred HFIN.out.1, ?_⟩⟩
      exact ⟨.bool true, by simp [results, Try.results9, go_sem, hcell], rfl, HFIN.out.2⟩
    case halt =>
      rintro D c pre W hD hSp hX hK
      rcases hX with ⟨rfl, hbad⟩ | ⟨rfl, hF, hk⟩
      · exact absurd hSp hbad
      · rw [hH, hHlen] at hF
        have hm' : ((((L.length : Nat) : Int)) == ((L.length : Nat) : Int)) = true := by simp
        obtain ⟨f0, f1, f2, f3⟩ := hF
        have d0 := f0.cell
        have d2 := f2.cell
        have d3 := f3.cell
        have e2 := f2.frozen
        have hK2 : (W.setCell ⟨w.heap.size + 2, 0, none⟩ (.bool true)).heap[D]? = some (.deferred (some [])) := (KeepsOthers.setCell W _ _).same D _ hK rfl
        have hr2 := Boxed.set (.bool true) f2
        have hks := (one_keeps' W (w.heap.size + 2) 0 (.bool true))
        have hkk := hk.then hks (by rintro c rfl; right; omega)
        have hDw : w.heap.size ≤ D := Nat.le_trans hK0.size hD
        have hne : w.heap.size + 2 ≠ D := by rintro rfl; have hh := (show W.heap[w.heap.size + 2]? = _ from f2).symm.trans hK; cases hh
        have hcell : ((W.setCell ⟨w.heap.size + 2, 0, none⟩ (.bool true)).putObj D (.deferred none)).cell? ⟨w.heap.size + 2, 0, none⟩ = some (.bool true) := (show Boxed _ _ _ _ from (World.putObj_heap_other hne).trans hr2).cell
        have hfin := hkk.step (grownBy_putObj' (W.setCell ⟨w.heap.size + 2, 0, none⟩ (.bool true)) D (.deferred none)) (by rintro k hk'; cases hk'; exact .inr hDw)
        have HFIN := Hid.mk' (And.intro hK2 hfin)
        clear hK2 hfin hkk hks hr2
        gi_wp2
        refine ⟨by simp, .inl ⟨_, _, rfl, run_takeDeferred HFIN.out.1, ?_⟩⟩
        exact ⟨.bool true, by simp [results, Try.results9, go_sem, hcell], rfl, HFIN.out.2⟩

end Go.Proofs.Ytndojlacdggfcac
