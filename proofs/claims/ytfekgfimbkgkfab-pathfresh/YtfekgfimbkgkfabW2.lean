import Derived.Test.YtfekgfimbkgkfabW1
import Derived.Test.YtfekgfimbkgkfabZ2
import Derived.Deep.CutRange
namespace Go.Proofs.Ytfekgfimbkgkfab
open Go.RowKit Go.Maps

theorem Row.keepZ {A C : World} {X : Nat → Prop} {v : Value} {n : Nat} {xs : List Value} (h : Row A v n xs) (hk : Keeps X A C) (hx : ∀ g, v.ownBlock = some g → 0 < n → ¬ X g) : Row C v n xs := by
  obtain ⟨a, cap, rfl, hc, h⟩ := h
  refine ⟨a, cap, rfl, hc, fun h0 => ?_⟩
  obtain ⟨b, o, rfl, hb, hc⟩ := h h0
  exact ⟨b, o, rfl, Nat.lt_of_lt_of_le hb hk.size, fun j u hu => hk.cell (hc j u hu) (hx b rfl h0)⟩
def mkV : Value := .string ⟨#[109, 97, 114, 107]⟩
/-- What PathFresh holds behind the first append. -/
structure FG (w : World) (vq : Value) (q : List ByteArray) (sq : Bool) (P : List ByteArray) (B : Bool) (bp g2 cap2 : Nat) (vp : Value) (br : Nat) (vr : Value) (bk : Nat) (vk : Value) (W : World) : Prop where
  kp : Keeps (fun _ => False) w W
  qb : PB W w.heap.size vq q sq
  pb : W.heap[bp]? = some (.cells #[.slice (some ⟨g2, 0, none⟩) (P.length + 1) cap2, .bool B] 25 (0, 0))
  new : ∀ j, j < P.length → W.cell? ⟨g2, j, none⟩ = some mkV
  old : Row W vp P.length (List.replicate P.length mkV)
  rb : PB W br vr P B
  kb : PB W bk vk P B
theorem FG.keep {w : World} {vq : Value} {q : List ByteArray} {sq : Bool} {P : List ByteArray} {B : Bool} {bp g2 cap2 : Nat} {vp : Value} {br : Nat} {vr : Value} {bk : Nat} {vk : Value} {W W' : World} (h : FG w vq q sq P B bp g2 cap2 vp br vr bk vk W) (k : Keeps (fun _ => False) W W') : FG w vq q sq P B bp g2 cap2 vp br vr bk vk W' :=
  ⟨h.kp.trans k, h.qb.keep k, k.at h.pb id, fun j hj => k.cell (h.new j hj) id, h.old.keep k, h.rb.keep k, h.kb.keep k⟩
/-- What PathFresh's first half holds. -/
structure FH (w : World) (vq : Value) (q : List ByteArray) (sq : Bool) (P : List ByteArray) (B : Bool) (bp : Nat) (vp : Value) (xs : List Value) (br : Nat) (vr : Value) (bk : Nat) (vk : Value) (s2 : Nat) (W : World) : Prop where
  kp : Keeps (fun _ => False) w W
  qb : PB W w.heap.size vq q sq
  qr : ∀ g, vq.ownBlock = some g → 0 < q.length → g < w.heap.size
  pb : BR W bp w.heap.size vp xs P.length B
  rb : BR W br s2 vr (strs P) P.length B
  kb : BR W bk s2 vk (strs P) P.length B
  lt : ∀ g, vp.ownBlock = some g → g < s2
  ne : w.heap.size < bp ∧ bp < br ∧ br < bk
theorem FH.keep {w : World} {vq : Value} {q : List ByteArray} {sq : Bool} {P : List ByteArray} {B : Bool} {bp : Nat} {vp : Value} {xs : List Value} {br : Nat} {vr : Value} {bk : Nat} {vk : Value} {s2 : Nat} {W W' : World} (h : FH w vq q sq P B bp vp xs br vr bk vk s2 W) (k : Keeps (fun _ => False) W W') : FH w vq q sq P B bp vp xs br vr bk vk s2 W' :=
  ⟨h.kp.trans k, h.qb.keep k, h.qr, h.pb.keep k, h.rb.keep k, h.kb.keep k, h.lt, h.ne⟩
/-- .. where its list is written. -/
theorem FH.write {w : World} {vq : Value} {q : List ByteArray} {sq : Bool} {P : List ByteArray} {B : Bool} {bp : Nat} {vp : Value} {xs : List Value} {br : Nat} {vr : Value} {bk : Nat} {vk : Value} {s2 : Nat} {W : World} (h : FH w vq q sq P B bp vp xs br vr bk vk s2 W) {g : Nat} (hg : vp.ownBlock = some g) (j : Nat) (u : Value) : FH w vq q sq P B bp vp (xs.set j u) br vr bk vk s2 (W.setCell ⟨g, j, none⟩ u) := by
  have k := set1k W g j u
  have hge := (h.pb.own.lt g hg).1
  have hlt := h.lt g hg
  refine ⟨h.kp.then k (fun c hc => Or.inr (by omega)), ⟨k.at h.qb.box (h.pb.ne h.qb.box g hg), h.qb.row.keepZ k (fun c hc h0 e => by have := h.qr c hc h0; omega)⟩, h.qr, ⟨k.at h.pb.box (h.pb.ne h.pb.box g hg), ownsRow_set h.pb.own hg j u⟩, h.rb.keepX k (h.pb.ne h.rb.box g hg) (fun c hc e => by have := (h.rb.own.lt c hc).1; omega), h.kb.keepX k (h.pb.ne h.kb.box g hg) (fun c hc e => by have := (h.kb.own.lt c hc).1; omega), h.lt, h.ne⟩

theorem FH.append {w : World} {vq : Value} {q : List ByteArray} {sq : Bool} {P : List ByteArray} {B : Bool} {bp : Nat} {vp : Value} {xs : List Value} {br : Nat} {vr : Value} {bk : Nat} {vk : Value} {s2 : Nat} {W W1 : World} {u : Value} {g2 cap2 H : Nat} (h : FH w vq q sq P B bp vp xs br vr bk vk s2 W) (hu : upTo mkV xs P.length)
    (hown : W1.ownsRow w.heap.size 9 1 (.slice (some ⟨g2, 0, none⟩) (P.length + 1) cap2) (P.length + 1) (xs ++ [u])) (hgr : W.grownBy W1 vp.ownBlock) (h4 : vp.ownBlock = some g2 ∨ (g2 = H ∧ W.grownBy W1 none)) :
    FG w vq q sq P B bp g2 cap2 vp br vr bk vk (W1.setCell ⟨bp, 0, none⟩ (.slice (some ⟨g2, 0, none⟩) (P.length + 1) cap2)) ∧ W1.heap[bp]? = some (.cells #[vp, .bool B] 25 (0, 0)) := by
  have hxl : xs.length = P.length := by have := h.pb.own.1; rw [Nat.mul_one] at this; exact this
  have k1 : Keeps (fun k => vp.ownBlock = some k) W W1 := Keeps.of hgr (fun k hk => Or.inl hk)
  have hb1 := k1.at h.pb.box (fun hg => h.pb.ne h.pb.box bp hg rfl)
  have k2 := set1k W1 bp 0 (.slice (some ⟨g2, 0, none⟩) (P.length + 1) cap2)
  have hq1 : PB W1 w.heap.size vq q sq := ⟨k1.at h.qb.box (fun hg => h.pb.ne h.qb.box w.heap.size hg rfl), h.qb.row.keepZ k1 (fun c hc h0 e => by have := h.qr c hc h0; have := (h.pb.own.lt c e).1; omega)⟩
  have hr1 := h.rb.keepX k1 (fun hg => h.pb.ne h.rb.box br hg rfl) (fun c hc e => by have := (h.rb.own.lt c hc).1; have := h.lt c e; omega)
  have hk1 := h.kb.keepX k1 (fun hg => h.pb.ne h.kb.box bk hg rfl) (fun c hc e => by have := (h.kb.own.lt c hc).1; have := h.lt c e; omega)
  have hng : ¬ g2 = bp := fun e => own_nx hown hb1 (by decide) (by rw [← e]; rfl)
  obtain ⟨n1, n2, n3⟩ := h.ne
  refine ⟨⟨(h.kp.then k1 (fun c hc => Or.inr (h.pb.own.lt c hc).1)).then k2 (fun c hc => Or.inr (by omega)), ⟨k2.at hq1.box (by omega), hq1.row.keepZ k2 (fun c hc h0 e => by have := h.qr c hc h0; omega)⟩, ?_, ?_, ?_, (hr1.keepX k2 (by omega) (fun c hc e => by subst e; exact own_nx hr1.own hb1 (by decide) hc)).pb, (hk1.keepX k2 (by omega) (fun c hc e => by subst e; exact own_nx hk1.own hb1 (by decide) hc)).pb⟩, hb1⟩
  · have := setCell_block (a := ⟨bp, 0, none⟩) (v := .slice (some ⟨g2, 0, none⟩) (P.length + 1) cap2) hb1 rfl
    simpa using this
  · intro j hj
    refine k2.cell (own_cell hown rfl ?_) hng
    rw [List.getElem?_append_left (by omega)]
    exact hu j hj
  · obtain ⟨va, vc, rfl, hvc, _⟩ := Row.of_own h.pb.own
    refine ⟨va, vc, rfl, hvc, fun h0 => ?_⟩
    obtain ⟨g, rfl⟩ := row_some h.pb.own h0
    have hgb : ¬ g = bp := fun e => by subst e; exact h.pb.ne h.pb.box g rfl rfl
    refine ⟨g, 0, rfl, Nat.lt_of_lt_of_le (Nat.lt_of_lt_of_le (h.pb.own.lt g rfl).2 k1.size) k2.size, fun j u' hj => ?_⟩
    rw [List.getElem?_replicate] at hj
    split at hj
    · rename_i hj2
      cases hj
      rw [Nat.zero_add]
      exact k2.cell (stay_cell h.pb.own hown h4 rfl j mkV (hu j hj2)) hgb
    · cases hj

theorem Row.lt {W : World} {v : Value} {n : Nat} {xs : List Value} (h : Row W v n xs) : ∀ g, v.ownBlock = some g → 0 < n → g < W.heap.size := by
  intro g hg h0
  obtain ⟨a, cap, rfl, _, h⟩ := h
  obtain ⟨b, o, rfl, hb, _⟩ := h h0
  cases hg; exact hb
theorem PB.keepB {A W : World} {b : Nat} {v : Value} {p : List ByteArray} {sl : Bool} (h : PB A b v p sl) (k : Keeps (fun c => A.heap.size ≤ c) A W) : PB W b v p sl :=
  ⟨k.at h.box (by have := heap_lt h.box; omega), h.row.keepZ k (fun g hg h0 e => by have := h.row.lt g hg h0; omega)⟩
def otV : Value := .string ⟨#[111, 116, 104, 101, 114]⟩
/-- What PathFresh's second half holds over the world A ahead of it. -/
structure SF (A : World) (C : List ByteArray) (S : Bool) (ba : Nat) (va : Value) (xs : List Value) (b2 : Nat) (vb : Value) (bc : Nat) (vc : Value) (s3 s4 : Nat) (W : World) : Prop where
  kp : Keeps (fun c => A.heap.size ≤ c) A W
  ab : BR W ba A.heap.size va xs C.length S
  bb : BR W b2 s3 vb (strs C) C.length S
  cb : BR W bc s4 vc (strs C) C.length S
  lt : ∀ g, va.ownBlock = some g → g < s3
  lt2 : ∀ g, vb.ownBlock = some g → g < s4
  ne : A.heap.size ≤ ba ∧ ba < b2 ∧ b2 < bc ∧ s3 ≤ s4 ∧ A.heap.size ≤ s3
theorem SF.keep {A : World} {C : List ByteArray} {S : Bool} {ba : Nat} {va : Value} {xs : List Value} {b2 : Nat} {vb : Value} {bc : Nat} {vc : Value} {s3 s4 : Nat} {W W' : World} (h : SF A C S ba va xs b2 vb bc vc s3 s4 W) (k : Keeps (fun _ => False) W W') : SF A C S ba va xs b2 vb bc vc s3 s4 W' :=
  ⟨h.kp.trans (k.mono (fun _ _ h => h.elim)), h.ab.keep k, h.bb.keep k, h.cb.keep k, h.lt, h.lt2, h.ne⟩
theorem SF.write {A : World} {C : List ByteArray} {S : Bool} {ba : Nat} {va : Value} {xs : List Value} {b2 : Nat} {vb : Value} {bc : Nat} {vc : Value} {s3 s4 : Nat} {W : World} (h : SF A C S ba va xs b2 vb bc vc s3 s4 W) {g : Nat} (hg : va.ownBlock = some g) (j : Nat) (u : Value) : SF A C S ba va (xs.set j u) b2 vb bc vc s3 s4 (W.setCell ⟨g, j, none⟩ u) := by
  have k := set1k W g j u
  have hge := (h.ab.own.lt g hg).1
  have hlt := h.lt g hg
  obtain ⟨_, _, _, h34, _⟩ := h.ne
  refine ⟨h.kp.trans (k.mono (fun c _ hc => by omega)), ⟨k.at h.ab.box (h.ab.ne h.ab.box g hg), ownsRow_set h.ab.own hg j u⟩, h.bb.keepX k (h.ab.ne h.bb.box g hg) (fun c hc e => by have := (h.bb.own.lt c hc).1; omega), h.cb.keepX k (h.ab.ne h.cb.box g hg) (fun c hc e => by have := (h.cb.own.lt c hc).1; omega), h.lt, h.lt2, h.ne⟩
/-- .. behind the second append. -/
structure SG (A : World) (C : List ByteArray) (S : Bool) (ba g3 cap3 : Nat) (va : Value) (b2 : Nat) (vb : Value) (ys : List Value) (bc : Nat) (vc : Value) (s3 s4 : Nat) (W : World) : Prop where
  kp : Keeps (fun c => A.heap.size ≤ c) A W
  ab : W.heap[ba]? = some (.cells #[.slice (some ⟨g3, 0, none⟩) (C.length + 1) cap3, .bool S] 25 (0, 0))
  new : ∀ j, j < C.length → W.cell? ⟨g3, j, none⟩ = some otV
  old : Row W va C.length (List.replicate C.length otV)
  bb : BR W b2 s3 vb ys C.length S
  cb : BR W bc s4 vc (strs C) C.length S
  nb : ∀ g, vb.ownBlock = some g → ¬ g = g3
  lt : ∀ g, va.ownBlock = some g → g < s3
  lt2 : ∀ g, vb.ownBlock = some g → g < s4
  as3 : A.heap.size ≤ s3
theorem SG.keep {A : World} {C : List ByteArray} {S : Bool} {ba g3 cap3 : Nat} {va : Value} {b2 : Nat} {vb : Value} {ys : List Value} {bc : Nat} {vc : Value} {s3 s4 : Nat} {W W' : World} (h : SG A C S ba g3 cap3 va b2 vb ys bc vc s3 s4 W) (k : Keeps (fun _ => False) W W') : SG A C S ba g3 cap3 va b2 vb ys bc vc s3 s4 W' :=
  ⟨h.kp.trans (k.mono (fun _ _ h => h.elim)), k.at h.ab id, fun j hj => k.cell (h.new j hj) id, h.old.keep k, h.bb.keep k, h.cb.keep k, h.nb, h.lt, h.lt2, h.as3⟩
theorem SG.write {A : World} {C : List ByteArray} {S : Bool} {ba g3 cap3 : Nat} {va : Value} {b2 : Nat} {vb : Value} {ys : List Value} {bc : Nat} {vc : Value} {s3 s4 : Nat} {W : World} (h : SG A C S ba g3 cap3 va b2 vb ys bc vc s3 s4 W) {g : Nat} (hg : vb.ownBlock = some g) (j : Nat) (u : Value) : SG A C S ba g3 cap3 va b2 vb (ys.set j u) bc vc s3 s4 (W.setCell ⟨g, j, none⟩ u) := by
  have k := set1k W g j u
  have hge := (h.bb.own.lt g hg).1
  have h1 := h.as3
  have h2 := h.lt2 g hg
  have h3 := h.nb g hg
  refine ⟨h.kp.trans (k.mono (fun c _ hc => by omega)), k.at h.ab (h.bb.ne h.ab g hg), fun i hi => k.cell (h.new i hi) (by show ¬ g3 = g; omega), h.old.keepZ k (fun c hc h0 e => by have := h.lt c hc; omega), ⟨k.at h.bb.box (h.bb.ne h.bb.box g hg), ownsRow_set h.bb.own hg j u⟩, h.cb.keepX k (h.bb.ne h.cb.box g hg) (fun c hc e => by have := (h.cb.own.lt c hc).1; omega), h.nb, h.lt, h.lt2, h.as3⟩
theorem SF.append {A : World} {C : List ByteArray} {S : Bool} {ba : Nat} {va : Value} {xs : List Value} {b2 : Nat} {vb : Value} {bc : Nat} {vc : Value} {s3 s4 : Nat} {W W1 : World} {u : Value} {g3 cap3 : Nat} (h : SF A C S ba va xs b2 vb bc vc s3 s4 W) (hu : upTo otV xs C.length)
    (hown : W1.ownsRow A.heap.size 9 1 (.slice (some ⟨g3, 0, none⟩) (C.length + 1) cap3) (C.length + 1) (xs ++ [u])) (hgr : W.grownBy W1 va.ownBlock) (h4 : va.ownBlock = some g3 ∨ (g3 = W.heap.size ∧ W.grownBy W1 none)) :
    SG A C S ba g3 cap3 va b2 vb (strs C) bc vc s3 s4 (W1.setCell ⟨ba, 0, none⟩ (.slice (some ⟨g3, 0, none⟩) (C.length + 1) cap3)) ∧ W1.heap[ba]? = some (.cells #[va, .bool S] 25 (0, 0)) := by
  have hxl : xs.length = C.length := by have := h.ab.own.1; rw [Nat.mul_one] at this; exact this
  obtain ⟨n1, n2, n3, n4, n5⟩ := h.ne
  have k1 : Keeps (fun k => va.ownBlock = some k) W W1 := Keeps.of hgr (fun k hk => Or.inl hk)
  have hb1 := k1.at h.ab.box (fun hg => h.ab.ne h.ab.box ba hg rfl)
  have k2 := set1k W1 ba 0 (.slice (some ⟨g3, 0, none⟩) (C.length + 1) cap3)
  have hr1 := h.bb.keepX k1 (fun hg => h.ab.ne h.bb.box b2 hg rfl) (fun c hc e => by have := (h.bb.own.lt c hc).1; have := h.lt c e; omega)
  have hk1 := h.cb.keepX k1 (fun hg => h.ab.ne h.cb.box bc hg rfl) (fun c hc e => by have := (h.cb.own.lt c hc).1; have := h.lt c e; omega)
  have hng : ¬ g3 = ba := fun e => own_nx hown hb1 (by decide) (by rw [← e]; rfl)
  refine ⟨⟨(h.kp.trans (k1.mono (fun c _ hc => (h.ab.own.lt c hc).1))).trans (k2.mono (fun c _ hc => by omega)), ?_, ?_, ?_, hr1.keepX k2 (by omega) (fun c hc e => by subst e; exact own_nx hr1.own hb1 (by decide) hc), hk1.keepX k2 (by omega) (fun c hc e => by subst e; exact own_nx hk1.own hb1 (by decide) hc), ?_, h.lt, h.lt2, n5⟩, hb1⟩
  · have := setCell_block (a := ⟨ba, 0, none⟩) (v := .slice (some ⟨g3, 0, none⟩) (C.length + 1) cap3) hb1 rfl
    simpa using this
  · intro j hj
    refine k2.cell (own_cell hown rfl ?_) hng
    rw [List.getElem?_append_left (by omega)]
    exact hu j hj
  · obtain ⟨va', vc', rfl, hvc, _⟩ := Row.of_own h.ab.own
    refine ⟨va', vc', rfl, hvc, fun h0 => ?_⟩
    obtain ⟨g, rfl⟩ := row_some h.ab.own h0
    have hgb : ¬ g = ba := fun e => by subst e; exact h.ab.ne h.ab.box g rfl rfl
    refine ⟨g, 0, rfl, Nat.lt_of_lt_of_le (Nat.lt_of_lt_of_le (h.ab.own.lt g rfl).2 k1.size) k2.size, fun j u' hj => ?_⟩
    rw [List.getElem?_replicate] at hj
    split at hj
    · rename_i hj2
      cases hj
      rw [Nat.zero_add]
      exact k2.cell (stay_cell h.ab.own hown h4 rfl j otV (hu j hj2)) hgb
    · cases hj
  · intro g hg e
    rcases h4 with h4 | ⟨h4, _⟩
    · have := h.lt g3 h4
      have := (h.bb.own.lt g hg).1
      omega
    · have := (h.bb.own.lt g hg).2
      omega

set_option maxHeartbeats 8000000 in
set_option maxRecDepth 100000 in
theorem fresh_walk (w : World) (t : ByteArray) (ht : t.size ≤ 140737488355328) (vq : Value) (q : List ByteArray) (sq : Bool) (hq : Row w vq q.length (strs q)) (hk : PsOk q) :
    Calls Try.prog 5 #[.string t, .agg #[vq, .bool sq]] w fun e w' => e = .returned (.bool true) ∧ Keeps (fun _ => False) w w' := by
  have H0 : Hid (Keeps (fun _ => False) w (w.alloc (.cells #[vq, .bool sq] 25)) ∧ PB (w.alloc (.cells #[vq, .bool sq] 25)) w.heap.size vq q sq) := ⟨(Keeps.refl _ w).alloc _, heap_last _ _, hq.keep ((Keeps.refl _ w).alloc _)⟩
  have h10 := first_any (w.alloc (.cells #[vq, .bool sq] 25))
  have h18 := fun w1 => parse_any w1 t (by omega)
  have hPo := prsP_ok (t := t.data.toList)
  have hP2 := prsP_len t.data.toList
  have HK : Hid (PsOk q) := hk
  obtain ⟨qa, qc, rfl, hqc, hqr⟩ := id hq
  have HQR : Hid (∀ g, (Value.slice qa q.length qc).ownBlock = some g → 0 < q.length → g < w.heap.size) := fun g hg h0 => by
    obtain ⟨b, o, e, hb, _⟩ := hqr h0
    subst e; cases hg; exact hb
  clear hq hk hqr
  generalize prsP t.data.toList = P at h18 hPo hP2
  generalize prsS t.data.toList = B at h18
  generalize prsE t.data.toList = E at h18
  have HPo := Hid.mk' hPo
  have hPl := hPo.1
  clear hPo
  have h18a := h18
  go_enter Try.func5, Try.ntmps5
  go_wp2_with (first
    | (go_at_call 10; refine h10.mono ?_; clear h10; rintro e w1 ⟨rfl, hk1⟩
       have H1 := Hid.mk' (And.intro (H0.out.1.trans hk1) (H0.out.2.keep hk1))
       clear hk1)
    | (go_at_call 18; refine (h18a _).mono ?_; clear h18a; rintro e w2 ⟨rp, rfl, H2⟩
       obtain ⟨pa, pc, er, _⟩ := Row.of_own H2.out.1
       subst er
       have ha2 : Keeps (fun _ => False) w1 (w2.alloc (.cells #[.slice pa P.length pc, .bool B] 25)) := H2.out.2.alloc _
       have HA2 := Hid.mk' (And.intro (H1.out.1.trans ha2) (H1.out.2.keep ha2))
       have HP2 : Hid (BR (w2.alloc (.cells #[.slice pa P.length pc, .bool B] 25)) w2.heap.size w.heap.size (.slice pa P.length pc) (strs P) P.length B ∧ (∀ g, (Value.slice pa P.length pc).ownBlock = some g → g < w2.heap.size + 1)) := ⟨⟨heap_last _ _, own_base (own_grow H2.out.1 ((Keeps.refl _ w2).alloc _)) H1.out.1.size⟩, fun g hg => Nat.lt_succ_of_lt (H2.out.1.lt g hg).2⟩
       have h18b := h18
       have HZ2 : Hid (w.heap.size < w2.heap.size) := by { show _ < _; have := H2.out.2.size; have := heap_lt H1.out.2.box; omega }
       clear H2 ha2)
    | (go_at_call 18; refine (h18b _).mono ?_; clear h18b; rintro e w3 ⟨rr, rfl, H3⟩
       obtain ⟨ra, rc, er, _⟩ := Row.of_own H3.out.1
       subst er
       have ha3 : Keeps (fun _ => False) (w2.alloc (.cells #[.slice pa P.length pc, .bool B] 25)) (w3.alloc (.cells #[.slice ra P.length rc, .bool B] 25)) := H3.out.2.alloc _
       have HA3 := Hid.mk' (And.intro (HA2.out.1.trans ha3) (HA2.out.2.keep ha3))
       have HP3 := Hid.mk' (HP2.out.1.keep ha3)
       have HR3 : Hid (BR (w3.alloc (.cells #[.slice ra P.length rc, .bool B] 25)) w3.heap.size (w2.heap.size + 1) (.slice ra P.length rc) (strs P) P.length B) := ⟨heap_last _ _, by have := own_grow H3.out.1 ((Keeps.refl (fun _ => False) w3).alloc (.cells #[.slice ra P.length rc, .bool B] 25)); rw [World.size_alloc] at this; exact this⟩
       have z0 := HP3.out.c0
       have z1 := HP3.out.c1
       have z2 := HR3.out.c0
       have z3 := HR3.out.c1
       have h13 := same_any _ _ _ P P B B HP3.out.pb.row HR3.out.pb.row hPl
       rw [show decide (P = P ∧ B = B) = true by simp] at h13
       have HZ3 : Hid (w2.heap.size < w3.heap.size) := by { show _ < _; have := H3.out.2.size; rw [World.size_alloc] at this; omega }
       clear H3 ha3)
    | (go_at_call 13; refine h13.mono ?_; clear h13; rintro e w4 ⟨rfl, hk4⟩
       have HA4 := Hid.mk' (And.intro (HA3.out.1.trans hk4) (HA3.out.2.keep hk4))
       have HP4 := Hid.mk' (HP3.out.keep hk4)
       have HR4 := Hid.mk' (HR3.out.keep hk4)
       have y0 := HP4.out.c0
       have y1 := HP4.out.c1
       have h19 := copyPath_any w4 _ P B HP4.out.pb.row hPl
       have HZ4 : Hid (w3.heap.size < w4.heap.size) := by { show _ < _; have := hk4.size; rw [World.size_alloc] at this; omega }
       clear hk4)
    | (go_at_call 19; refine h19.mono ?_; clear h19; rintro e w5 ⟨rk, rfl, H5⟩
       obtain ⟨ka, kc, er, _⟩ := Row.of_own H5.out.1
       subst er
       have ha5 : Keeps (fun _ => False) w4 (w5.alloc (.cells #[.slice ka P.length kc, .bool B] 25)) := H5.out.2.alloc _
       have HF : Hid (Keeps (fun _ => False) w (w5.alloc (.cells #[.slice ka P.length kc, .bool B] 25)) ∧ PB (w5.alloc (.cells #[.slice ka P.length kc, .bool B] 25)) w.heap.size (.slice qa q.length qc) q sq ∧ BR (w5.alloc (.cells #[.slice ka P.length kc, .bool B] 25)) w2.heap.size w.heap.size (.slice pa P.length pc) (strs P) P.length B ∧ BR (w5.alloc (.cells #[.slice ka P.length kc, .bool B] 25)) w3.heap.size (w2.heap.size + 1) (.slice ra P.length rc) (strs P) P.length B ∧ BR (w5.alloc (.cells #[.slice ka P.length kc, .bool B] 25)) w5.heap.size (w2.heap.size + 1) (.slice ka P.length kc) (strs P) P.length B) := ⟨HA4.out.1.trans ha5, HA4.out.2.keep ha5, HP4.out.keep ha5, HR4.out.keep ha5, ⟨heap_last _ _, own_base (own_grow H5.out.1 ((Keeps.refl _ w5).alloc _)) (by have := heap_lt HP4.out.box; omega)⟩⟩
       have HZ5 : Hid (w3.heap.size < w5.heap.size) := by { show _ < _; have := H5.out.2.size; have := HZ4.out; omega }
       clear H5 ha5))
  obtain ⟨A5, hA5⟩ : ∃ A5, A5 = w5.alloc (.cells #[.slice ka P.length kc, .bool B] 25) := ⟨_, rfl⟩
  rw [← hA5] at HF
  have HFH : Hid (FH w (.slice qa q.length qc) q sq P B w2.heap.size (.slice pa P.length pc) (strs P) w3.heap.size (.slice ra P.length rc) w5.heap.size (.slice ka P.length kc) (w2.heap.size + 1) A5) := by
    obtain ⟨f1, f2, f3, f4, f5⟩ := HF.out
    exact ⟨f1, f2, HQR.out, f3, f4, f5, HP2.out.2, HZ2.out, HZ3.out, HZ5.out⟩
  clear HF HP2 HP3 HP4 HR3 HR4 HA2 HA3 HA4 H1 H0 HQR y0 y1 z0 z1 z2 z3
  go_loopw [10] (fun i wr => ∃ k : Nat, k ≤ P.length ∧ i = .int .i64 k ∧ Hid (∃ xs, FH w (.slice qa q.length qc) q sq P B w2.heap.size (.slice pa P.length pc) xs w3.heap.size (.slice ra P.length rc) w5.heap.size (.slice ka P.length kc) (w2.heap.size + 1) wr ∧ upTo mkV xs k)) (fun i _ => P.length - (intOf i).toNat)
  case atStart => exact ⟨0, Nat.zero_le _, rfl, strs P, by rw [← hA5]; exact HFH.out, fun i hi => absurd hi (by omega)⟩
  case round =>
    obtain ⟨k, hk, rfl, HI⟩ := hrel
    clear HFH hA5
    obtain ⟨xs, hF, hU⟩ := HI.out
    have x0 := hF.pb.c0
    have x1 := hF.pb.c1
    have hxl : xs.length = P.length := by have := hF.pb.own.1; rw [Nat.mul_one] at this; exact this
    clear HI
    by_cases h1 : k < P.length
    · have h1' : (k : Int) < (P.length : Int) := by omega
      obtain ⟨g, rfl⟩ := row_some hF.pb.own (by omega)
      have z0 := own_cell hF.pb.own rfl (List.getElem?_eq_getElem (show k < xs.length by omega))
      obtain ⟨cur, hobj⟩ := row_obj hF.pb.own rfl
      have f0 : wr.frozen? ⟨g, k, none⟩ = false := by simp [World.frozen?, hobj]
      generalize xs[k]'(by omega) = u0 at z0
      have HN : Hid (∃ xs, FH w (.slice qa q.length qc) q sq P B w2.heap.size (.slice (some ⟨g, 0, none⟩) P.length pc) xs w3.heap.size (.slice ra P.length rc) w5.heap.size (.slice ka P.length kc) (w2.heap.size + 1) (wr.setCell ⟨g, k, none⟩ (.string ⟨#[109, 97, 114, 107]⟩)) ∧ upTo mkV xs (k + 1)) := ⟨_, hF.write rfl k _, hU.next (by omega)⟩
      clear hF hU hobj hxl
      go_wp2
      go_roundw
      case rel => exact ⟨k + 1, by omega, by go_num, HN⟩
      case measure => simp [intOf]; omega
    · have h1' : ¬ (k : Int) < (P.length : Int) := by omega
      have ek : k = P.length := by omega
      obtain ⟨i0, hi, hz0, hz1, hz2⟩ := info_parts info9
      have HF := Hid.mk' hF
      have HU : Hid (upTo mkV xs P.length) := by rw [← ek]; exact hU
      have h18c := h18
      have hPl2 : P.length ≤ 1000000 := by omega
      clear hF hU h18
      go_wp2_with (first
        | (at_builtin; refine wpList_append_stay _ rfl _ _ 23 rfl w.heap.size 9 i0 (.string ⟨#[]⟩) 1 16 Try.underlying23 hi hz0 hz1 hz2 rfl (by decide) (.slice pa P.length pc) P.length xs rfl (HF.out.pb.own.alloc _) ⟨wr.heap.size, 0, none⟩ 1 1 [.string ⟨#[109, 111, 114, 101]⟩] rfl rfl (cell_one_new _ _ _) (by simp [Value.oneCell']) (by omega) (by unfold maxLen; omega) (by omega) (by rw [World.size_alloc]; have := HF.out.kp.size; omega) _ rfl ?_; intro g2 cap2 w7 hown hgr h4 hg2
           obtain ⟨hFG, hb7⟩ := (HF.out.keep ((Keeps.refl _ wr).alloc (.cells #[.string ⟨#[109, 111, 114, 101]⟩] 9))).append HU.out hown hgr h4
           obtain ⟨_, _, bf⟩ := cells2 hb7
           have f0 := bf 0
           have HG := Hid.mk' hFG
           clear bf hb7 hown hgr h4 hg2 hFG HF HU)
        | (go_at_call 18; refine (h18c _).mono ?_; clear h18c; rintro e w9 ⟨rs, rfl, H9⟩
           obtain ⟨sa, sc, er, _⟩ := Row.of_own H9.out.1
           subst er
           have ha9 := H9.out.2.alloc (.cells #[.slice sa P.length sc, .bool B] 25)
           have HG9 := Hid.mk' (HG.out.keep ha9)
           have HS9 : Hid (PB (w9.alloc (.cells #[.slice sa P.length sc, .bool B] 25)) w9.heap.size (.slice sa P.length sc) P B) := ⟨heap_last _ _, (Row.of_own H9.out.1).keep ((Keeps.refl _ w9).alloc _)⟩
           have y0 := HG9.out.rb.c0
           have y1 := HG9.out.rb.c1
           have y2 := HG9.out.kb.c0
           have y3 := HG9.out.kb.c1
           have y4 := HS9.out.c0
           have y5 := HS9.out.c1
           have h13b := same_any _ _ _ P P B B HG9.out.rb.row HG9.out.kb.row hPl
           rw [show decide (P = P ∧ B = B) = true by simp] at h13b
           clear H9 ha9)
        | (go_at_call 13; refine h13b.mono ?_; clear h13b; rintro e w10 ⟨rfl, hk10⟩
           have HG10 := Hid.mk' (HG9.out.keep hk10)
           have HS10 := Hid.mk' (HS9.out.keep hk10)
           have y2 := HG10.out.kb.c0
           have y3 := HG10.out.kb.c1
           have y4 := HS10.out.c0
           have y5 := HS10.out.c1
           have h13c := same_any _ _ _ P P B B HS10.out.row HG10.out.kb.row hPl
           rw [show decide (P = P ∧ B = B) = true by simp] at h13c
           clear hk10)
        | (go_at_call 13; refine h13c.mono ?_; clear h13c; rintro e w11 ⟨rfl, hk11⟩
           have HG11 := Hid.mk' (HG10.out.keep hk11)
           clear hk11))
      have hmk : ((⟨#[109, 97, 114, 107]⟩ : ByteArray).toList == (⟨#[109, 97, 114, 107]⟩ : ByteArray).toList) = true := by simp
      go_loopw [14] (fun i wq => ∃ k : Nat, k ≤ P.length ∧ i = .int .i64 k ∧ Hid (FG w (.slice qa q.length qc) q sq P B w2.heap.size g2 cap2 (.slice pa P.length pc) w3.heap.size (.slice ra P.length rc) w5.heap.size (.slice ka P.length kc) wq)) (fun i _ => P.length - (intOf i).toNat)
      case atStart => exact ⟨0, Nat.zero_le _, rfl, HG11⟩
      case round =>
        obtain ⟨j, hj, rfl, HI⟩ := hrel
        clear HG11 HG10 HG9 HG HS9 HS10 y2 y3 y4 y5
        by_cases h3 : j < P.length
        · have h3' : (j : Int) < (P.length : Int) := by omega
          have h3'' : (j : Int) < (P.length : Int) + 1 := by omega
          obtain ⟨b, o, cap', e, hb, hc⟩ := HI.out.old.pos (by omega)
          cases e
          have c1 : wr.cell? ⟨b, o + j, none⟩ = some (.string ⟨#[109, 97, 114, 107]⟩) := hc j _ (by rw [List.getElem?_replicate, if_pos h3]; rfl)
          have c2 : wr.cell? ⟨g2, j, none⟩ = some (.string ⟨#[109, 97, 114, 107]⟩) := HI.out.new j h3
          obtain ⟨c3, c4, _⟩ := cells2 HI.out.pb
          clear hc
          go_wp2
          go_roundw
          case rel => exact ⟨j + 1, by omega, by go_num, HI⟩
          case measure => simp [intOf]; omega
        · have h3' : ¬ (j : Int) < (P.length : Int) := by omega
          have HQ0 := Hid.mk' HI.out.qb
          have hCl := HK.out.clean.1
          have hql := HK.out.1
          have h19q := copyPath_any wr _ q sq HI.out.qb.row hql
          have h11 := fun W hr => clean_any W (.slice qa q.length qc) q sq hr hql HK.out.2
          generalize clP q = C at h11 hCl
          generalize clS q sq = S at h11
          have y0 := HI.out.qb.c0
          have y1 := HI.out.qb.c1
          go_wp2_with (first
            | (go_at_call 19; refine h19q.mono ?_; clear h19q; rintro e w12 ⟨rw_, rfl, H12⟩
               obtain ⟨ua, uc, er, _⟩ := Row.of_own H12.out.1
               subst er
               have ha := H12.out.2.alloc (.cells #[.slice ua q.length uc, .bool sq] 25)
               have HG12 := Hid.mk' (HI.out.keep ha)
               have HW12 : Hid (PB (w12.alloc (.cells #[.slice ua q.length uc, .bool sq] 25)) w12.heap.size (.slice ua q.length uc) q sq) := ⟨heap_last _ _, (Row.of_own H12.out.1).keep ((Keeps.refl _ w12).alloc _)⟩
               have y0 := HG12.out.qb.c0
               have y1 := HG12.out.qb.c1
               have h11a := h11 _ HG12.out.qb.row
               clear H12 ha)
            | (go_at_call 11; refine h11a.mono ?_; clear h11a; rintro e w13 ⟨rz, rfl, H13⟩
               obtain ⟨aa, ac, er, _⟩ := Row.of_own H13.out.1
               subst er
               have ha13 : Keeps (fun _ => False) (w12.alloc (.cells #[.slice ua q.length uc, .bool sq] 25)) (w13.alloc (.cells #[.slice aa C.length ac, .bool S] 25)) := H13.out.2.alloc _
               have HK13 := Hid.mk' ha13
               have HA13 : Hid (BR (w13.alloc (.cells #[.slice aa C.length ac, .bool S] 25)) w13.heap.size (w12.alloc (.cells #[.slice ua q.length uc, .bool sq] 25)).heap.size (.slice aa C.length ac) (strs C) C.length S ∧ (∀ g, (Value.slice aa C.length ac).ownBlock = some g → g < w13.heap.size + 1) ∧ (w12.alloc (.cells #[.slice ua q.length uc, .bool sq] 25)).heap.size ≤ w13.heap.size) := ⟨⟨heap_last _ _, own_grow H13.out.1 ((Keeps.refl _ w13).alloc _)⟩, fun g hg => Nat.lt_succ_of_lt (H13.out.1.lt g hg).2, H13.out.2.size⟩
               have hqb := HG12.out.qb.keep ha13
               have y0 := hqb.c0
               have y1 := hqb.c1
               have h11b := h11 _ hqb.row
               clear H13 ha13 hqb)
            | (go_at_call 11; refine h11b.mono ?_; clear h11b; rintro e w14 ⟨rz, rfl, H14⟩
               obtain ⟨ba, bc, er, _⟩ := Row.of_own H14.out.1
               subst er
               have ha14 : Keeps (fun _ => False) (w13.alloc (.cells #[.slice aa C.length ac, .bool S] 25)) (w14.alloc (.cells #[.slice ba C.length bc, .bool S] 25)) := H14.out.2.alloc _
               have HK14 := Hid.mk' (HK13.out.trans ha14)
               have HA14 := Hid.mk' (HA13.out.1.keep ha14)
               have HB14 : Hid (BR (w14.alloc (.cells #[.slice ba C.length bc, .bool S] 25)) w14.heap.size (w13.heap.size + 1) (.slice ba C.length bc) (strs C) C.length S ∧ (∀ g, (Value.slice ba C.length bc).ownBlock = some g → g < w14.heap.size + 1) ∧ w13.heap.size + 1 ≤ w14.heap.size) := ⟨⟨heap_last _ _, by have := own_grow H14.out.1 ((Keeps.refl (fun _ => False) w14).alloc (.cells #[.slice ba C.length bc, .bool S] 25)); rw [World.size_alloc] at this; exact this⟩, fun g hg => Nat.lt_succ_of_lt (H14.out.1.lt g hg).2, by have := H14.out.2.size; rw [World.size_alloc] at this; exact this⟩
               have y0 := HA14.out.c0
               have y1 := HA14.out.c1
               have h19b := copyPath_any _ _ C S HA14.out.pb.row hCl
               clear H14 ha14)
            | (go_at_call 19; refine h19b.mono ?_; clear h19b; rintro e w15 ⟨rz, rfl, H15⟩
               obtain ⟨ca, cc, er, _⟩ := Row.of_own H15.out.1
               subst er
               have ha15 : Keeps (fun _ => False) (w14.alloc (.cells #[.slice ba C.length bc, .bool S] 25)) (w15.alloc (.cells #[.slice ca C.length cc, .bool S] 25)) := H15.out.2.alloc _
               have HSF : Hid (SF (w12.alloc (.cells #[.slice ua q.length uc, .bool sq] 25)) C S w13.heap.size (.slice aa C.length ac) (strs C) w14.heap.size (.slice ba C.length bc) w15.heap.size (.slice ca C.length cc) (w13.heap.size + 1) (w14.heap.size + 1) (w15.alloc (.cells #[.slice ca C.length cc, .bool S] 25))) := by
                 have m1 := HA13.out.2.2
                 have m2 := HB14.out.2.2
                 have m3 := H15.out.2.size
                 rw [World.size_alloc] at m3
                 refine ⟨(HK14.out.trans ha15).mono (fun _ _ h => h.elim), HA14.out.keep ha15, HB14.out.1.keep ha15, ⟨heap_last _ _, by have := own_grow H15.out.1 ((Keeps.refl (fun _ => False) w15).alloc (.cells #[.slice ca C.length cc, .bool S] 25)); rw [World.size_alloc] at this; exact this⟩, HA13.out.2.1, HB14.out.2.1, by omega, by omega, by omega, by omega, by omega⟩
               have y0 := HSF.out.ab.c0
               have y1 := HSF.out.ab.c1
               have y2 := HSF.out.bb.c0
               have y3 := HSF.out.bb.c1
               have h13d := same_any _ _ _ C C S S HSF.out.ab.pb.row HSF.out.bb.pb.row hCl
               rw [show decide (C = C ∧ S = S) = true by simp] at h13d
               clear H15 ha15)
            | (go_at_call 13; refine h13d.mono ?_; clear h13d; rintro e w16 ⟨rfl, hk16⟩
               have HSF16 := Hid.mk' (HSF.out.keep hk16)
               clear hk16))
          obtain ⟨A12, hA12⟩ : ∃ A12, A12 = (w12.alloc (.cells #[.slice ua q.length uc, .bool sq] 25)) := ⟨_, rfl⟩
          rw [← hA12] at HSF16 HG12 HW12
          clear HSF HK13 HK14 HA13 HA14 HB14 HI hA12 HQ0 y0 y1 y2 y3
          go_loopw [19] (fun i wq => ∃ k : Nat, k ≤ C.length ∧ i = .int .i64 k ∧ Hid (∃ xs, SF A12 C S w13.heap.size (.slice aa C.length ac) xs w14.heap.size (.slice ba C.length bc) w15.heap.size (.slice ca C.length cc) (w13.heap.size + 1) (w14.heap.size + 1) wq ∧ upTo otV xs k)) (fun i _ => C.length - (intOf i).toNat)
          case atStart => exact ⟨0, Nat.zero_le _, rfl, strs C, HSF16.out, fun i hi => absurd hi (by omega)⟩
          case round =>
            obtain ⟨i, hi5, rfl, HI⟩ := hrel
            clear HSF16
            obtain ⟨xs, hF, hU⟩ := HI.out
            have x0 := hF.ab.c0
            have x1 := hF.ab.c1
            have hxl : xs.length = C.length := by have := hF.ab.own.1; rw [Nat.mul_one] at this; exact this
            clear HI
            by_cases h5 : i < C.length
            · have h5' : (i : Int) < (C.length : Int) := by omega
              obtain ⟨g, rfl⟩ := row_some hF.ab.own (by omega)
              have z0 := own_cell hF.ab.own rfl (List.getElem?_eq_getElem (show i < xs.length by omega))
              obtain ⟨cur, hobj⟩ := row_obj hF.ab.own rfl
              have f0 : wr.frozen? ⟨g, i, none⟩ = false := by simp [World.frozen?, hobj]
              generalize xs[i]'(by omega) = u0 at z0
              have HN : Hid (∃ xs, SF A12 C S w13.heap.size (.slice (some ⟨g, 0, none⟩) C.length ac) xs w14.heap.size (.slice ba C.length bc) w15.heap.size (.slice ca C.length cc) (w13.heap.size + 1) (w14.heap.size + 1) (wr.setCell ⟨g, i, none⟩ (.string ⟨#[111, 116, 104, 101, 114]⟩)) ∧ upTo otV xs (i + 1)) := ⟨_, hF.write rfl i _, hU.next (by omega)⟩
              clear hF hU hobj hxl
              go_wp2
              go_roundw
              case rel => exact ⟨i + 1, by omega, by go_num, HN⟩
              case measure => simp [intOf]; omega
            · have h5' : ¬ (i : Int) < (C.length : Int) := by omega
              have ei : i = C.length := by omega
              obtain ⟨i1, hi1, hi2, hi3, hi4⟩ := info_parts info9
              have HF := Hid.mk' hF
              have HU : Hid (upTo otV xs C.length) := by rw [← ei]; exact hU
              clear hF hU
              go_wp2_with (first
                | (at_builtin; refine wpList_append_stay _ rfl _ _ 23 rfl A12.heap.size 9 i1 (.string ⟨#[]⟩) 1 16 Try.underlying23 hi1 hi2 hi3 hi4 rfl (by decide) (.slice aa C.length ac) C.length xs rfl (HF.out.ab.own.alloc _) ⟨wr.heap.size, 0, none⟩ 1 1 [.string ⟨#[108, 97, 115, 116]⟩] rfl rfl (cell_one_new _ _ _) (by simp [Value.oneCell']) (by omega) (by unfold maxLen; omega) (by omega) (by rw [World.size_alloc]; have := HF.out.kp.size; omega) _ rfl ?_; intro g3 cap3 w17 hown hgr h4 hg3
                   obtain ⟨hSG, hb7⟩ := (HF.out.keep ((Keeps.refl _ wr).alloc (.cells #[.string ⟨#[108, 97, 115, 116]⟩] 9))).append HU.out hown hgr h4
                   obtain ⟨_, _, bf⟩ := cells2 hb7
                   have f0 := bf 0
                   have HS17 := Hid.mk' hSG
                   have hqb := HG12.out.qb.keepB HS17.out.kp
                   have y0 := hqb.c0
                   have y1 := hqb.c1
                   have h11c := h11 _ hqb.row
                   clear bf hb7 hown hgr h4 hg3 hSG HF HU hqb)
                | (go_at_call 11; refine h11c.mono ?_; clear h11c; rintro e w18 ⟨rz, rfl, H18⟩
                   obtain ⟨da, dc, er, _⟩ := Row.of_own H18.out.1
                   subst er
                   have ha18 := H18.out.2.alloc (.cells #[.slice da C.length dc, .bool S] 25)
                   have HC18 : Hid (BR (w18.alloc (.cells #[.slice da C.length dc, .bool S] 25)) w18.heap.size (w17.setCell ⟨w13.heap.size, 0, none⟩ (.slice (some ⟨g3, 0, none⟩) (C.length + 1) cap3)).heap.size (.slice da C.length dc) (strs C) C.length S ∧ (∀ g, (Value.slice ba C.length bc).ownBlock = some g → g < (w17.setCell ⟨w13.heap.size, 0, none⟩ (.slice (some ⟨g3, 0, none⟩) (C.length + 1) cap3)).heap.size)) := ⟨⟨heap_last _ _, own_grow H18.out.1 ((Keeps.refl _ w18).alloc _)⟩, fun g hg => (HS17.out.bb.own.lt g hg).2⟩
                   have HS18 := Hid.mk' (HS17.out.keep ha18)
                   have y2 := HS18.out.bb.c0
                   have y3 := HS18.out.bb.c1
                   have y4 := HS18.out.cb.c0
                   have y5 := HS18.out.cb.c1
                   have y6 := HC18.out.1.c0
                   have y7 := HC18.out.1.c1
                   have h13e := same_any _ _ _ C C S S HS18.out.bb.pb.row HS18.out.cb.pb.row hCl
                   rw [show decide (C = C ∧ S = S) = true by simp] at h13e
                   clear H18 ha18)
                | (go_at_call 13; refine h13e.mono ?_; clear h13e; rintro e w19 ⟨rfl, hk19⟩
                   have HS19 := Hid.mk' (HS18.out.keep hk19)
                   have HC19 := Hid.mk' (And.intro (HC18.out.1.keep hk19) HC18.out.2)
                   have y4 := HS19.out.cb.c0
                   have y5 := HS19.out.cb.c1
                   have y6 := HC19.out.1.c0
                   have y7 := HC19.out.1.c1
                   have h13f := same_any _ _ _ C C S S HC19.out.1.pb.row HS19.out.cb.pb.row hCl
                   rw [show decide (C = C ∧ S = S) = true by simp] at h13f
                   clear hk19)
                | (go_at_call 13; refine h13f.mono ?_; clear h13f; rintro e w20 ⟨rfl, hk20⟩
                   have HS20 := Hid.mk' (HS19.out.keep hk20)
                   have HC20 := Hid.mk' (And.intro (HC19.out.1.keep hk20) HC19.out.2)
                   have hqb := HG12.out.qb.keepB HS20.out.kp
                   have hwb := HW12.out.keepB HS20.out.kp
                   have y0 := hqb.c0
                   have y1 := hqb.c1
                   have y8 := hwb.c0
                   have y9 := hwb.c1
                   have h13g := same_any _ _ _ q q sq sq hqb.row hwb.row hql
                   rw [show decide (q = q ∧ sq = sq) = true by simp] at h13g
                   clear hk20 hqb hwb)
                | (go_at_call 13; refine h13g.mono ?_; clear h13g; rintro e w21 ⟨rfl, hk21⟩
                   have HS21 := Hid.mk' (HS20.out.keep hk21)
                   have HC21 := Hid.mk' (And.intro (HC20.out.1.keep hk21) HC20.out.2)
                   clear hk21))
              obtain ⟨s5, hs5⟩ : ∃ s5, s5 = (w17.setCell ⟨w13.heap.size, 0, none⟩ (.slice (some ⟨g3, 0, none⟩) (C.length + 1) cap3)).heap.size := ⟨_, rfl⟩
              rw [← hs5] at HC21
              clear HS17 HS18 HS19 HS20 HC18 HC19 HC20 hs5 y0 y1 y2 y3 y4 y5 y6 y7 y8 y9 h11
              go_loopw [22] (fun i wq => ∃ k : Nat, k ≤ C.length ∧ i = .int .i64 k ∧ Hid (∃ ys, SG A12 C S w13.heap.size g3 cap3 (.slice aa C.length ac) w14.heap.size (.slice ba C.length bc) ys w15.heap.size (.slice ca C.length cc) (w13.heap.size + 1) (w14.heap.size + 1) wq ∧ BR wq w18.heap.size s5 (.slice da C.length dc) (strs C) C.length S)) (fun i _ => C.length - (intOf i).toNat)
              case atStart => exact ⟨0, Nat.zero_le _, rfl, strs C, HS21.out, HC21.out.1⟩
              case round =>
                obtain ⟨m, hm5, rfl, HI⟩ := hrel
                have HLB := Hid.mk' HC21.out.2
                clear HS21 HC21
                obtain ⟨ys, hS, hC⟩ := HI.out
                have x0 := hS.bb.c0
                have x1 := hS.bb.c1
                have hyl : ys.length = C.length := by have := hS.bb.own.1; rw [Nat.mul_one] at this; exact this
                clear HI
                by_cases h6 : m < C.length
                · have h6' : (m : Int) < (C.length : Int) := by omega
                  obtain ⟨g, rfl⟩ := row_some hS.bb.own (by omega)
                  have z0 := own_cell hS.bb.own rfl (List.getElem?_eq_getElem (show m < ys.length by omega))
                  obtain ⟨cur, hobj⟩ := row_obj hS.bb.own rfl
                  have f0 : wr.frozen? ⟨g, m, none⟩ = false := by simp [World.frozen?, hobj]
                  generalize ys[m]'(by omega) = u0 at z0
                  have HN : Hid (∃ ys, SG A12 C S w13.heap.size g3 cap3 (.slice aa C.length ac) w14.heap.size (.slice (some ⟨g, 0, none⟩) C.length bc) ys w15.heap.size (.slice ca C.length cc) (w13.heap.size + 1) (w14.heap.size + 1) (wr.setCell ⟨g, m, none⟩ (.string ⟨#[116, 104, 105, 114, 100]⟩)) ∧ BR (wr.setCell ⟨g, m, none⟩ (.string ⟨#[116, 104, 105, 114, 100]⟩)) w18.heap.size s5 (.slice da C.length dc) (strs C) C.length S) := ⟨_, hS.write rfl m _, hC.keepX (set1k wr g m _) (hS.bb.ne hC.box g rfl) (fun c hc e => by have := (hC.own.lt c hc).1; have := HLB.out g rfl; omega)⟩
                  have HLC := HLB
                  clear hS hC hobj hyl
                  go_wp2
                  go_roundw
                  case rel => exact ⟨m + 1, by omega, by go_num, HN⟩
                  case measure => simp [intOf]; omega
                · have h6' : ¬ (m : Int) < (C.length : Int) := by omega
                  have HS := Hid.mk' (And.intro hS hC)
                  clear hS hC hyl
                  go_wp2
                  go_loopw [23] (fun i wq => ∃ k : Nat, k ≤ C.length ∧ i = .int .i64 k ∧ Hid (SG A12 C S w13.heap.size g3 cap3 (.slice aa C.length ac) w14.heap.size (.slice ba C.length bc) ys w15.heap.size (.slice ca C.length cc) (w13.heap.size + 1) (w14.heap.size + 1) wq ∧ BR wq w18.heap.size s5 (.slice da C.length dc) (strs C) C.length S)) (fun i _ => C.length - (intOf i).toNat)
                  case atStart => exact ⟨0, Nat.zero_le _, rfl, HS⟩
                  case round =>
                    obtain ⟨p5, hp5, rfl, HI⟩ := hrel
                    clear HS x0 x1
                    obtain ⟨x0, x1, _⟩ := cells2 HI.out.1.ab
                    by_cases h7 : p5 < C.length
                    · have h7' : (p5 : Int) + 1 < (C.length : Int) + 1 := by omega
                      have h7'' : (p5 : Int) < (C.length : Int) + 1 := by omega
                      have h7x : (p5 : Int) < (C.length : Int) := by omega
                      obtain ⟨b, o, cap', e, hb, hc⟩ := HI.out.1.old.pos (by omega)
                      cases e
                      have c1 : wr.cell? ⟨b, o + p5, none⟩ = some (.string ⟨#[111, 116, 104, 101, 114]⟩) := hc p5 _ (by rw [List.getElem?_replicate, if_pos h7]; rfl)
                      have c2 : wr.cell? ⟨g3, p5, none⟩ = some (.string ⟨#[111, 116, 104, 101, 114]⟩) := HI.out.1.new p5 h7
                      clear hc
                      go_wp2
                      go_roundw
                      case rel => exact ⟨p5 + 1, by omega, by go_num, HI⟩
                      case measure => simp [intOf]; omega
                    · have h7' : ¬ (p5 : Int) + 1 < (C.length : Int) + 1 := by omega
                      have hqb := HG12.out.qb.keepB HI.out.1.kp
                      have hwb := HW12.out.keepB HI.out.1.kp
                      have hkb := HG12.out.kb.keepB HI.out.1.kp
                      have hpb := HI.out.1.kp.at HG12.out.pb (by have := heap_lt HG12.out.pb; omega)
                      have HB := Hid.mk' (And.intro hqb (And.intro hwb (And.intro hkb hpb)))
                      have h13h := same_any _ _ _ C C S S HI.out.2.pb.row HI.out.1.cb.pb.row hCl
                      rw [show decide (C = C ∧ S = S) = true by simp] at h13h
                      have y0 := HI.out.2.c0
                      have y1 := HI.out.2.c1
                      have y2 := HI.out.1.cb.c0
                      have y3 := HI.out.1.cb.c1
                      have y4 := hqb.c0
                      have y5 := hqb.c1
                      have y6 := hwb.c0
                      have y7 := hwb.c1
                      clear hqb hwb hkb hpb
                      go_wp2_with (first
                        | (go_at_call 13; refine h13h.mono ?_; clear h13h; rintro e w30 ⟨rfl, hk30⟩
                           have hqb := HB.out.1.keep hk30
                           have hwb := HB.out.2.1.keep hk30
                           have hkb := HB.out.2.2.1.keep hk30
                           have hpb := hk30.at HB.out.2.2.2 id
                           have y4 := hqb.c0
                           have y5 := hqb.c1
                           have y6 := hwb.c0
                           have y7 := hwb.c1
                           have HB2 := Hid.mk' (And.intro hkb hpb)
                           have HK30 := Hid.mk' ((HG12.out.kp.then HI.out.1.kp (fun c hc => Or.inr (Nat.le_trans HG12.out.kp.size hc))).trans hk30)
                           have h13i := same_any _ _ _ q q sq sq hqb.row hwb.row hql
                           rw [show decide (q = q ∧ sq = sq) = true by simp] at h13i
                           clear hqb hwb hkb hpb hk30)
                        | (go_at_call 13; refine h13i.mono ?_; clear h13i; rintro e w31 ⟨rfl, hk31⟩
                           have hkb := HB2.out.1.keep hk31
                           obtain ⟨z0, z1, _⟩ := cells2 (hk31.at HB2.out.2 id)
                           have z2 := hkb.c0
                           have z3 := hkb.c1
                           have HK31 := Hid.mk' (HK30.out.trans hk31)
                           clear hkb hk31))
                      go_ret
                      exact ⟨rfl, HK31.out⟩
end Go.Proofs.Ytfekgfimbkgkfab
