import Derived.Test.YtfekgfimbkgkfabA4
namespace Go.Proofs.Ytfekgfimbkgkfab
open Go.RowKit Go.Maps

theorem Keeps.below_step {w A B : World} (hk : Keeps (fun _ => False) w A) (hb : Below w.heap.size A B) : Keeps (fun _ => False) w B :=
  let ⟨a, b, c, d, e⟩ := hb
  ⟨a.trans hk.os, b.trans hk.tape, c.trans hk.output, Nat.le_trans hk.size d, fun k hk' _ => (e k hk').trans (hk.block k hk' id)⟩
theorem BuAt.new (w : World) : BuAt w.heap.size w.heap.size [] (w.alloc (.cells #[.pointer none, .slice none 0 0] 78)) := by
  refine Or.inl ⟨Nat.le_refl _, .slice none 0 0, (MapKept.heap_alloc w _).1, World.ownsRow_nil _ _ _ _, by simp [Value.ownBlock]⟩

/-- The parts that may be told are short. -/
theorem tells_sizes {ps : List ByteArray} {sl : Bool} (h : tells ps sl = true) : (txt ps sl).length ≤ 200 ∧ ∀ k, (bare (ps.take k)).length ≤ 200 ∧ ∀ s ∈ ps, s.size ≤ 28 := by
  have h1 : (txt ps sl).length ≤ 200 := by
    unfold tells at h
    simp only [Bool.and_eq_true, decide_eq_true_eq] at h
    exact h.2
  have h2 : (bare ps).length ≤ 200 := by
    unfold txt at h1
    rw [List.length_append] at h1; omega
  refine ⟨h1, fun k => ⟨Nat.le_trans (wide_take ps k) h2, fun s hs => ?_⟩⟩
  unfold tells at h
  simp only [Bool.and_eq_true, List.all_eq_true] at h
  exact (okPart_iff.1 (h.1.2 s hs)).2.1

set_option maxHeartbeats 2000000 in
set_option maxRecDepth 100000 in
theorem text_any (w : World) (v : Value) (ps : List ByteArray) (sl : Bool) (h : Row w v ps.length (strs ps)) (hn : ps.length < 10000000000000) (hz : ∀ s ∈ ps, s.size ≤ 281474976710656) :
    Calls Try.prog 21 #[.agg #[v, .bool sl]] w fun e w' => e = .returned (.string (txtF ps sl)) ∧ Keeps (fun _ => False) w w' := by
  have hK0 : Keeps (fun _ => False) w (w.alloc (.cells #[v, .bool sl] 25)) := (Keeps.refl _ w).alloc _
  have h32 := telling_any (w.alloc (.cells #[v, .bool sl] 25)) v ps sl (h.keep hK0) hn hz
  have hB0 := (MapKept.heap_alloc w (.cells #[v, .bool sl] 25)).1
  have hz0 : (w.alloc (.cells #[v, .bool sl] 25)).heap.size = w.heap.size + 1 := World.size_alloc ..
  rcases Bool.eq_false_or_eq_true (tells ps sl) with hT | hT
  · have e1 : txtF ps sl = mkB (txt ps sl) := by unfold txtF; rw [hT]; rfl
    rw [e1]
    rw [hT] at h32
    have HT : Hid (tells ps sl = true) := hT
    have HR : Hid (Row w v ps.length (strs ps)) := h
    obtain ⟨a, cap, rfl, _⟩ := h
    clear hT e1 hz
    go_enter Try.func21, Try.ntmps21
    go_wp2_with (first
      | (go_at_call 32; refine h32.mono ?_; clear h32; rintro e w1 ⟨rfl, hk1⟩
         have hB1 := hk1.at hB0 (fun h => h)
         have hA : Keeps (fun _ => False) w1 (w1.alloc (.cells #[.pointer none, .slice none 0 0] 78)) := (Keeps.refl _ w1).alloc _
         obtain ⟨c0, c1, cf⟩ := cells2 (hA.at hB1 (fun h => h))
         have HN : Hid (BuAt w1.heap.size w1.heap.size [] (w1.alloc (.cells #[.pointer none, .slice none 0 0] 78)) ∧ Keeps (fun _ => False) w1 (w1.alloc (.cells #[.pointer none, .slice none 0 0] 78))) := ⟨BuAt.new w1, hA⟩
         have HK1 : Hid (Keeps (fun _ => False) w w1) := hK0.trans hk1
         have HB1 : Hid (w1.heap[w.heap.size]? = some (Obj.cells #[Value.slice a ps.length cap, Value.bool sl] 25)) := hB1
         clear hk1 hB1 cf hA))
    clear hK0 hB0 hz0
    go_loopw [12] (fun i wr => ∃ k : Nat, k ≤ ps.length ∧ i = .int .i64 k ∧ Hid (BuAt w1.heap.size w1.heap.size (bare (ps.take k)) wr ∧ Keeps (fun _ => False) w1 wr)) (fun i _ => ps.length - (intOf i).toNat)
    case atStart => exact ⟨0, Nat.zero_le _, rfl, HN.out.1, HN.out.2⟩
    case round =>
      obtain ⟨k, hk, rfl, HI⟩ := hrel
      clear c0 c1
      by_cases h1 : k < ps.length
      · obtain ⟨b, o, cap', e, hb, hc⟩ := HR.out.pos (by omega)
        cases e
        have h1' : (k : Int) < (ps.length : Int) := by omega
        have c2 := (HK1.out.trans HI.out.2).cell (hc k _ (strs_get h1)) (fun h => h)
        have HS : Hid (bare (ps.take (k + 1)) = bare (ps.take k) ++ [47] ++ (ps.getD k bz).data.toList) := by
          show _ = _
          rw [take_getD bz h1, bare_snoc]; simp
        have hlen := (tells_sizes HT.out).2 k
        have hsz := hlen.2 _ (getD_mem bz h1)
        generalize ps.getD k bz = s at c2 HS hsz
        have h33 := writeByte w1.heap.size w1.heap.size (bare (ps.take k)) 47 wr HI.out.1 (by omega) HI.out.2.size
        have h34 : ∀ w2, Hid (BuAt w1.heap.size w1.heap.size (bare (ps.take k) ++ [47]) w2 ∧ Below w1.heap.size wr w2) → Calls Try.prog 34 #[.pointer (some ⟨w1.heap.size, 0, none⟩), .string s] w2 fun e w' => e = .returned (.tuple #[.int .i64 s.size, .nilIface]) ∧ Hid (BuAt w1.heap.size w1.heap.size (bare (ps.take k) ++ [47] ++ s.data.toList) w' ∧ Below w1.heap.size w2 w') := fun w2 H2 => writeString w1.heap.size w1.heap.size (bare (ps.take k) ++ [47]) s w2 H2.out.1 (by simp; omega) (by omega) (Nat.le_trans HI.out.2.size H2.out.2.size)
        clear hc hlen hsz
        go_wp2_with (first
          | (go_at_call 33; refine h33.mono ?_; clear h33; rintro e w2 ⟨rfl, H2⟩)
          | (go_at_call 34; refine (h34 _ H2).mono ?_; clear h34; rintro e w3 ⟨rfl, H3⟩))
        go_roundw
        case rel =>
          refine ⟨k + 1, by omega, by go_num, by rw [HS.out]; exact H3.out.1, ?_⟩
          exact (HI.out.2.below_step H2.out.2).below_step H3.out.2
        case measure => simp [intOf]; omega
      · have h1' : ¬ (k : Int) < (ps.length : Int) := by omega
        obtain ⟨c0, c1, _⟩ := cells2 (HI.out.2.at HB1.out (fun h => h))
        have e2 : ps.take k = ps := List.take_of_length_le (by omega)
        have HL : Hid ((bare ps).length ≤ 200 ∧ BuAt w1.heap.size w1.heap.size (bare ps) wr) := by
          have h1 := ((tells_sizes HT.out).2 k).1
          have h2 := HI.out.1
          rw [e2] at h1 h2
          exact ⟨h1, h2⟩
        have h33 := writeByte w1.heap.size w1.heap.size (bare ps) 47 wr HL.out.2 (by have := HL.out.1; omega) HI.out.2.size
        by_cases hc : (sl || ps.isEmpty) = true
        · have et : txt ps sl = bare ps ++ [47] := by unfold txt; rw [if_pos hc]
          rw [et] at *
          have h35 : ∀ w2, Hid (BuAt w1.heap.size w1.heap.size (bare ps ++ [47]) w2 ∧ Below w1.heap.size wr w2) → Calls Try.prog 35 #[.pointer (some ⟨w1.heap.size, 0, none⟩)] w2 fun e w' => e = .returned (.string (mkB (bare ps ++ [47]))) ∧ Hid (Below w1.heap.size w2 w') := fun w2 H2 => Try.Builder_String_any w1.heap.size w1.heap.size (bare ps ++ [47]) w2 H2.out.1 (Nat.le_trans HI.out.2.size H2.out.2.size)
          have hfin : ∀ w2 w3, Below w1.heap.size wr w2 → Below w1.heap.size w2 w3 → Keeps (fun _ => False) w w3 := fun w2 w3 h2 h3 => HK1.out.trans ((HI.out.2.below_step h2).below_step h3)
          cases sl with
          | true =>
            go_wp2_with (first
              | (go_at_call 33; refine h33.mono ?_; clear h33; rintro e w2 ⟨rfl, H2⟩)
              | (go_at_call 35; refine (h35 _ H2).mono ?_; clear h35; rintro e w3 ⟨rfl, H3⟩))
            go_ret
            exact ⟨rfl, hfin _ _ H2.out.2 H3.out⟩
          | false =>
            have h0 : ps = [] := by simpa using hc
            subst h0
            go_wp2_with (first
              | (go_at_call 33; refine h33.mono ?_; clear h33; rintro e w2 ⟨rfl, H2⟩)
              | (go_at_call 35; refine (h35 _ H2).mono ?_; clear h35; rintro e w3 ⟨rfl, H3⟩))
            go_ret
            exact ⟨rfl, hfin _ _ H2.out.2 H3.out⟩
        · have et : txt ps sl = bare ps := by unfold txt; rw [if_neg hc, List.append_nil]
          have hs : sl = false := by cases sl <;> simp_all
          subst hs
          have h0 : ¬ ((ps.length : Int) = 0) := by
            intro h
            have : ps = [] := List.length_eq_zero_iff.1 (by omega)
            rw [this] at hc; exact hc rfl
          have h35 : Calls Try.prog 35 #[.pointer (some ⟨w1.heap.size, 0, none⟩)] wr fun e w' => e = .returned (.string (mkB (bare ps))) ∧ Hid (Below w1.heap.size wr w') := Try.Builder_String_any w1.heap.size w1.heap.size (bare ps) wr HL.out.2 HI.out.2.size
          clear hc
          go_wp2_with (first
            | (go_at_call 35; refine h35.mono ?_; clear h35; rintro e w3 ⟨rfl, H3⟩))
          go_ret
          exact ⟨by rw [et]; rfl, HK1.out.trans (HI.out.2.below_step H3.out)⟩
  · have e1 : txtF ps sl = ⟨#[]⟩ := by unfold txtF; rw [hT]; rfl
    rw [e1]
    rw [hT] at h32
    clear hT e1 hz h
    go_enter Try.func21, Try.ntmps21
    go_wp2_with (first
      | (go_at_call 32; refine h32.mono ?_; clear h32; rintro e w1 ⟨rfl, hk1⟩))
    go_ret
    exact ⟨rfl, hK0.trans hk1⟩
end Go.Proofs.Ytfekgfimbkgkfab
