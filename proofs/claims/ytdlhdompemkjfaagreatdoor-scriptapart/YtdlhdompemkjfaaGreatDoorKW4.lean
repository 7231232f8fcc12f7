import Derived.Test.YtdlhdompemkjfaaGreatDoorK37
import Derived.Test.YtdlhdompemkjfaaGreatDoorK32
namespace Go.Proofs.YtdlhdompemkjfaaGreatDoor
open Go.RowKit Go.Maps
set_option maxRecDepth 100000

/-! Two lists of steps of one's own. -/
theorem wpList_appT {ops : Array Oper} {rest : List Oper} {o : Oper} {a : Act} {Q : Exit → Act → World → Prop} (hgd : o.guard = none) (s x : Operand)
    (ho : o.op = .call { callee := .builtin .append, args := #[s, x], argTypes := #[29, 29] }) (w W : World) (v : Value) (l : List (St × Value)) (hs : a.eval s = v) (h : PR w W v l) (hk : Keeps (fun _ => False) w W) (t : St) (r : Option Addr) (n c : Nat)
    (ht : W.ownsRow w.heap.size 3 1 (.slice r n c) t.l.length (ints t.l)) (hd : ∀ p ∈ l, ∀ g, p.2.ownBlock = some g → (Value.slice r n c).ownBlock ≠ some g)
    (hx : a.eval x = .slice (some ⟨W.heap.size, 0, none⟩) 1 1) (hl : (l.length + 1) * 88 ≤ 140737488355328)
    (K : ∀ v' W', PR w W' v' (l ++ [(t, .slice r n c)]) → Keeps (fun k => v.ownBlock = some k) W W' → Keeps (fun _ => False) w W' → (v'.ownBlock = v.ownBlock ∨ v'.ownBlock = some (W.heap.size + 1)) → wpList Tryz.prog ops Q rest (a.put o.dst v') W') : wpList Tryz.prog ops Q (o :: rest) a (W.alloc (.cells (scell t (.slice r n c)) 24)) := by
  obtain ⟨i0, hi, hz0, hz1, hz2⟩ := info_parts infoStep
  refine wpList_append_own_at _ hgd s x 29 ho w.heap.size 24 i0 (.agg szero) 7 88 Tryz.underlying29 hi hz0 hz1 hz2 rfl (by decide) v l.length (pcells l) hs (h.row.alloc _) ⟨W.heap.size, 0, none⟩ 1 1 (scell t (.slice r n c)).toList hx rfl ?_ ?_ (by unfold maxLen; omega) (by omega) (by rw [World.size_alloc]; have := hk.size; omega) ?_
  · intro j u hj
    have h2 := heap_last W (.cells (scell t (.slice r n c)) 24)
    rw [addr_add]
    simp only [World.cell?, h2, Nat.zero_add]
    rw [Array.getElem?_toList] at hj
    exact hj
  · intro u hu
    simp only [scell, List.mem_cons, List.not_mem_nil, or_false] at hu
    rcases hu with rfl | rfl | rfl | rfl | rfl | rfl | rfl <;> rfl
  · intro v' W' hown hgr _ hwhere
    have k1 : Keeps (fun k => v.ownBlock = some k) (W.alloc (.cells (scell t (.slice r n c)) 24)) W' := Keeps.of hgr (fun k hk => Or.inl hk)
    have k0 := (Keeps.refl (fun _ => False) W).alloc (.cells (scell t (.slice r n c)) 24)
    have other : ∀ {e : TypeId} {s : Nat} {z : Value} {m : Nat} {ys : List Value}, 24 ≠ e → W.ownsRow w.heap.size e s z m ys → W'.ownsRow w.heap.size e s z m ys := by
      intro e s z m ys hne ho2
      exact own_keep (own_grow ho2 k0) k1 (fun g hg hv => own_types h.row ho2 hne g hv hg)
    refine K v' W' ⟨?_, ?_, ?_, ?_⟩ ((k0.mono (fun _ _ h => h.elim)).trans k1) ?_ (by rw [World.size_alloc] at hwhere; exact hwhere)
    · rw [pcells_app, List.length_append]
      have e : pcells [(t, .slice r n c)] = (scell t (.slice r n c)).toList := by simp [pcells]
      rw [e]; exact hown
    · intro p hp
      rcases List.mem_append.1 hp with hp | hp
      · exact other (by decide) (h.ins p hp)
      · rw [List.mem_singleton.1 hp]; exact other (by decide) ht
    · intro p hp
      rcases List.mem_append.1 hp with hp | hp
      · exact h.shp p hp
      · rw [List.mem_singleton.1 hp]; exact ⟨r, n, c, rfl⟩
    · rw [List.pairwise_append]
      refine ⟨h.apart, List.pairwise_singleton _ _, fun p hp q hq => ?_⟩
      rw [List.mem_singleton.1 hq]
      exact hd p hp
    · refine (hk.alloc _).step hgr (fun k hk => Or.inr ?_)
      exact ((h.row.lt k hk).1)
structure DL (w W : World) (v z : Value) (ps qs : List (St × Value)) (l : List St) : Prop where
  a : PR w W v ps
  b : PR w W z qs
  ne : ∀ g, v.ownBlock = some g → z.ownBlock ≠ some g
  k : Keeps (fun _ => False) w W
  e : ps.map (·.1) = l
theorem DL.keep {w A B : World} {v z : Value} {ps qs : List (St × Value)} {l : List St} (h : DL w A v z ps qs l) (k : Keeps (fun _ => False) A B) : DL w B v z ps qs l := ⟨h.a.keep k, h.b.keep k, h.ne, h.k.trans k, h.e⟩
/-- A list of the one kind grown, the other stays. -/
theorem DL.app {w W W' : World} {v z v' : Value} {ps qs ps' : List (St × Value)} {l : List St} (h : DL w W v z ps qs l) (h1 : PR w W' v' ps') (k : Keeps (fun k => v.ownBlock = some k) W W') (hk : Keeps (fun _ => False) w W') (hw : v'.ownBlock = v.ownBlock ∨ v'.ownBlock = some (W.heap.size + 1)) (l' : List St) (he : ps'.map (·.1) = l') : DL w W' v' z ps' qs l' := by
  refine ⟨h1, ⟨own_keep h.b.row k (fun g hg hv => h.ne g hv hg), fun p hp => own_keep (h.b.ins p hp) k (fun g hg hv => own_types h.a.row (h.b.ins p hp) (by decide) g hv hg), h.b.shp, h.b.apart⟩, ?_, hk, he⟩
  intro g hg hz
  rcases hw with e | e
  · rw [e] at hg; exact h.ne g hg hz
  · rw [e] at hg
    injection hg with hg
    have := (h.b.row.lt g hz).2
    omega
theorem DL.swap {w W : World} {v z : Value} {ps qs : List (St × Value)} {l : List St} (h : DL w W v z ps qs l) (l' : List St) (he : qs.map (·.1) = l') : DL w W z v qs ps l' := ⟨h.b, h.a, fun g hg hv => h.ne g hv hg, h.k, he⟩
def sumS (l : List St) : Nat := (l.map fun t => t.a.size + t.b.size + t.l.length).sum
theorem sumS_take {l : List St} {k : Nat} {t : St} (h : l[k]? = some t) : sumS (l.take (k + 1)) = sumS (l.take k) + (t.a.size + t.b.size + t.l.length) := by
  unfold sumS
  rw [List.take_add_one, h]
  simp
theorem sumS_mem {l : List St} {t : St} (h : t ∈ l) : t.a.size + t.b.size + t.l.length ≤ sumS l := by
  induction l with
  | nil => cases h
  | cons x l ih =>
    have e : sumS (x :: l) = (x.a.size + x.b.size + x.l.length) + sumS l := by simp [sumS]
    rw [e]
    rcases List.mem_cons.1 h with rfl | h
    · omega
    · have := ih h; omega
/-- What is known of a step that is handed in. -/
structure InH (t : St) : Prop where
  i : InS t
  l : t.l.length ≤ 17592186044416
  a : t.a.size ≤ 140737488355328
  b : t.b.size ≤ 140737488355328
theorem sumS_le {l : List St} (h : ∀ t ∈ l, InH t) : sumS l ≤ l.length * 300000000000000 := by
  induction l with
  | nil => simp [sumS]
  | cons t l ih =>
    have h1 := ih (fun x hx => h x (by simp [hx]))
    have h2 := h t (by simp)
    have h3 := h2.l
    have h4 := h2.a
    have h5 := h2.b
    have e : sumS (t :: l) = (t.a.size + t.b.size + t.l.length) + sumS l := by simp [sumS]
    rw [e, List.length_cons]
    omega
theorem sum_wrap {q : Int} {S A B L : Nat} (h : q = (S : Int)) (hs : S ≤ 600000000000000000) (ha : A ≤ 140737488355328) (hb : B ≤ 140737488355328) (hl : L ≤ 17592186044416) :
    wrap64 (wrap64 (wrap64 (q + (A : Int)) + (B : Int)) + (L : Int)) = (S : Int) + ((A + B + L : Nat) : Int) := by
  have e1 := wrap64_id (x := (S : Int) + (A : Int)) (by omega) (by omega)
  have e2 := wrap64_id (x := (S : Int) + (A : Int) + (B : Int)) (by omega) (by omega)
  have e3 := wrap64_id (x := (S : Int) + (A : Int) + (B : Int) + (L : Int)) (by omega) (by omega)
  rw [h, e1, e2, e3]
  omega
set_option maxHeartbeats 16000000 in
theorem texts_walk (w : World) (hv : Vars w) (kv : KV w) (v : Value) (l : List (St × Value)) (hl : StR w v l) (hn : l.length * 88 ≤ 140737488355328) (hi : ∀ p ∈ l, InH p.1) :
    Calls Tryz.prog 4 #[v] w fun e w' => e = .returned (.bool true) ∧ Keeps (fun _ => False) w w' := by
  obtain ⟨a, c, rfl, hc, _⟩ := id hl.row
  have HL := Hid.mk' hl
  have HV := Hid.mk' hv
  have HKV := Hid.mk' kv
  have HI := Hid.mk' hi
  have HN := Hid.mk' hn
  clear hl hv kv hi
  go_enter Tryz.func4, Tryz.ntmps4
  go_wp2
  go_loopw [3, 4, 5, 6] (fun x y n i wr => ∃ k : Nat, k ≤ l.length ∧ i = .int .i64 k ∧ (∃ q : Int, n = .int .i64 q ∧ Hid (k ≤ 2000 → q = (sumS ((l.map (·.1)).take k) : Int))) ∧ ∃ ps qs, Hid (DL w wr x y ps qs ((l.map (·.1)).take k) ∧ qs.map (·.1) = (l.map (·.1)).take k)) (fun _ _ _ i _ => l.length - (intOf i).toNat)
  case atStart => exact ⟨0, Nat.zero_le _, rfl, ⟨0, rfl, fun _ => rfl⟩, [], [], ⟨⟨PR.nil _ _, PR.nil _ _, (fun g hg => by cases hg), Keeps.refl _ _, rfl⟩, rfl⟩⟩
  case round =>
    obtain ⟨k, hk, rfl, ⟨q, rfl, HQ⟩, ps, qs, HD⟩ := hrel
    by_cases h1 : k < l.length
    · have h1' : (k : Int) < (l.length : Int) := by omega
      obtain ⟨⟨t, z⟩, hp⟩ : ∃ p, l[k]? = some p := ⟨l[k], by simp [h1]⟩
      obtain ⟨b, o, c', e, _, hrange⟩ := (HL.out.keep HD.out.1.k).get hp
      injection e with e1 e2 e3
      subst e1 e3
      obtain ⟨p1, c1, hz, _, _⟩ := id (HL.out.ins _ (List.mem_of_getElem? hp))
      dsimp only at hz
      subst hz
      have HR := Hid.mk' hrange
      obtain ⟨b9, o9, c9, e9, _, hrange9⟩ := HL.out.get hp
      injection e9 with e91 e92 e93
      injection e91 with e91
      injection e91 with e911 e912
      subst e911 e912
      have HL0 := Hid.mk' hrange9
      have HRW := Hid.mk' (HL.out.ins _ (List.mem_of_getElem? hp))
      have d1 := hrange 1 (.string t.a) rfl
      have d2 := hrange 2 (.string t.b) rfl
      have d6 := hrange 6 (.slice p1 t.l.length c1) rfl
      have HIN := Hid.mk' (HI.out _ (List.mem_of_getElem? hp))
      have HROW := Hid.mk' ((HL.out.ins _ (List.mem_of_getElem? hp)).keep HD.out.1.k)
      have hl1 : (l.map (·.1))[k]? = some t := st_at hp
      have HT := Hid.mk' (sumS_take hl1)
      have HTK : Hid ((l.map (·.1)).take (k + 1) = (l.map (·.1)).take k ++ [t]) := by show _ = _; rw [List.take_add_one, hl1]; rfl
      have HPL : Hid ((ps.length + 1) * 88 ≤ 140737488355328 ∧ (qs.length + 1) * 88 ≤ 140737488355328) := by
        have h3 := congrArg List.length HD.out.1.e
        have h4 := congrArg List.length HD.out.2
        have h5 := HN.out
        simp only [List.length_map, List.length_take] at h3 h4
        exact ⟨by omega, by omega⟩
      clear hrange hrange9 hp hl1 e92 e93 e2
      go_wp2
      go_quiet (fail)
      have HK0 := Hid.mk' (Keeps.drewN (fun _ => False) wr nq)
      have HQ2 : Hid (k + 1 ≤ 2000 → wrap64 (wrap64 (wrap64 (q + (t.a.size : Int)) + (t.b.size : Int)) + (t.l.length : Int)) = (sumS ((l.map (·.1)).take (k + 1)) : Int)) := by
        intro h2
        have h3 := HQ.out (by omega)
        have h4 := sumS_le (l := (l.map (·.1)).take k) (fun x hx => by
          obtain ⟨p, hp, rfl⟩ := List.mem_map.1 (List.mem_of_mem_take hx)
          exact HI.out p hp)
        have h5 : ((l.map (·.1)).take k).length ≤ 2000 := by simp; omega
        have h6 := HIN.out.a
        have h7 := HIN.out.b
        have h8 := HIN.out.l
        rw [HT.out, Int.natCast_add]
        exact sum_wrap h3 (by omega) h6 h7 h8
      generalize wrap64 (wrap64 (wrap64 (q + (t.a.size : Int)) + (t.b.size : Int)) + (t.l.length : Int)) = q2 at *
      have HD0 := Hid.mk' (HD.out.1.keep HK0.out)
      have HR0 : Hid ((wr.drewN nq).rangeAt b (o + k * 7) (scell t (.slice p1 t.l.length c1)).toList) := fun j u hj => HK0.out.cell (HR.out j u hj) id
      have h8 := fun W hr => copyStep_any W t (.slice p1 t.l.length c1) hr HIN.out.l
      clear d1 d2 d6 HQ HT
      have S0 := Hid.mk' True.intro
      go_wp2_with (first
        | (clear S0; refine wpList_load_step rfl _ rfl b (o + k * 7) t (.slice p1 t.l.length c1) (by rfl) HR0.out ?_; have S1 := Hid.mk' True.intro)
        | (clear S1; go_at_call 8; refine (h8 _ (HROW.out.keep HK0.out)).mono ?_; rintro e w2 ⟨v2, rfl, h2⟩; obtain ⟨p2, c2, hv2, _, _⟩ := id (Row.of_own h2.out.1); subst hv2; have H2 := Hid.mk' h2.out; clear h2; have HD2 := Hid.mk' (HD0.out.keep H2.out.2); have S2 := Hid.mk' True.intro)
        | (clear S2; refine wpList_step1 rfl _ rfl t (.slice p2 t.l.length c2) (by rfl) ?_; have S3 := Hid.mk' True.intro)
        | (clear S3; at_builtin; go_must (refine wpList_appT rfl _ _ rfl w w2 u3 ps (by rfl) HD2.out.a HD2.out.k t p2 t.l.length c2 (own_base H2.out.1 HD0.out.k.size) (fun p hp g hg hg2 => by have a := ((HD0.out.a.ins p hp).lt g hg).2; have b := (H2.out.1.lt g hg2).1; omega) (by rfl) HPL.out.1 ?_); intro v3 W3 hO3 hk3 hkw3 hw3; have HD3 := Hid.mk' (HD2.out.app hO3 hk3 hkw3 hw3 ((l.map (·.1)).take (k + 1)) (by rw [HTK.out, ← HD2.out.e]; simp)); have HR3 := Hid.mk' (fun j u hj => (hkw3.cell (HL0.out j u hj) id)); clear hO3 hk3 hkw3 hw3; have S4 := Hid.mk' True.intro)
        | (clear S4; refine wpList_load_step rfl _ rfl b (o + k * 7) t (.slice p1 t.l.length c1) (by rfl) HR3.out ?_; have S5 := Hid.mk' True.intro)
        | (clear S5; go_at_call 8; refine (h8 _ (HRW.out.keep HD3.out.k)).mono ?_; clear h8; rintro e w4 ⟨v4, rfl, h4⟩; obtain ⟨p4, c4, hv4, _, _⟩ := id (Row.of_own h4.out.1); subst hv4; have H4 := Hid.mk' h4.out; clear h4; have HD4 := Hid.mk' (HD3.out.keep H4.out.2); have S6 := Hid.mk' True.intro)
        | (clear S6; refine wpList_step1 rfl _ rfl t (.slice p4 t.l.length c4) (by rfl) ?_; have S7 := Hid.mk' True.intro)
        | (clear S7; at_builtin; go_must (refine wpList_appT rfl _ _ rfl w w4 u4 qs (by rfl) HD4.out.b HD4.out.k t p4 t.l.length c4 (own_base H4.out.1 HD3.out.k.size) (fun p hp g hg hg2 => by have a := ((HD3.out.b.ins p hp).lt g hg).2; have b := (H4.out.1.lt g hg2).1; omega) (by rfl) HPL.out.2 ?_); intro v5 W5 hO5 hk5 hkw5 hw5; have HD5 := Hid.mk' (((HD4.out.swap _ rfl).app hO5 hk5 hkw5 hw5 ((l.map (·.1)).take (k + 1)) (by rw [HTK.out, ← HD.out.2]; simp)).swap _ HD4.out.e); clear hO5 hk5 hkw5 hw5; have S8 := Hid.mk' True.intro))
      go_roundw
      case rel => exact ⟨k + 1, by omega, by go_num, ⟨q2, rfl, HQ2.out⟩, ps ++ [(t, .slice p2 t.l.length c2)], qs ++ [(t, .slice p4 t.l.length c4)], ⟨HD5.out, by rw [HTK.out, ← HD.out.2]; simp⟩⟩
      case measure => simp [intOf]; omega
    · have h1' : ¬ (k : Int) < (l.length : Int) := by omega
      have HE : Hid ((l.map (·.1)).take k = l.map (·.1)) := List.take_of_length_le (by simp; omega)
      by_cases h2 : (100000 : Int) < q
      · go_wp2
        go_ret
        exact ⟨rfl, HD.out.1.k⟩
      by_cases h3 : (2000 : Int) < (l.length : Int)
      · go_wp2
        go_ret
        exact ⟨rfl, HD.out.1.k⟩
      have HQQ : Hid (sumS (l.map (·.1)) ≤ 100000 ∧ l.length ≤ 2000) := by
        have h4 := HQ.out (by omega)
        rw [HE.out] at h4
        exact ⟨by omega, by omega⟩
      have HOK : Hid (∀ t ∈ l.map (·.1), OkS t) := by
        intro t ht
        have h4 := sumS_mem ht
        have h5 := HQQ.out.1
        obtain ⟨p, hp, rfl⟩ := List.mem_map.1 ht
        have h6 := HI.out p hp
        exact ⟨by omega, by omega, h6.i.n, h6.i.m, h6.i.k, by omega, h6.i.o⟩
      have HD1 : Hid (DL w wr u3 u4 ps qs (l.map (·.1)) ∧ qs.map (·.1) = l.map (·.1)) := by
        have h4 := HD.out
        rw [HE.out] at h4
        exact h4
      have HLP : Hid (ps.length = l.length ∧ qs.length = l.length) := by
        have h3 := congrArg List.length HD1.out.1.e
        have h4 := congrArg List.length HD1.out.2
        simp only [List.length_map] at h3 h4
        exact ⟨h3, h4⟩
      have h12 := text_any wr (HV.out.keep HD1.out.1.k) u3 ps (StR.of_pr HD1.out.1.a) (by have := HLP.out.1; have := HQQ.out.2; omega) (fun p hp => HOK.out _ (by rw [← HD1.out.1.e]; exact List.mem_map.2 ⟨p, hp, rfl⟩))
      have h13 := fun W (k : Keeps (fun _ => False) wr W) => rtext_any W (HKV.out.keep (HD1.out.1.k.trans k)) u4 qs ((StR.of_pr HD1.out.1.b).keep k) (by have := HLP.out.2; have := HQQ.out.2; omega) (fun p hp => HOK.out _ (by rw [← HD1.out.2]; exact List.mem_map.2 ⟨p, hp, rfl⟩))
      rw [HD1.out.1.e] at h12
      simp only [HD1.out.2] at h13
      generalize mkB (txF (l.map (·.1))) = TX at *
      clear HD HQ
      go_wp2_with (first
        | (go_at_call 12; refine h12.mono ?_; clear h12; rintro e w1 ⟨rfl, hk1⟩; have HK1 := Hid.mk' hk1; clear hk1))
      go_loopw [8] (fun i wq => ∃ j : Nat, j ≤ l.length ∧ i = .int .i64 j ∧ Hid (Keeps (fun _ => False) wr wq)) (fun i _ => l.length - (intOf i).toNat)
      case atStart => exact ⟨0, Nat.zero_le _, rfl, HK1.out⟩
      case round =>
        obtain ⟨j, hj, rfl, HW⟩ := hrel
        clear HK1
        by_cases h4 : j < l.length
        · have h4' : (j : Int) < (l.length : Int) := by omega
          have hj3 : j < ps.length := by have := HLP.out.1; omega
          have hj4 : j < qs.length := by have := HLP.out.2; omega
          have hj3' : (j : Int) < (ps.length : Int) := by omega
          have hj4' : (j : Int) < (qs.length : Int) := by omega
          obtain ⟨⟨t, z3⟩, hp3⟩ : ∃ p, ps[j]? = some p := ⟨ps[j], by simp [hj3]⟩
          obtain ⟨⟨t', z4⟩, hp4⟩ : ∃ p, qs[j]? = some p := ⟨qs[j], by simp [hj4]⟩
          have hm3 : (l.map (·.1))[j]? = some t := by rw [← HD1.out.1.e]; exact st_at hp3
          have hm4 : (l.map (·.1))[j]? = some t' := by rw [← HD1.out.2]; exact st_at hp4
          obtain rfl : t = t' := by rw [hm3] at hm4; exact Option.some.inj hm4
          obtain ⟨b3, o3, k3, e3, _, hr3⟩ := ((StR.of_pr HD1.out.1.a).keep HW.out).get hp3
          obtain ⟨b4, o4, k4, e4, _, hr4⟩ := ((StR.of_pr HD1.out.1.b).keep HW.out).get hp4
          have row3 := ((StR.of_pr HD1.out.1.a).keep HW.out).ins _ (List.mem_of_getElem? hp3)
          have row4 := ((StR.of_pr HD1.out.1.b).keep HW.out).ins _ (List.mem_of_getElem? hp4)
          obtain ⟨p3, c3, hz3, _, _⟩ := id row3
          obtain ⟨p4, c4, hz4, _, _⟩ := id row4
          dsimp only at hz3 hz4
          subst hz3 hz4 e3 e4
          have HR3 := Hid.mk' row3
          have HR4 := Hid.mk' row4
          have HS0 : Hid (wr.rangeAt b3 (o3 + j * 7) (scell t (.slice p3 t.l.length c3)).toList ∧ wr.rangeAt b4 (o4 + j * 7) (scell t (.slice p4 t.l.length c4)).toList) := ⟨hr3, hr4⟩
          have HTL : Hid (t.l.length ≤ 4000000000000000000) := by have := (HOK.out t (List.mem_of_getElem? hm3)).l; show _ ≤ _; omega
          clear hr3 hr4 row3 row4 hp3 hp4 hm3 hm4 h13
          go_upto_region 16 with (fail)
          refine wp_region_held_drew (S := fun wx => wx.rangeAt b3 (o3 + j * 7) (scell t (.slice p3 t.l.length c3)).toList ∧ wx.rangeAt b4 (o4 + j * 7) (scell t (.slice p4 t.l.length c4)).toList) (by kernel_rfl) HS0.out (fun hS => ?_)
          refine takeH 0 (some 68) (.slice (some ⟨b3, o3, none⟩) ps.length k3) rfl rfl (by kernel_rfl) (by kernel_rfl) (by kernel_rfl) (fun _ _ _ h => h) (Or.inl ⟨by rfl, fun wx _ => by go_simp⟩) hS ?_
          try simp only [Act.put, List.setIfInBounds_toArray, List.set_cons_zero, List.set_cons_succ]
          refine takeH 1 (some 69) (.int .i64 (j : Int)) rfl rfl (by kernel_rfl) (by kernel_rfl) (by kernel_rfl) (fun _ _ _ h => h) (Or.inl ⟨by rfl, fun wx _ => by go_simp⟩) hS ?_
          try simp only [Act.put, List.setIfInBounds_toArray, List.set_cons_zero, List.set_cons_succ]
          refine takeH 2 (some 70) (.pointer (some ⟨b3, o3 + j * 7, none⟩)) rfl rfl (by kernel_rfl) (by kernel_rfl) (by kernel_rfl) (fun _ _ _ h => h) (Or.inl ⟨by rfl, fun wx _ => by go_simp⟩) hS ?_
          try simp only [Act.put, List.setIfInBounds_toArray, List.set_cons_zero, List.set_cons_succ]
          refine takeH 3 (some 71) (.agg (scell t (.slice p3 t.l.length c3))) rfl rfl (by kernel_rfl) (by kernel_rfl) (by kernel_rfl) (fun _ _ _ h => h) (yieldsIf_load_mid (by rfl) 24 (.tmp 70) rfl b3 (o3 + j * 7) (by rfl) (scell t (.slice p3 t.l.length c3)).toList _ (fun _ h => h.1) Tryz.underlying24 rfl size24) hS ?_
          try simp only [Act.put, List.setIfInBounds_toArray, List.set_cons_zero, List.set_cons_succ]
          refine takeH 4 (some 72) (.slice (some ⟨b4, o4, none⟩) qs.length k4) rfl rfl (by kernel_rfl) (by kernel_rfl) (by kernel_rfl) (fun _ _ _ h => h) (Or.inl ⟨by rfl, fun wx _ => by go_simp⟩) hS ?_
          try simp only [Act.put, List.setIfInBounds_toArray, List.set_cons_zero, List.set_cons_succ]
          refine takeH 5 (some 73) (.int .i64 (j : Int)) rfl rfl (by kernel_rfl) (by kernel_rfl) (by kernel_rfl) (fun _ _ _ h => h) (Or.inl ⟨by rfl, fun wx _ => by go_simp⟩) hS ?_
          try simp only [Act.put, List.setIfInBounds_toArray, List.set_cons_zero, List.set_cons_succ]
          refine takeH 6 (some 74) (.pointer (some ⟨b4, o4 + j * 7, none⟩)) rfl rfl (by kernel_rfl) (by kernel_rfl) (by kernel_rfl) (fun _ _ _ h => h) (Or.inl ⟨by rfl, fun wx _ => by go_simp⟩) hS ?_
          try simp only [Act.put, List.setIfInBounds_toArray, List.set_cons_zero, List.set_cons_succ]
          refine takeH 7 (some 75) (.agg (scell t (.slice p4 t.l.length c4))) rfl rfl (by kernel_rfl) (by kernel_rfl) (by kernel_rfl) (fun _ _ _ h => h) (yieldsIf_load_mid (by rfl) 24 (.tmp 74) rfl b4 (o4 + j * 7) (by rfl) (scell t (.slice p4 t.l.length c4)).toList _ (fun _ h => h.2) Tryz.underlying24 rfl size24) hS ?_
          try simp only [Act.put, List.setIfInBounds_toArray, List.set_cons_zero, List.set_cons_succ]
          refine wpAnyH_ready (rs := [8]) (by kernel_rfl) (by simp) (AllReadyH.cons rfl (fun K hK => ?_) AllReadyH.nil)
          go_simp
          go_at_call 10
          refine (lsame_any _ t t _ _ (HR3.out.keep (Keeps.drewN _ wr 1)) (HR4.out.keep (Keeps.drewN _ wr 1)) HTL.out).mono ?_
          rintro e w5 ⟨rfl, hk5⟩
          rw [smF_refl]
          have HK5 := Hid.mk' ((Keeps.drewN (fun _ => False) wr 1).trans hk5)
          refine hK.out _ _ ⟨fun j u hj => hk5.cell (hS.1 j u hj) id, fun j u hj => hk5.cell (hS.2 j u hj) id⟩ (fun hS => ?_)
          clear hK hk5
          try simp only [Act.put, List.setIfInBounds_toArray, List.set_cons_zero, List.set_cons_succ]
          refine takeH 9 (some 77) (.bool false) rfl rfl (by kernel_rfl) (by kernel_rfl) (by kernel_rfl) (fun _ _ _ h => h) (Or.inl ⟨by rfl, fun wx _ => by go_simp⟩) hS ?_
          try simp only [Act.put, List.setIfInBounds_toArray, List.set_cons_zero, List.set_cons_succ]
          refine wpAnyH_done (by kernel_rfl) ?_ _
          clear hS
          go_wp2
          go_roundw
          case rel => exact ⟨j + 1, by omega, by go_num, HW.out.trans HK5.out⟩
          case measure => simp [intOf]; omega
        · have h4' : ¬ (j : Int) < (l.length : Int) := by omega
          go_wp2_with (first
            | (go_at_call 13; refine (h13 _ HW.out).mono ?_; clear h13; rintro e w2 ⟨rfl, hk2⟩; have HK2 := Hid.mk' hk2; clear hk2))
          go_ret
          exact ⟨by first | rfl | simp, (HD1.out.1.k.trans HW.out).trans HK2.out⟩
end Go.Proofs.YtdlhdompemkjfaaGreatDoor
