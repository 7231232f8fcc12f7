import Derived.Test.YtfekgfimbkgkfabY4
import Derived.Test.YtfekgfimbkgkfabY5
import Derived.Test.YtfekgfimbkgkfabS8
import Derived.Test.YtfekgfimbkgkfabS5
namespace Go.Proofs.Ytfekgfimbkgkfab
open Go.RowKit Go.Maps

/-- What leads holds: the path in its box, the copy in its own. -/
structure LD (w : World) (v : Value) (p : List ByteArray) (sl : Bool) (bk : Nat) (vk : Value) (W : World) : Prop where
  kp : Keeps (fun _ => False) w W
  pb : PB W w.heap.size v p sl
  kb : PB W bk vk p sl
theorem LD.keep {w : World} {v : Value} {p : List ByteArray} {sl : Bool} {bk : Nat} {vk : Value} {W W' : World} (h : LD w v p sl bk vk W) (k : Keeps (fun _ => False) W W') : LD w v p sl bk vk W' := ⟨h.kp.trans k, h.pb.keep k, h.kb.keep k⟩

set_option maxHeartbeats 4000000 in
set_option maxRecDepth 100000 in
theorem leads_any (w : World) (x bm n : Nat) (l : List Ed) (hT : TabAt w x bm n (tabF l)) (hF : wfF (tabF l)) (ve : Value) (he : Row w ve l.length (ecells l)) (hl : l.length ≤ 3518437208780) (v : Value) (p : List ByteArray) (sl : Bool) (h : Row w v p.length (strs p)) (hp : PsOk p) (both : Int) :
    Calls Try.prog 41 #[.pointer (some ⟨x, 0, none⟩), ve, .agg #[v, .bool sl], .int .i64 both] w fun e w' => e = .returned (.bool true) ∧ Keeps (fun _ => False) w w' := by
  have hA : Keeps (fun _ => False) w (w.alloc (.cells #[v, .bool sl] 25)) := (Keeps.refl _ w).alloc _
  have hB := heap_last w (.cells #[v, .bool sl] 25)
  have h19 := copyPath_any (w.alloc (.cells #[v, .bool sl] 25)) v p sl (h.keep hA) hp.1
  obtain ⟨pa, pc, rfl, _⟩ := id h
  obtain ⟨ea, ecp, rfl, _⟩ := id he
  obtain ⟨c0, c1, _⟩ := cells2 hB
  have h14 : ∀ W', Hid (Keeps (fun _ => False) w W') → Calls Try.prog 14 #[.iface 26 (.pointer (some ⟨x, 0, none⟩)), .agg #[.slice pa p.length pc, .bool sl]] W' fun e w' => e = .returned (.tuple #[.int .i64 (rsv (tabF l) p sl).1, .bool (rsv (tabF l) p sl).2.1, .int .i64 (rsv (tabF l) p sl).2.2]) ∧ Keeps (fun _ => False) W' w' := fun W' hk => resolve_any W' x bm n (tabF l) (hT.grow hk.out) hF _ p sl (h.keep hk.out) hp.1 hp.2
  have h22 : ∀ W', Hid (Keeps (fun _ => False) w W') → Calls Try.prog 22 #[.iface 26 (.pointer (some ⟨x, 0, none⟩)), .agg #[.slice pa p.length pc, .bool sl]] W' fun e w' => e = .returned (.tuple #[.int .i64 (prn (tabF l) p).1, .string (prn (tabF l) p).2.1, .int .i64 (prn (tabF l) p).2.2]) ∧ Keeps (fun _ => False) W' w' := fun W' hk => parent_any W' x bm n (tabF l) (hT.grow hk.out) hF _ p sl (h.keep hk.out) hp.1 hp.2
  have h47 : ∀ (W' : World) (vk : Value), Hid (Keeps (fun _ => False) w W' ∧ Row W' vk p.length (strs p)) → Calls Try.prog 47 #[.slice ea l.length ecp, .agg #[vk, .bool sl]] W' fun e w' => e = .returned (.tuple #[.int .i64 (rsv (tabF l) p sl).1, .bool (rsv (tabF l) p sl).2.1, .int .i64 (rsv (tabF l) p sl).2.2]) ∧ Keeps (fun _ => False) W' w' := fun W' vk hk => rresolve_any W' _ l (he.keep hk.out.1) hl vk p sl hk.out.2 hp.1
  have h48 : ∀ (W' : World) (vk : Value), Hid (Keeps (fun _ => False) w W' ∧ Row W' vk p.length (strs p)) → Calls Try.prog 48 #[.slice ea l.length ecp, .agg #[vk, .bool sl]] W' fun e w' => e = .returned (.tuple #[.int .i64 (prn (tabF l) p).1, .string (prn (tabF l) p).2.1, .int .i64 (prn (tabF l) p).2.2]) ∧ Keeps (fun _ => False) W' w' := fun W' vk hk => rparent_any W' _ l (he.keep hk.out.1) hl vk p sl hk.out.2 hp.1
  have HA := Hid.mk' (And.intro hA (And.intro hB h))
  have hpl := hp.1
  generalize rsv (tabF l) p sl = y at h14 h47
  generalize prn (tabF l) p = z at h22 h48
  obtain ⟨yn, yb, ye⟩ := y
  obtain ⟨zn, zs, ze⟩ := z
  dsimp only at h14 h22 h47 h48
  have hzs : (zs.toList == zs.toList) = true := by simp
  clear hA hB h he hT hF hp
  by_cases h5 : both = 5
  · subst h5
    go_enter Try.func41, Try.ntmps41
    go_wp2_with (first
      | (go_at_call 19; refine h19.mono ?_; clear h19; rintro e w1 ⟨r, rfl, H1⟩
         obtain ⟨ra, rc, er, _⟩ := Row.of_own H1.out.1
         subst er
         have HD : Hid (LD w (.slice pa p.length pc) p sl w1.heap.size (.slice ra p.length rc) (w1.alloc (.cells #[.slice ra p.length rc, .bool sl] 25))) := by
           have ha : Keeps (fun _ => False) w1 (w1.alloc (.cells #[.slice ra p.length rc, .bool sl] 25)) := (Keeps.refl _ w1).alloc _
           exact ⟨(HA.out.1.trans H1.out.2).trans ha, ⟨(H1.out.2.trans ha).at HA.out.2.1 id, HA.out.2.2.keep ((HA.out.1.trans H1.out.2).trans ha)⟩, ⟨heap_last _ _, (Row.of_own H1.out.1).keep ha⟩⟩
         have y0 := HD.out.pb.c0
         have y1 := HD.out.pb.c1
         have y2 := HD.out.kb.c0
         have y3 := HD.out.kb.c1
         clear H1)
      | (go_at_call 14; refine (h14 _ HD.out.kp).mono ?_; clear h14; rintro e w2 ⟨rfl, hk⟩
         have HD2 := Hid.mk' (HD.out.keep hk)
         have y0 := HD2.out.pb.c0
         have y1 := HD2.out.pb.c1
         have y2 := HD2.out.kb.c0
         have y3 := HD2.out.kb.c1
         clear hk)
      | (go_at_call 47; refine (h47 _ _ ⟨HD2.out.kp, HD2.out.kb.row⟩).mono ?_; clear h47; rintro e w3 ⟨rfl, hk⟩
         have HD3 := Hid.mk' (HD2.out.keep hk)
         have y0 := HD3.out.pb.c0
         have y1 := HD3.out.pb.c1
         have y2 := HD3.out.kb.c0
         have y3 := HD3.out.kb.c1
         clear hk)
      | (go_at_call 37; refine (rsame_any _ _ _ p p sl sl HD3.out.pb.row HD3.out.kb.row hpl).mono ?_; rintro e w9 ⟨rfl, hk9⟩))
    go_ret
    exact ⟨by simp, HD3.out.kp.trans hk9⟩
  · by_cases h6 : both = 6
    · subst h6
      go_enter Try.func41, Try.ntmps41
      go_wp2_with (first
        | (go_at_call 19; refine h19.mono ?_; clear h19; rintro e w1 ⟨r, rfl, H1⟩
           obtain ⟨ra, rc, er, _⟩ := Row.of_own H1.out.1
           subst er
           have HD : Hid (LD w (.slice pa p.length pc) p sl w1.heap.size (.slice ra p.length rc) (w1.alloc (.cells #[.slice ra p.length rc, .bool sl] 25))) := by
             have ha : Keeps (fun _ => False) w1 (w1.alloc (.cells #[.slice ra p.length rc, .bool sl] 25)) := (Keeps.refl _ w1).alloc _
             exact ⟨(HA.out.1.trans H1.out.2).trans ha, ⟨(H1.out.2.trans ha).at HA.out.2.1 id, HA.out.2.2.keep ((HA.out.1.trans H1.out.2).trans ha)⟩, ⟨heap_last _ _, (Row.of_own H1.out.1).keep ha⟩⟩
           have y0 := HD.out.pb.c0
           have y1 := HD.out.pb.c1
           have y2 := HD.out.kb.c0
           have y3 := HD.out.kb.c1
           clear H1)
        | (go_at_call 22; refine (h22 _ HD.out.kp).mono ?_; clear h22; rintro e w4 ⟨rfl, hk⟩
           have HD4 := Hid.mk' (HD.out.keep hk)
           have y0 := HD4.out.pb.c0
           have y1 := HD4.out.pb.c1
           have y2 := HD4.out.kb.c0
           have y3 := HD4.out.kb.c1
           clear hk)
        | (go_at_call 48; refine (h48 _ _ ⟨HD4.out.kp, HD4.out.kb.row⟩).mono ?_; clear h48; rintro e w5 ⟨rfl, hk⟩
           have HD5 := Hid.mk' (HD4.out.keep hk)
           have y0 := HD5.out.pb.c0
           have y1 := HD5.out.pb.c1
           have y2 := HD5.out.kb.c0
           have y3 := HD5.out.kb.c1
           clear hk)
        | (go_at_call 37; refine (rsame_any _ _ _ p p sl sl HD5.out.pb.row HD5.out.kb.row hpl).mono ?_; rintro e w9 ⟨rfl, hk9⟩))
      go_ret
      exact ⟨by simp, HD5.out.kp.trans hk9⟩
    · go_enter Try.func41, Try.ntmps41
      go_wp2_with (first
        | (go_at_call 19; refine h19.mono ?_; clear h19; rintro e w1 ⟨r, rfl, H1⟩
           obtain ⟨ra, rc, er, _⟩ := Row.of_own H1.out.1
           subst er
           have HD : Hid (LD w (.slice pa p.length pc) p sl w1.heap.size (.slice ra p.length rc) (w1.alloc (.cells #[.slice ra p.length rc, .bool sl] 25))) := by
             have ha : Keeps (fun _ => False) w1 (w1.alloc (.cells #[.slice ra p.length rc, .bool sl] 25)) := (Keeps.refl _ w1).alloc _
             exact ⟨(HA.out.1.trans H1.out.2).trans ha, ⟨(H1.out.2.trans ha).at HA.out.2.1 id, HA.out.2.2.keep ((HA.out.1.trans H1.out.2).trans ha)⟩, ⟨heap_last _ _, (Row.of_own H1.out.1).keep ha⟩⟩
           have y0 := HD.out.pb.c0
           have y1 := HD.out.pb.c1
           have y2 := HD.out.kb.c0
           have y3 := HD.out.kb.c1
           clear H1)
        | (go_at_call 14; refine (h14 _ HD.out.kp).mono ?_; clear h14; rintro e w2 ⟨rfl, hk⟩
           have HD2 := Hid.mk' (HD.out.keep hk)
           have y0 := HD2.out.pb.c0
           have y1 := HD2.out.pb.c1
           have y2 := HD2.out.kb.c0
           have y3 := HD2.out.kb.c1
           clear hk)
        | (go_at_call 47; refine (h47 _ _ ⟨HD2.out.kp, HD2.out.kb.row⟩).mono ?_; clear h47; rintro e w3 ⟨rfl, hk⟩
           have HD3 := Hid.mk' (HD2.out.keep hk)
           have y0 := HD3.out.pb.c0
           have y1 := HD3.out.pb.c1
           have y2 := HD3.out.kb.c0
           have y3 := HD3.out.kb.c1
           clear hk)
        | (go_at_call 22; refine (h22 _ HD3.out.kp).mono ?_; clear h22; rintro e w4 ⟨rfl, hk⟩
           have HD4 := Hid.mk' (HD3.out.keep hk)
           have y0 := HD4.out.pb.c0
           have y1 := HD4.out.pb.c1
           have y2 := HD4.out.kb.c0
           have y3 := HD4.out.kb.c1
           clear hk)
        | (go_at_call 48; refine (h48 _ _ ⟨HD4.out.kp, HD4.out.kb.row⟩).mono ?_; clear h48; rintro e w5 ⟨rfl, hk⟩
           have HD5 := Hid.mk' (HD4.out.keep hk)
           have y0 := HD5.out.pb.c0
           have y1 := HD5.out.pb.c1
           have y2 := HD5.out.kb.c0
           have y3 := HD5.out.kb.c1
           clear hk)
        | (go_at_call 37; refine (rsame_any _ _ _ p p sl sl HD5.out.pb.row HD5.out.kb.row hpl).mono ?_; rintro e w9 ⟨rfl, hk9⟩))
      go_ret
      exact ⟨by simp, HD5.out.kp.trans hk9⟩
end Go.Proofs.Ytfekgfimbkgkfab
