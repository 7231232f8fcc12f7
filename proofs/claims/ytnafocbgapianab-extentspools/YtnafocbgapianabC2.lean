import Derived.Test.YtnafocbgapianabC0
namespace Go.Proofs.Ytnafocbgapianab
open Go.RowKit

set_option maxHeartbeats 8000000 in
set_option maxRecDepth 20000 in
theorem played_any {w0 : World} {B d k hb : Nat} {s : Sh} {S H : Nat → Bool} {w : World} (h : Duo w0 B d k hb s S H w) (p : Option Addr) (cap : Nat) (l : List (Bool × Int × Int)) (hl : MvIn w0 p l) (hB : w0.heap.size ≤ B) (hll : l.length ≤ maxLen) :
    Calls Try.prog 12 #[.pointer (some ⟨d, 0, none⟩), .pointer (some ⟨k, 0, none⟩), .slice p l.length cap] w fun e w' => e = .returned (.bool true) ∧ (∃ S' H', Duo w0 B d k hb s S' H' w') ∧ Keeps (fun j => (j = d ∨ j = k ∨ j = hb) ∨ w.heap.size ≤ j) w w' := by
  unfold maxLen at hll
  have hg := h.pool.good
  have hpg : s.pages ≤ 1024 := hg.2.1
  have h8 : s.cores ≤ 8 := hg.2.2.2.2.2.2.1
  have h1c : 1 ≤ s.cores := hg.2.2.2.2.2.1
  have h24 : 24 ≤ s.pages := hg.1
  have hp40 := fun c w => place_any c 40 w (by omega) (by omega)
  have hpP := fun c w => place_any c s.pages w (by omega) (by omega)
  have hpC := fun c w => place_any c s.cores w (by omega) (by omega)
  have HD0 := Hid.mk' h
  have HLI := Hid.mk' hl
  clear h hl hg
  go_enter Try.func12, Try.ntmps12
  go_wp2
  go_loopw [7] (fun iv wr => ∃ i : Nat, i ≤ l.length ∧ iv = .int .i64 i ∧ Hid (∃ S H, Duo w0 B d k hb s S H wr ∧ Keeps (fun j => (j = d ∨ j = k ∨ j = hb) ∨ w.heap.size ≤ j) w wr)) (fun iv _ => l.length - (intOf iv).toNat)
  case atStart => exact ⟨0, by omega, rfl, _, _, HD0.out, Keeps.refl _ _⟩
  case round =>
    obtain ⟨i, hi, rfl, hrel⟩ := hrel
    obtain ⟨S, H, hduo, hkw⟩ := hrel.out
    have HKW := Hid.mk' hkw
    have hws := hkw.size
    clear hrel hkw
    by_cases hlt : i < l.length
    · have hlt' : (i : Int) < (l.length : Int) := by omega
      obtain ⟨b, o, rfl, hbs, hcs⟩ := HLI.out (by omega)
      have HMV : Hid (∀ wx, Keeps (fun j => B ≤ j) w0 wx → (wx.cell? ⟨b, o + i * 3, none⟩ = some (.bool (l.getD i (false, 0, 0)).1) ∧ wx.cell? ⟨b, o + i * 3 + 1, none⟩ = some (.int .i64 (l.getD i (false, 0, 0)).2.1) ∧ wx.cell? ⟨b, o + i * 3 + 2, none⟩ = some (.int .i64 (l.getD i (false, 0, 0)).2.2))) := by
        intro wx h1
        have h2 := hcs i hlt
        exact ⟨h1.cell h2.1 (by simp; omega), h1.cell h2.2.1 (by simp; omega), h1.cell h2.2.2 (by simp; omega)⟩
      clear hcs
      generalize l.getD i (false, 0, 0) = mv at *
      obtain ⟨bk, mn, mm⟩ := mv
      simp only at HMV
      obtain ⟨e1, e2, e3⟩ := HMV.out wr hduo.keep
      obtain ⟨k0, k2, k3, k4, k5, kf⟩ := hduo.book.cells
      cases bk with
      | true =>
        have hso := fun m => duo_some (hduo.drewN m) (plc mn 40) (plc mm s.pages) (by have := plc_lt mn (show 1 ≤ 40 by omega); omega) (by have := plc_lt mm (show 1 ≤ s.pages by omega); omega)
        have hpm := hp40 mn
        have hpn := hpP mm
        generalize plc mn 40 = n at *
        generalize plc mm s.pages = at_ at *
        have HDU := Hid.mk' hduo
        clear hduo kf k2 k3 k4 k5
        go_wp2
        go_region_held3 (fun wx => wx.cell? ⟨b, o + i * 3 + 1, none⟩ = some (.int .i64 mn) ∧ wx.cell? ⟨b, o + i * 3 + 2, none⟩ = some (.int .i64 mm) ∧ wx.cell? ⟨k, 0, none⟩ = some (.int .i64 s.pages))
          (first | go_keep)
          (first
            | (go_at_call_of 16 mn; refine (hpm _).mono ?_; rintro e w6 ⟨rfl, hw6⟩; subst w6)
            | (go_at_call_of 16 mm; refine (hpn _).mono ?_; rintro e w6 ⟨rfl, hw6⟩; subst w6)
            | (go_at_call 42; refine (hso _).mono ?_; rintro e w7 ⟨v7, rfl, hx1, hx2⟩
               have hK7 : Keeps (fun j => B ≤ j) w0 w7 := by obtain ⟨_, _, q⟩ := hx1; exact q.2.2.2.2.2.2.2.2.1
               have hB7 : w7.cell? ⟨k, 0, none⟩ = some (.int .i64 s.pages) := by obtain ⟨_, _, q⟩ := hx1; exact q.2.2.2.1.cells.1
               obtain ⟨f1, f2, f3⟩ := HMV.out w7 hK7
               have HX := Hid.mk' hx1
               have HX2 : Hid (Keeps (fun j => (j = k ∨ j = hb) ∨ wr.heap.size ≤ j) wr w7) := (Keeps.drewN _ wr 0).trans ⟨hx2.os, hx2.tape, hx2.output, hx2.size, hx2.block⟩
               clear hx1 hx2 hK7))
        clear hso hpm hpn
        go_wp2_with (first
          | (go_at_call 21; refine (mid_give HX.out).mono ?_; rintro e w8 ⟨rfl, ⟨S8, H8, hd8⟩, hk8⟩; have HD8 := Hid.mk' hd8; have HK8 := Hid.mk' hk8; clear hd8 hk8))
        go_roundw
        case rel =>
          refine ⟨i + 1, by omega, by go_num, _, _, HD8.out, ?_⟩
          refine (HKW.out.then HX2.out (fun j hj => ?_)).then HK8.out (fun j hj => ?_)
          · omega
          · have := HX2.out.size; omega
        case measure => simp [intOf]; omega
      | false =>
        have hpm := hp40 mm
        have hpn := hpC mn
        have hn40 := plc_lt mm (show 1 ≤ 40 by omega)
        have hcc := plc_lt mn h1c
        by_cases hle : plc mm 40 ≤ cn S s.pages
        · have hta := fun m => duo_take (hduo.drewN m) (plc mn s.cores) (plc mm 40) hcc hle
          generalize plc mn s.cores = core at *
          generalize plc mm 40 = n at *
          have HDU := Hid.mk' hduo
          clear hduo kf k0 k3 k4 k5
          go_wp2
          go_region_held3 (fun wx => wx.cell? ⟨b, o + i * 3 + 1, none⟩ = some (.int .i64 mn) ∧ wx.cell? ⟨b, o + i * 3 + 2, none⟩ = some (.int .i64 mm) ∧ wx.cell? ⟨k, 2, none⟩ = some (.int .i64 s.cores))
            (first | go_keep)
            (first
              | (go_at_call_of 16 mn; refine (hpn _).mono ?_; rintro e w6 ⟨rfl, hw6⟩; subst w6)
              | (go_at_call_of 16 mm; refine (hpm _).mono ?_; rintro e w6 ⟨rfl, hw6⟩; subst w6)
              | (go_at_call 17; refine (hta _).mono ?_; rintro e w7 ⟨v7, rfl, hx1, hx2⟩
                 have hK7 : Keeps (fun j => B ≤ j) w0 w7 := by obtain ⟨_, _, q⟩ := hx1; exact q.2.2.2.2.2.2.2.2.2.1
                 have hB7 : w7.cell? ⟨k, 2, none⟩ = some (.int .i64 s.cores) := by obtain ⟨_, _, q⟩ := hx1; exact q.2.2.2.2.1.cells.2.1
                 obtain ⟨f1, f2, f3⟩ := HMV.out w7 hK7
                 have HX := Hid.mk' hx1
                 have HX2 : Hid (Keeps (fun j => j = d ∨ wr.heap.size ≤ j) wr w7) := (Keeps.drewN _ wr 0).trans ⟨hx2.os, hx2.tape, hx2.output, hx2.size, hx2.block⟩
                 clear hx1 hx2 hK7))
          clear hta hpm hpn
          go_wp2_with (first
            | (go_at_call 43; refine (got_took HX.out (by omega)).mono ?_; rintro e w8 ⟨rfl, ⟨S8, H8, hd8, hh8⟩, hk8⟩; have HD8 := Hid.mk' hd8; have HK8 := Hid.mk' hk8; clear hd8 hk8 hh8))
          go_roundw
          case rel =>
            refine ⟨i + 1, by omega, by go_num, _, _, HD8.out, ?_⟩
            refine (HKW.out.then HX2.out (fun j hj => ?_)).then HK8.out (fun j hj => ?_)
            · omega
            · omega
          case measure => simp [intOf]; omega
        · have hta := fun m => take_full (wr.drewN m) d s S (hduo.drewN m).pool (plc mn s.cores : Int) (plc mm 40 : Int) (by omega) (by omega)
          generalize plc mn s.cores = core at *
          generalize plc mm 40 = n at *
          have HDU := Hid.mk' hduo
          clear hduo kf k0 k3 k4 k5
          go_wp2
          go_region_held3 (fun wx => wx.cell? ⟨b, o + i * 3 + 1, none⟩ = some (.int .i64 mn) ∧ wx.cell? ⟨b, o + i * 3 + 2, none⟩ = some (.int .i64 mm) ∧ wx.cell? ⟨k, 2, none⟩ = some (.int .i64 s.cores))
            (first | go_keep)
            (first
              | (go_at_call_of 16 mn; refine (hpn _).mono ?_; rintro e w6 ⟨rfl, hw6⟩; subst w6)
              | (go_at_call_of 16 mm; refine (hpm _).mono ?_; rintro e w6 ⟨rfl, hw6⟩; subst w6)
              | (go_at_call 17; refine (hta _).mono ?_; rintro e w7 ⟨rfl, hw7⟩; subst w7))
          clear hta hpm hpn
          go_wp2_with (first
            | (go_at_call 43; refine (duo_took_nil (HDU.out.drewN _)).mono ?_; rintro e w8 ⟨rfl, hd8, hk8⟩; have HD8 := Hid.mk' hd8; have HK8 : Hid (Keeps (fun j => j = k ∨ j = hb) wr w8) := (Keeps.drewN _ wr 0).trans ⟨hk8.os, hk8.tape, hk8.output, hk8.size, hk8.block⟩; clear hd8 hk8))
          go_roundw
          case rel =>
            refine ⟨i + 1, by omega, by go_num, _, _, HD8.out, ?_⟩
            refine HKW.out.then HK8.out (fun j hj => ?_)
            omega
          case measure => simp [intOf]; omega
    · have hlt' : ¬ (i : Int) < (l.length : Int) := by omega
      have HDU := Hid.mk' hduo
      clear hduo
      go_wp2
      go_ret
      exact ⟨rfl, ⟨_, _, HDU.out⟩, HKW.out⟩

end Go.Proofs.Ytnafocbgapianab
