import Derived.Test.YtfiekdgpdboolabH2
namespace Go.Proofs.Ytfiekdgpdboolab
open Go.RowKit Go.Maps

theorem calm_pd {w : World} {F : Nat → Prop} {d : Nat} {S : St} {L : Lay} (h : DevAt w F d S L) (m : Nat) (hm : S.old.length = 64 * m) (a : Int) : ((S.flushN m).fence).pd a = [] := by
  have e : ((S.flushN m).fence).pd a = (S.pd a).drop ((S.flushN m).ms a) := by simp [St.fence, St.fenced, St.tick, flushN_pd]
  rw [e]
  by_cases hp : S.pd a = []
  · simp [hp]
  · have := h.dom a hp
    rw [flushN_ms S m a this.1 (by omega)]
    simp

theorem calm_old (S : St) (m : Nat) (hm : S.old.length = 64 * m) : ((S.flushN m).fence).old = S.view := by
  have hl : ((S.flushN m).fence).old.length = S.old.length := by
    have : ((S.flushN m).fence).old.length = (S.flushN m).tick.old.length := fenced_len _ _
    rw [this]; simp [St.tick, flushN_old]
  apply list_eq_getD 0
  · rw [hl, St.view, viewTo_len]
  · intro i hi
    rw [hl] at hi
    have e1 : ((S.flushN m).fence).old.getD i 0 = (S.flushN m).tick.byteIn (fun _ => false) i := fenced_get _ _ _ (by simp only [St.tick, flushN_old]; exact hi)
    rw [e1, St.view, viewTo_get _ _ _ hi]
    have e2 := flushN_ms S m (8 * (i / 8) : Nat) (by omega) (by omega)
    simp only [St.byteIn, St.viewIn, St.tick, flushN_pd, flushN_old, e2]
    generalize ((8 * (i / 8) : Nat) : Int) = a
    by_cases hp : S.pd a = []
    · rw [if_neg (by simp [hp]), if_neg (by simp [hp])]
    · have h0 : 0 < (S.pd a).length := by
        rcases hq : S.pd a with _ | ⟨q, l⟩
        · exact absurd hq hp
        · simp
      rw [if_pos ⟨trivial, h0⟩, if_pos ⟨trivial, hp⟩]

theorem view_calm (S : St) (h : ∀ a, S.pd a = []) : S.view = S.old := viewTo_start S _ (fun a _ => h a)

theorem cells_u8 {w : World} {g : Nat} {bs : List Int} (h : w.heap[g]? = some (.cells (u8s bs).toArray 5 (0, 0))) : ∀ i, i < bs.length → w.cell? ⟨g, i, none⟩ = some (.int .u8 (bs.getD i 0)) := by
  intro i hi
  simp [World.cell?, h, u8s, List.getD_eq_getElem?_getD, hi]

end Go.Proofs.Ytfiekdgpdboolab
