/- The table of four steps, wherever it stands on the row's list. -/
import Derived.Test.YtglfjlbhjaemgaaGreatDoorPl45
import Derived.Lib.LaidU8
import Derived.Lay
namespace Go.Proofs.YtglfjlbhjaemgaaGreatDoor
open Go.ChangeShapes Go.WideShapes Go.ChangeAt Go.RowKit
theorem tab_of_reads {W : World} (h : Lib.VarReads Tryz.prog W "headgate/crc.steps" Rows.laid_headgate_crc_steps) : Tab W := by
  obtain ⟨g0, t0, cs0, f0, p0, hg0, ht0, hv0, hd0⟩ := h
  obtain rfl := Option.some.inj (gSteps.symm.trans hg0)
  obtain rfl := Option.some.inj (tSteps.symm.trans ht0)
  obtain ⟨xs, m1, rfl, hx1, hlen, hn, hel⟩ := DataW.trod_array Tryz.underlying353 hd0
  rw [cells38] at hlen
  have hc : ∀ i, i < 16 → W.cell? ⟨1, i, none⟩ = some (.int .u32 (st4 i : Nat)) := by
    intro i hi
    have h0 := hel i hi
    rw [cells22] at h0
    have hx : xs[i]? = some xs[i] := List.getElem?_eq_getElem (by omega)
    rw [hx] at h0
    obtain ⟨k, e1, e2, _⟩ := DataW.trod_int Tryz.underlying122 h0
    have hxa := laid_all.symm.trans (Prod.mk.inj hx1).1
    have hl := congrArg (fun l => l[i]?) (DataW.agg.inj hxa)
    simp only [List.getElem?_map, hx, Option.map_some, e2, List.getElem?_range hi, Option.some.injEq, DataW.lit.injEq, Lit.int.injEq, true_and] at hl
    subst hl
    have hv := World.var?_cell hg0 hv0 i
    rw [hv]
    have hlt : i < cs0.toList.length := by omega
    rw [Nat.mul_one] at e1
    have e3 : cs0.toList.drop i = cs0.toList[i] :: cs0.toList.drop (i + 1) := List.drop_eq_getElem_cons hlt
    rw [e3] at e1
    simp at e1
    rw [← e1]
    simp at hlt
    rw [Array.getElem?_eq_getElem hlt]
  refine ⟨?_, hc⟩
  have h0 := hc 0 (by decide)
  rcases Nat.lt_or_ge 1 W.heap.size with hz | hz
  · exact hz
  · exfalso
    have : W.heap[1]? = none := Array.getElem?_eq_none hz
    simp [World.cell?, this] at h0
theorem tab_of_list {W : World} {l : List (String × DataW Unit)} (hp : (l.all fun x => x.2.handleName?.isNone) = true) (hm : ("headgate/crc.steps", (Rows.laid_headgate_crc_steps : DataW Unit)) ∈ l) (h : laidMetH Tryz.prog l W) : Tab W := by
  rw [MakeChecks.laidMetH_plain _ _ _ hp] at h
  exact tab_of_reads (Lib.laidMet.reads h hm)
end Go.Proofs.YtglfjlbhjaemgaaGreatDoor
