/- What the rows of laws with lists among their arguments want: a list that came in, opened. -/
import Derived.Test.YtglfjlbhjaemgaaGreatDoorPk15
import Derived.ProofKit
import Derived.SizedLaws
import Derived.ChangeSlices
import Derived.Carry
namespace Go.Proofs.YtglfjlbhjaemgaaGreatDoor
open Go.ChangeShapes Go.WideShapes Go.ChangeAt Go.RowKit
theorem Tryz.laidOut : laidOutB Tryz.prog = true := by kernel_rfl
theorem Tryz.cells3 : Tryz.prog.cellsOf 3 = 1 := by kernel_rfl
theorem Tryz.bytes3 : Tryz.prog.bytesOf 3 = 8 := by kernel_rfl
theorem open_row {H : Type} {enc : TypeId × Value → H} {W : World} {t e : TypeId} {k : IntKind} {A : Option Addr} {l c : Nat} {d : DataW H} {p : List MemPlace} (ht : Tryz.prog.underlying t = some (.slice e)) (he : Tryz.prog.underlying e = some (.int k)) (hc : Tryz.prog.cellsOf e = 1)
    (h : DataW.Trod enc Tryz.prog W 0 (fun _ => true) true t (.slice A l c) d p) :
    ∃ zs : List Int, zs.length = l ∧ (0 < l → ∃ b o, A = some ⟨b, o, none⟩ ∧ ∀ j v, zs[j]? = some v → W.cell? ⟨b, o + j, none⟩ = some (.int k v)) ∧ (∀ z ∈ zs, (Lit.int k z).wf = true) ∧ (0 < l → ∃ elems spare, d = .slice elems spare ∧ elems.length = l) := by
  obtain ⟨fuel, hf⟩ := h
  rcases open_ints ht he hc hf with ⟨hcs, hx⟩ | ⟨a, len', cap', zs, hcs, _, hl, hm, hz, hx, hcell, hwz⟩
  · simp [Value.cells] at hcs
    obtain ⟨rfl, rfl, rfl⟩ := hcs
    exact ⟨[], rfl, fun h => absurd h (Nat.not_lt_zero _), fun z hz => (by cases hz), fun h => absurd h (Nat.not_lt_zero _)⟩
  · simp [Value.cells] at hcs
    obtain ⟨rfl, rfl, rfl⟩ := hcs
    simp only [Prod.mk.injEq] at hx
    obtain ⟨rfl, rfl⟩ := hx
    simp only [if_true] at hz
    refine ⟨zs.take l, by rw [List.length_take]; omega, fun hl0 => ?_, fun z hz' => hwz z (List.mem_of_mem_take hz'), fun _ => ⟨_, _, rfl, by simp only [lits, List.length_map, List.length_take]; omega⟩⟩
    obtain ⟨b, off, spot⟩ := a
    have hspot : spot = none := by simpa [Addr.add] using World.cell?_spot (hcell 0 (by omega))
    subst hspot
    refine ⟨b, off, rfl, fun j v hj => ?_⟩
    have hjl : j < l := by
      have := (List.getElem?_eq_some_iff.1 hj).1
      rw [List.length_take] at this
      omega
    rw [List.getElem?_take, if_pos hjl] at hj
    have := hcell j (by omega)
    rw [add_plain, List.getD_eq_getElem?_getD, hj, Option.getD_some] at this
    exact this
/-- A list of ints that came in. -/
theorem open_nums {H : Type} {enc : TypeId × Value → H} {W : World} {A : Option Addr} {l c : Nat} {d : DataW H} {p : List MemPlace} (h : DataW.Trod enc Tryz.prog W 0 (fun _ => true) true 24 (.slice A l c) d p)
    (hs : ∀ elems spare, d = .slice elems spare → (elems.length + spare.length) * Tryz.prog.bytesOf 3 ≤ reachBytes) : ∃ ks : List Int, ks.length = l ∧ Nums W A ks ∧ ks.length * 8 ≤ 140737488355328 := by
  obtain ⟨zs, rfl, hc, _, hd⟩ := open_row Tryz.underlying24 Tryz.underlying3 Tryz.cells3 h
  refine ⟨zs, rfl, hc, ?_⟩
  rcases Nat.eq_zero_or_pos zs.length with h0 | h0
  · omega
  · obtain ⟨el, sp, hde, hl⟩ := hd h0
    have := hs el sp hde
    rw [Tryz.bytes3] at this
    simp only [reachBytes] at this
    omega
end Go.Proofs.YtglfjlbhjaemgaaGreatDoor
