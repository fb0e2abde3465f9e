/- The table of what the types allow, as the row's list tells it. -/
import Derived.Test.YtgekadfkokkapaaDoorPk32
import Derived.Test.YtgekadfkokkapaaDoorRows
import Derived.LaidMore
import Derived.OpenShut
import Derived.Stop.Joined
import Derived.SevenTiedAt
import Derived.ShutString
import Derived.Lib.LaidU8
import Derived.Lay
namespace Go.Proofs.YtgekadfkokkapaaDoor
open Go.ChangeShapes Go.WideShapes Go.ChangeAt Go.RowKit
theorem Tryd.own : ownKnob Tryd.prog.godebug = none := by kernel_rfl
theorem gRules : Tryd.prog.globalNamed "headgate/access.rules" = some 0 := by kernel_rfl
theorem tRules : (Tryd.prog.globals[0]?).map (·.type) = some 87 := by kernel_rfl
theorem Tryd.cells87 : Tryd.prog.cellsOf 87 = 21 := by kernel_rfl
theorem Tryd.cells74 : Tryd.prog.cellsOf 74 = 3 := by kernel_rfl
theorem Tryd.cells72 : Tryd.prog.cellsOf 72 = 1 := by kernel_rfl
abbrev ruD (i : Nat) : DataW Unit := .agg [.lit (.int .i64 (gH i)), .lit (.int .i64 (gR i)), .lit (.int .i64 (gC i))]
theorem rules_all : (Rows.laid_headgate_access_rules : DataW Unit) = .agg ((List.range 7).map ruD) := by kernel_rfl
theorem take3 {cs : List Value} {a b c : Value} {j : Nat} (h : (cs.drop j).take 3 = [a, b, c]) : cs[j]? = some a ∧ cs[j + 1]? = some b ∧ cs[j + 2]? = some c := by
  have key : ∀ k v, k < 3 → [a, b, c][k]? = some v → cs[j + k]? = some v := fun k v hk hv => by
    rw [← h, List.getElem?_take, if_pos hk, List.getElem?_drop] at hv
    exact hv
  exact ⟨key 0 a (by omega) rfl, key 1 b (by omega) rfl, key 2 c (by omega) rfl⟩
theorem open_ru {enc : TypeId × Value → Unit} {W : World} {base : Nat} {sp : Nat → Bool} {held : Bool} {cs : List Value} {n : Nat} {x : DataW Unit × List MemPlace} (h : DataW.trod enc Tryd.prog W base sp held n 74 cs = some x) :
    ∃ a b c : Int, cs = [.int .i64 a, .int .i64 b, .int .i64 c] ∧ x.1 = .agg [.lit (.int .i64 a), .lit (.int .i64 b), .lit (.int .i64 c)] := by
  obtain ⟨xs, m, _, rfl, hcl, hxl, hf⟩ := DataW.trod_struct Tryd.underlying74 h
  rw [Tryd.cells74] at hcl
  have hxl' : xs.length = 3 := hxl
  match xs, hxl' with
  | [y0, y1, y2], _ =>
    have h0 : DataW.trod enc Tryd.prog W base sp held m 72 (List.take (Tryd.prog.cellsOf 72) (List.drop 0 cs)) = some y0 := hf 0 _ rfl
    have h1 : DataW.trod enc Tryd.prog W base sp held m 72 (List.take (Tryd.prog.cellsOf 72) (List.drop 1 cs)) = some y1 := hf 1 _ rfl
    have h2 : DataW.trod enc Tryd.prog W base sp held m 72 (List.take (Tryd.prog.cellsOf 72) (List.drop 2 cs)) = some y2 := hf 2 _ rfl
    rw [Tryd.cells72] at h0 h1 h2
    match cs, hcl with
    | [u, v, w], _ =>
      obtain ⟨a, e0, q0, _⟩ := DataW.trod_int Tryd.underlying72 h0
      obtain ⟨b, e1, q1, _⟩ := DataW.trod_int Tryd.underlying72 h1
      obtain ⟨c, e2, q2, _⟩ := DataW.trod_int Tryd.underlying72 h2
      simp at e0 e1 e2
      subst q0 q1 q2
      exact ⟨a, b, c, by rw [e0, e1, e2], rfl⟩
theorem rtab_of_reads {W : World} (h : Lib.VarReads Tryd.prog W "headgate/access.rules" Rows.laid_headgate_access_rules) : RTab W := by
  obtain ⟨g0, t0, cs0, f0, p0, hg0, ht0, hv0, hd0⟩ := h
  obtain rfl := Option.some.inj (gRules.symm.trans hg0)
  obtain rfl := Option.some.inj (tRules.symm.trans ht0)
  obtain ⟨xs, m1, rfl, hx1, hlen, hn, hel⟩ := DataW.trod_array Tryd.underlying87 hd0
  rw [Tryd.cells87] at hlen
  have hc : ∀ i, i < 7 → W.cell? ⟨0, i * 3, none⟩ = some (.int .i64 (gH i)) ∧ W.cell? ⟨0, i * 3 + 1, none⟩ = some (.int .i64 (gR i)) ∧ W.cell? ⟨0, i * 3 + 2, none⟩ = some (.int .i64 (gC i)) := by
    intro i hi
    have h0 := hel i hi
    rw [Tryd.cells74] at h0
    have hx : xs[i]? = some xs[i] := List.getElem?_eq_getElem (by omega)
    rw [hx] at h0
    obtain ⟨a, b, c, e1, e2⟩ := open_ru h0
    have hxa := rules_all.symm.trans (Prod.mk.inj hx1).1
    have hl := congrArg (fun l => l[i]?) (DataW.agg.inj hxa)
    simp only [List.getElem?_map, hx, Option.map_some, e2, List.getElem?_range hi, Option.some.injEq, DataW.agg.injEq, List.cons.injEq, DataW.lit.injEq, Lit.int.injEq, true_and, and_true] at hl
    obtain ⟨r0, r1, r2⟩ := hl
    subst r0 r1 r2
    obtain ⟨k0, k1, k2⟩ := take3 e1
    have hv := World.var?_cell hg0 hv0
    exact ⟨by rw [hv]; simpa using k0, by rw [hv]; simpa using k1, by rw [hv]; simpa using k2⟩
  refine ⟨?_, fun i hi => (hc i hi).1, fun i hi => (hc i hi).2.1, fun i hi => (hc i hi).2.2⟩
  exact World.block_lt_of_cell? W ⟨0, 0, none⟩ (hc 0 (by decide)).1
theorem rtab_of_list {W : World} {l : List (String × DataW Unit)} (hp : (l.all fun x => x.2.handleName?.isNone) = true) (hm : ("headgate/access.rules", (Rows.laid_headgate_access_rules : DataW Unit)) ∈ l) (h : laidMetH Tryd.prog l W) : RTab W := by
  rw [MakeChecks.laidMetH_plain _ _ _ hp] at h
  exact rtab_of_reads (Lib.laidMet.reads h hm)
end Go.Proofs.YtgekadfkokkapaaDoor
