/- The code's table, as the row's list tells it. -/
import Derived.Test.YthcaeihpdlgcaaaDoorSnP
import Derived.Test.YthcaeihpdlgcaaaDoorRows
import Derived.ProofKit
import Derived.LaidMore
import Derived.OpenShut
import Derived.Stop.Joined
import Derived.SevenTiedAt
import Derived.ShutString
import Derived.Lib.LaidU8
import Derived.Lay
namespace Go.Proofs.YthcaeihpdlgcaaaDoor
open Go.ChangeShapes Go.WideShapes Go.ChangeAt Go.RowKit
theorem Tryd.own : ownKnob Tryd.prog.godebug = none := by kernel_rfl
theorem gRows : Tryd.prog.globalNamed "headgate/sense.rows" = some 0 := by kernel_rfl
theorem tRows : (Tryd.prog.globals[0]?).map (·.type) = some 78 := by kernel_rfl
theorem Tryd.rcells78 : Tryd.prog.cellsOf 78 = 66 := by kernel_rfl
theorem Tryd.rcells61 : Tryd.prog.cellsOf 61 = 6 := by kernel_rfl
theorem Tryd.rcells3 : Tryd.prog.cellsOf 3 = 1 := by kernel_rfl
abbrev liI (n : Int) : DataW Unit := .lit (.int .i64 n)
abbrev rwD (r : Rw) : DataW Unit := .agg [liI r.c, liI r.w, liI r.s, liI r.k, liI r.a, liI r.q]
theorem rows_all : (Rows.laid_headgate_sense_rows : DataW Unit) = .agg ((List.range 11).map fun i => rwD (rwI i)) := by kernel_rfl
theorem rowsA_is : rowsA.toList = (List.range 11).flatMap fun i => (rwC (rwI i)).toList := by kernel_rfl
theorem chunks {α : Type} (k : Nat) (L : Nat → List α) : ∀ (n : Nat) (cs : List α), cs.length = n * k → (∀ i, i < n → (cs.drop (i * k)).take k = L i) → cs = (List.range n).flatMap L
  | 0, cs, h, _ => by
    have : cs = [] := List.eq_nil_of_length_eq_zero (by omega)
    rw [this]; rfl
  | n + 1, cs, h, hl => by
    have e : (n + 1) * k = n * k + k := Nat.succ_mul n k
    rw [List.range_succ, List.flatMap_append, ← chunks k L n (cs.take (n * k)) (by rw [List.length_take]; omega) (fun i hi => by
      rw [← hl i (by omega), List.drop_take, List.take_take]
      congr 1
      have : (i + 1) * k ≤ n * k := Nat.mul_le_mul_right k (by omega)
      rw [Nat.succ_mul] at this
      omega)]
    have hn := hl n (by omega)
    rw [List.take_of_length_le (by rw [List.length_drop]; omega)] at hn
    simp only [List.flatMap_cons, List.flatMap_nil, List.append_nil, ← hn]
    rw [List.take_append_drop]
section
variable {enc : TypeId × Value → Unit} {W : World} {base : Nat} {sp : Nat → Bool} {held : Bool}
theorem open_rw {cs : List Value} {n : Nat} {x : DataW Unit × List MemPlace} {r : Rw} (h : DataW.trod enc Tryd.prog W base sp held n 61 cs = some x) (hx : x.1 = rwD r) : cs = (rwC r).toList := by
  obtain ⟨xs, m, _, rfl, hcl, hxl, hf⟩ := DataW.trod_struct Tryd.underlying61 h
  rw [Tryd.rcells61] at hcl
  have hxl' : xs.length = 6 := hxl
  match xs, hxl' with
  | [y0, y1, y2, y3, y4, y5], _ =>
    have h0 : DataW.trod enc Tryd.prog W base sp held m 3 (List.take (Tryd.prog.cellsOf 3) (List.drop 0 cs)) = some y0 := hf 0 _ rfl
    have h1 : DataW.trod enc Tryd.prog W base sp held m 3 (List.take (Tryd.prog.cellsOf 3) (List.drop 1 cs)) = some y1 := hf 1 _ rfl
    have h2 : DataW.trod enc Tryd.prog W base sp held m 3 (List.take (Tryd.prog.cellsOf 3) (List.drop 2 cs)) = some y2 := hf 2 _ rfl
    have h3 : DataW.trod enc Tryd.prog W base sp held m 3 (List.take (Tryd.prog.cellsOf 3) (List.drop 3 cs)) = some y3 := hf 3 _ rfl
    have h4 : DataW.trod enc Tryd.prog W base sp held m 3 (List.take (Tryd.prog.cellsOf 3) (List.drop 4 cs)) = some y4 := hf 4 _ rfl
    have h5 : DataW.trod enc Tryd.prog W base sp held m 3 (List.take (Tryd.prog.cellsOf 3) (List.drop 5 cs)) = some y5 := hf 5 _ rfl
    rw [Tryd.rcells3] at h0 h1 h2 h3 h4 h5
    match cs, hcl with
    | [u0, u1, u2, u3, u4, u5], _ =>
      obtain ⟨a0, e0, q0, _⟩ := DataW.trod_int Tryd.underlying3 h0
      obtain ⟨a1, e1, q1, _⟩ := DataW.trod_int Tryd.underlying3 h1
      obtain ⟨a2, e2, q2, _⟩ := DataW.trod_int Tryd.underlying3 h2
      obtain ⟨a3, e3, q3, _⟩ := DataW.trod_int Tryd.underlying3 h3
      obtain ⟨a4, e4, q4, _⟩ := DataW.trod_int Tryd.underlying3 h4
      obtain ⟨a5, e5, q5, _⟩ := DataW.trod_int Tryd.underlying3 h5
      simp at e0 e1 e2 e3 e4 e5
      subst q0 q1 q2 q3 q4 q5
      simp only [List.map_cons, List.map_nil] at hx
      simp only [DataW.agg.injEq, List.cons.injEq, DataW.lit.injEq, Lit.int.injEq, true_and, and_true] at hx
      obtain ⟨r0, r1, r2, r3, r4, r5⟩ := hx
      rw [e0, r0, e1, r1, e2, r2, e3, r3, e4, r4, e5, r5]
end
theorem rt_of_reads {W : World} (h0 : Lib.VarReads Tryd.prog W "headgate/sense.rows" Rows.laid_headgate_sense_rows) : RT W := by
  have hF : ∀ (j : Nat) (v : Value), rowsA[j]? = some v → W.cell? ⟨0, j, none⟩ = some v := by
    obtain ⟨g0, t0, cs0, f0, p0, hg0, ht0, hv0, hd0⟩ := h0
    obtain rfl := Option.some.inj (gRows.symm.trans hg0)
    obtain rfl := Option.some.inj (tRows.symm.trans ht0)
    obtain ⟨xs, m1, rfl, hx1, hlen, hn, hel⟩ := DataW.trod_array Tryd.underlying78 hd0
    rw [Tryd.rcells78] at hlen
    have hcs : cs0.toList = rowsA.toList := by
      rw [rowsA_is]
      refine chunks 6 _ 11 cs0.toList hlen fun i hi => ?_
      have h0 := hel i hi
      rw [Tryd.rcells61] at h0
      have hx : xs[i]? = some xs[i] := List.getElem?_eq_getElem (by omega)
      rw [hx] at h0
      refine open_rw h0 ?_
      have hxa := rows_all.symm.trans (Prod.mk.inj hx1).1
      have hl := congrArg (fun l => l[i]?) (DataW.agg.inj hxa)
      simp only [List.getElem?_map, hx, Option.map_some, List.getElem?_range hi, Option.some.injEq] at hl
      exact hl.symm
    intro j v hj
    rw [World.var?_cell hg0 hv0, ← Array.getElem?_toList, hcs]
    simpa using hj
  exact ⟨World.block_lt_of_cell? W ⟨0, 0, none⟩ (hF 0 (.int .i64 1) (by kernel_rfl)), hF⟩
theorem rt_of_list {W : World} {l : List (String × DataW Unit)} (hp : (l.all fun x => x.2.handleName?.isNone) = true) (hm : ("headgate/sense.rows", (Rows.laid_headgate_sense_rows : DataW Unit)) ∈ l) (h : laidMetH Tryd.prog l W) : RT W := by
  rw [MakeChecks.laidMetH_plain _ _ _ hp] at h
  exact rt_of_reads (Lib.laidMet.reads h hm)
end Go.Proofs.YthcaeihpdlgcaaaDoor
