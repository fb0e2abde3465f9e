/- The code's tables, as the row's list tells them. -/
import Derived.Test.YtaachlijpgmjeaaDoorCdT
import Derived.Test.YtaachlijpgmjeaaDoorRows
import Derived.ProofKit
import Derived.LaidMore
import Derived.OpenShut
import Derived.Stop.Joined
import Derived.SevenTiedAt
import Derived.ShutString
import Derived.Lib.LaidU8
import Derived.Lay
namespace Go.Proofs.YtaachlijpgmjeaaDoor
open Go.ChangeShapes Go.WideShapes Go.ChangeAt Go.RowKit
theorem Tryd.own : ownKnob Tryd.prog.godebug = none := by kernel_rfl
theorem gForms : Tryd.prog.globalNamed "headgate/cdb.forms" = some 1 := by kernel_rfl
theorem gNumbers : Tryd.prog.globalNamed "headgate/cdb.numbers" = some 0 := by kernel_rfl
theorem tForms : (Tryd.prog.globals[1]?).map (·.type) = some 63 := by kernel_rfl
theorem tNumbers : (Tryd.prog.globals[0]?).map (·.type) = some 62 := by kernel_rfl
theorem Tryd.cells63 : Tryd.prog.cellsOf 63 = 224 := by kernel_rfl
theorem Tryd.cells62 : Tryd.prog.cellsOf 62 = 7 := by kernel_rfl
theorem Tryd.cells51 : Tryd.prog.cellsOf 51 = 16 := by kernel_rfl
theorem Tryd.cells48 : Tryd.prog.cellsOf 48 = 2 := by kernel_rfl
theorem Tryd.cells49 : Tryd.prog.cellsOf 49 = 1 := by kernel_rfl
theorem Tryd.cells5 : Tryd.prog.cellsOf 5 = 1 := by kernel_rfl
theorem Tryd.cells4 : Tryd.prog.cellsOf 4 = 1 := by kernel_rfl
theorem Tryd.cells3 : Tryd.prog.cellsOf 3 = 1 := by kernel_rfl
abbrev lI (n : Nat) : DataW Unit := .lit (.int .i64 (n : Int))
abbrev fmD (f : Fm) : DataW Unit := .agg [lI f.first, lI f.size, .agg [lI f.la, lI f.ln], .agg [lI f.ba, lI f.bn], .agg [lI f.wa, lI f.wn], .lit (.bool f.nar), .lit (.int .u8 (f.must : Int)), .lit (.int .u8 (f.fua : Int)), .lit (.int .u8 (f.page : Int)), .lit (.int .u64 (f.acts : Int)), .lit (.int .u64 (f.typ : Int)), .lit (.int .u8 (f.emp : Int)), lI f.lst]
theorem forms_all : (Rows.laid_headgate_cdb_forms : DataW Unit) = .agg ((List.range 14).map fun i => fmD (fm i)) := by kernel_rfl
theorem numbers_all : (Rows.laid_headgate_cdb_numbers : DataW Unit) = .agg ((List.range 7).map fun i => lI (nuT i)) := by kernel_rfl
theorem formsA_is : formsA.toList = (List.range 14).flatMap fun i => (fmC (fm i)).toList := by kernel_rfl
theorem numbersA_is : numbersA.toList = (List.range 7).flatMap fun i => [Value.int .i64 (nuT i : Int)] := by kernel_rfl
theorem chunks {α : Type} (k : Nat) (L : Nat → List α) : ∀ (n : Nat) (cs : List α), cs.length = n * k → (∀ i, i < n → (cs.drop (i * k)).take k = L i) → cs = (List.range n).flatMap L
  | 0, cs, h, _ => by
    have : cs = [] := List.eq_nil_of_length_eq_zero (by omega)
    rw [this]; rfl
  | n + 1, cs, h, hl => by
    have e : (n + 1) * k = n * k + k := Nat.succ_mul n k
    rw [List.range_succ, List.flatMap_append, ← chunks k L n (cs.take (n * k)) (by rw [List.length_take]; omega) (fun i hi => by
      rw [← hl i (by omega), List.drop_take, List.take_take]
      congr 1
      have : (i + 1) * k ≤ n * k := Nat.mul_le_mul_right k (by omega)
      rw [Nat.succ_mul] at this
      omega)]
    have hn := hl n (by omega)
    rw [List.take_of_length_le (by rw [List.length_drop]; omega)] at hn
    simp only [List.flatMap_cons, List.flatMap_nil, List.append_nil, ← hn]
    rw [List.take_append_drop]
section
variable {enc : TypeId × Value → Unit} {W : World} {base : Nat} {sp : Nat → Bool} {held : Bool}
theorem open_place {cs : List Value} {n : Nat} {x : DataW Unit × List MemPlace} (h : DataW.trod enc Tryd.prog W base sp held n 48 cs = some x) :
    ∃ a b : Int, cs = [.int .i64 a, .int .i64 b] ∧ x.1 = .agg [.lit (.int .i64 a), .lit (.int .i64 b)] := by
  obtain ⟨xs, m, _, rfl, hcl, hxl, hf⟩ := DataW.trod_struct Tryd.underlying48 h
  rw [Tryd.cells48] at hcl
  have hxl' : xs.length = 2 := hxl
  match xs, hxl' with
  | [y0, y1], _ =>
    have h0 : DataW.trod enc Tryd.prog W base sp held m 3 (List.take (Tryd.prog.cellsOf 3) (List.drop 0 cs)) = some y0 := hf 0 _ rfl
    have h1 : DataW.trod enc Tryd.prog W base sp held m 3 (List.take (Tryd.prog.cellsOf 3) (List.drop 1 cs)) = some y1 := hf 1 _ rfl
    rw [Tryd.cells3] at h0 h1
    match cs, hcl with
    | [u, v], _ =>
      obtain ⟨a, e0, q0, _⟩ := DataW.trod_int Tryd.underlying3 h0
      obtain ⟨b, e1, q1, _⟩ := DataW.trod_int Tryd.underlying3 h1
      simp at e0 e1
      subst q0 q1
      exact ⟨a, b, by rw [e0, e1], rfl⟩
theorem open_fm {cs : List Value} {n : Nat} {x : DataW Unit × List MemPlace} {f : Fm} (h : DataW.trod enc Tryd.prog W base sp held n 51 cs = some x) (hx : x.1 = fmD f) : cs = (fmC f).toList := by
  obtain ⟨xs, m, _, rfl, hcl, hxl, hf⟩ := DataW.trod_struct Tryd.underlying51 h
  rw [Tryd.cells51] at hcl
  have hxl' : xs.length = 13 := hxl
  match xs, hxl' with
  | [y0, y1, y2, y3, y4, y5, y6, y7, y8, y9, y10, y11, y12], _ =>
    have h0 : DataW.trod enc Tryd.prog W base sp held m 3 (List.take (Tryd.prog.cellsOf 3) (List.drop 0 cs)) = some y0 := hf 0 _ rfl
    have h1 : DataW.trod enc Tryd.prog W base sp held m 3 (List.take (Tryd.prog.cellsOf 3) (List.drop 1 cs)) = some y1 := hf 1 _ rfl
    have h2 : DataW.trod enc Tryd.prog W base sp held m 48 (List.take (Tryd.prog.cellsOf 48) (List.drop 2 cs)) = some y2 := hf 2 _ rfl
    have h3 : DataW.trod enc Tryd.prog W base sp held m 48 (List.take (Tryd.prog.cellsOf 48) (List.drop 4 cs)) = some y3 := hf 3 _ rfl
    have h4 : DataW.trod enc Tryd.prog W base sp held m 48 (List.take (Tryd.prog.cellsOf 48) (List.drop 6 cs)) = some y4 := hf 4 _ rfl
    have h5 : DataW.trod enc Tryd.prog W base sp held m 4 (List.take (Tryd.prog.cellsOf 4) (List.drop 8 cs)) = some y5 := hf 5 _ rfl
    have h6 : DataW.trod enc Tryd.prog W base sp held m 5 (List.take (Tryd.prog.cellsOf 5) (List.drop 9 cs)) = some y6 := hf 6 _ rfl
    have h7 : DataW.trod enc Tryd.prog W base sp held m 5 (List.take (Tryd.prog.cellsOf 5) (List.drop 10 cs)) = some y7 := hf 7 _ rfl
    have h8 : DataW.trod enc Tryd.prog W base sp held m 5 (List.take (Tryd.prog.cellsOf 5) (List.drop 11 cs)) = some y8 := hf 8 _ rfl
    have h9 : DataW.trod enc Tryd.prog W base sp held m 49 (List.take (Tryd.prog.cellsOf 49) (List.drop 12 cs)) = some y9 := hf 9 _ rfl
    have h10 : DataW.trod enc Tryd.prog W base sp held m 49 (List.take (Tryd.prog.cellsOf 49) (List.drop 13 cs)) = some y10 := hf 10 _ rfl
    have h11 : DataW.trod enc Tryd.prog W base sp held m 5 (List.take (Tryd.prog.cellsOf 5) (List.drop 14 cs)) = some y11 := hf 11 _ rfl
    have h12 : DataW.trod enc Tryd.prog W base sp held m 3 (List.take (Tryd.prog.cellsOf 3) (List.drop 15 cs)) = some y12 := hf 12 _ rfl
    rw [Tryd.cells3] at h0 h1 h12
    rw [Tryd.cells5] at h6 h7 h8 h11
    rw [Tryd.cells4] at h5
    rw [Tryd.cells49] at h9 h10
    rw [Tryd.cells48] at h2 h3 h4
    match cs, hcl with
    | [u0, u1, u2, u3, u4, u5, u6, u7, u8, u9, u10, u11, u12, u13, u14, u15], _ =>
      obtain ⟨a0, e0, q0, _⟩ := DataW.trod_int Tryd.underlying3 h0
      obtain ⟨a1, e1, q1, _⟩ := DataW.trod_int Tryd.underlying3 h1
      obtain ⟨a2, b2, e2, q2⟩ := open_place h2
      obtain ⟨a3, b3, e3, q3⟩ := open_place h3
      obtain ⟨a4, b4, e4, q4⟩ := open_place h4
      obtain ⟨a5, e5, q5⟩ := DataW.trod_bool Tryd.underlying4 h5
      obtain ⟨a6, e6, q6, _⟩ := DataW.trod_int Tryd.underlying5 h6
      obtain ⟨a7, e7, q7, _⟩ := DataW.trod_int Tryd.underlying5 h7
      obtain ⟨a8, e8, q8, _⟩ := DataW.trod_int Tryd.underlying5 h8
      obtain ⟨a9, e9, q9, _⟩ := DataW.trod_int Tryd.underlying49 h9
      obtain ⟨a10, e10, q10, _⟩ := DataW.trod_int Tryd.underlying49 h10
      obtain ⟨a11, e11, q11, _⟩ := DataW.trod_int Tryd.underlying5 h11
      obtain ⟨a12, e12, q12, _⟩ := DataW.trod_int Tryd.underlying3 h12
      simp at e0 e1 e2 e3 e4 e5 e6 e7 e8 e9 e10 e11 e12
      subst q0 q1 q5 q6 q7 q8 q9 q10 q11 q12
      simp only [List.map_cons, List.map_nil, q2, q3, q4] at hx
      simp only [DataW.agg.injEq, List.cons.injEq, DataW.lit.injEq, Lit.int.injEq, Lit.bool.injEq, true_and, and_true] at hx
      obtain ⟨ra0, ra1, ⟨ra2, rb2⟩, ⟨ra3, rb3⟩, ⟨ra4, rb4⟩, ra5, ra6, ra7, ra8, ra9, ra10, ra11, ra12⟩ := hx
      rw [e0, ra0, e1, ra1, e2.1, e2.2, ra2, rb2, e3.1, e3.2, ra3, rb3, e4.1, e4.2, ra4, rb4, e5, ra5, e6, ra6, e7, ra7, e8, ra8, e9, ra9, e10, ra10, e11, ra11, e12, ra12]
end
theorem ft_of_reads {W : World} (h1 : Lib.VarReads Tryd.prog W "headgate/cdb.forms" Rows.laid_headgate_cdb_forms) (h0 : Lib.VarReads Tryd.prog W "headgate/cdb.numbers" Rows.laid_headgate_cdb_numbers) : FT W := by
  have hF : ∀ (j : Nat) (v : Value), formsA[j]? = some v → W.cell? ⟨1, j, none⟩ = some v := by
    obtain ⟨g0, t0, cs0, f0, p0, hg0, ht0, hv0, hd0⟩ := h1
    obtain rfl := Option.some.inj (gForms.symm.trans hg0)
    obtain rfl := Option.some.inj (tForms.symm.trans ht0)
    obtain ⟨xs, m1, rfl, hx1, hlen, hn, hel⟩ := DataW.trod_array Tryd.underlying63 hd0
    rw [Tryd.cells63] at hlen
    have hcs : cs0.toList = formsA.toList := by
      rw [formsA_is]
      refine chunks 16 _ 14 cs0.toList hlen fun i hi => ?_
      have h0 := hel i hi
      rw [Tryd.cells51] at h0
      have hx : xs[i]? = some xs[i] := List.getElem?_eq_getElem (by omega)
      rw [hx] at h0
      refine open_fm h0 ?_
      have hxa := forms_all.symm.trans (Prod.mk.inj hx1).1
      have hl := congrArg (fun l => l[i]?) (DataW.agg.inj hxa)
      simp only [List.getElem?_map, hx, Option.map_some, List.getElem?_range hi, Option.some.injEq] at hl
      exact hl.symm
    intro j v hj
    rw [World.var?_cell hg0 hv0, ← Array.getElem?_toList, hcs]
    simpa using hj
  have hN : ∀ (j : Nat) (v : Value), numbersA[j]? = some v → W.cell? ⟨0, j, none⟩ = some v := by
    obtain ⟨g0, t0, cs0, f0, p0, hg0, ht0, hv0, hd0⟩ := h0
    obtain rfl := Option.some.inj (gNumbers.symm.trans hg0)
    obtain rfl := Option.some.inj (tNumbers.symm.trans ht0)
    obtain ⟨xs, m1, rfl, hx1, hlen, hn, hel⟩ := DataW.trod_array Tryd.underlying62 hd0
    rw [Tryd.cells62] at hlen
    have hcs : cs0.toList = numbersA.toList := by
      rw [numbersA_is]
      refine chunks 1 _ 7 cs0.toList hlen fun i hi => ?_
      have h0 := hel i hi
      rw [Tryd.cells3] at h0
      have hx : xs[i]? = some xs[i] := List.getElem?_eq_getElem (by omega)
      rw [hx] at h0
      obtain ⟨n, e0, q0, _⟩ := DataW.trod_int Tryd.underlying3 h0
      have hxa := numbers_all.symm.trans (Prod.mk.inj hx1).1
      have hl := congrArg (fun l => l[i]?) (DataW.agg.inj hxa)
      simp only [List.getElem?_map, hx, Option.map_some, List.getElem?_range hi, Option.some.injEq, q0, DataW.lit.injEq, Lit.int.injEq, true_and] at hl
      rw [e0, ← hl]
    intro j v hj
    rw [World.var?_cell hg0 hv0, ← Array.getElem?_toList, hcs]
    simpa using hj
  exact ⟨World.block_lt_of_cell? W ⟨1, 0, none⟩ (hF 0 (.int .i64 0) (by kernel_rfl)), World.block_lt_of_cell? W ⟨0, 0, none⟩ (hN 0 (.int .i64 0) (by kernel_rfl)), hF, hN⟩
theorem ft_of_list {W : World} {l : List (String × DataW Unit)} (hp : (l.all fun x => x.2.handleName?.isNone) = true) (hm : ("headgate/cdb.forms", (Rows.laid_headgate_cdb_forms : DataW Unit)) ∈ l) (hm0 : ("headgate/cdb.numbers", (Rows.laid_headgate_cdb_numbers : DataW Unit)) ∈ l) (h : laidMetH Tryd.prog l W) : FT W := by
  rw [MakeChecks.laidMetH_plain _ _ _ hp] at h
  exact ft_of_reads (Lib.laidMet.reads h hm) (Lib.laidMet.reads h hm0)
end Go.Proofs.YtaachlijpgmjeaaDoor
