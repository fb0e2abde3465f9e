/- cdb's Number, over the table that is laid. -/
import Derived.Test.YtdggipgieanpeaaDoorPrJ
import Derived.Test.YtdggipgieanpeaaDoorRows
import Derived.ProofKit
import Derived.LaidMore
import Derived.OpenShut
import Derived.Stop.Joined
import Derived.SevenTiedAt
import Derived.ShutString
import Derived.Lib.LaidU8
import Derived.Lay
namespace Go.Proofs.YtdggipgieanpeaaDoor
open Go.ChangeShapes Go.WideShapes Go.ChangeAt Go.RowKit
def nuT (i : Nat) : Nat := [0, 1, 3, 5, 6, 7, 8].getD i 0
def numbersA : Array Value := #[.int .i64 0, .int .i64 1, .int .i64 3, .int .i64 5, .int .i64 6, .int .i64 7, .int .i64 8]
/-- The table in its variable. -/
structure NT (w : World) : Prop where
  lt : 0 < w.heap.size
  nums : ∀ (j : Nat) (v : Value), numbersA[j]? = some v → w.cell? ⟨0, j, none⟩ = some v
theorem NT.below {w w' : World} (h : NT w) (hb : Below w.heap.size w w') : NT w' :=
  ⟨Nat.lt_of_lt_of_le h.lt hb.size, fun j v hj => (hb.cell (p := ⟨0, j, none⟩) h.lt).trans (h.nums j v hj)⟩
set_option maxRecDepth 100000 in
theorem numCdb_any (ty : Int) (w : World) (ht : NT w) (h1 : 1 ≤ ty) (h6 : ty ≤ 6) : Calls Tryd.prog 9 #[.int .i64 ty] w fun e w' => e = .returned (.int .i64 (nuI ty : Nat)) ∧ Below w.heap.size w w' := by
  have h : ty = 1 ∨ ty = 2 ∨ ty = 3 ∨ ty = 4 ∨ ty = 5 ∨ ty = 6 := by omega
  have n1 : w.cell? ⟨0, 1, none⟩ = some (.int .i64 1) := ht.nums 1 _ rfl
  have n2 : w.cell? ⟨0, 2, none⟩ = some (.int .i64 3) := ht.nums 2 _ rfl
  have n3 : w.cell? ⟨0, 3, none⟩ = some (.int .i64 5) := ht.nums 3 _ rfl
  have n4 : w.cell? ⟨0, 4, none⟩ = some (.int .i64 6) := ht.nums 4 _ rfl
  have n5 : w.cell? ⟨0, 5, none⟩ = some (.int .i64 7) := ht.nums 5 _ rfl
  have n6 : w.cell? ⟨0, 6, none⟩ = some (.int .i64 8) := ht.nums 6 _ rfl
  clear ht h1 h6
  rcases h with rfl | rfl | rfl | rfl | rfl | rfl
  all_goals
    go_enter Tryd.func9, Tryd.ntmps9
    go_wp2_with (fail)
    go_ret
    exact ⟨rfl, Below.refl _ _⟩
theorem gNumbers : Tryd.prog.globalNamed "headgate/cdb.numbers" = some 0 := by kernel_rfl
theorem tNumbers : (Tryd.prog.globals[0]?).map (·.type) = some 58 := by kernel_rfl
theorem Tryd.ncells58 : Tryd.prog.cellsOf 58 = 7 := by kernel_rfl
theorem Tryd.ncells3 : Tryd.prog.cellsOf 3 = 1 := by kernel_rfl
abbrev lI (n : Nat) : DataW Unit := .lit (.int .i64 (n : Int))
theorem numbers_all : (Rows.laid_headgate_cdb_numbers : DataW Unit) = .agg ((List.range 7).map fun i => lI (nuT i)) := by kernel_rfl
theorem numbersA_is : numbersA.toList = (List.range 7).flatMap fun i => [Value.int .i64 (nuT i : Int)] := by kernel_rfl
theorem chunks {α : Type} (k : Nat) (L : Nat → List α) : ∀ (n : Nat) (cs : List α), cs.length = n * k → (∀ i, i < n → (cs.drop (i * k)).take k = L i) → cs = (List.range n).flatMap L
  | 0, cs, h, _ => by
    have : cs = [] := List.eq_nil_of_length_eq_zero (by omega)
    rw [this]; rfl
  | n + 1, cs, h, hl => by
    have e : (n + 1) * k = n * k + k := Nat.succ_mul n k
    rw [List.range_succ, List.flatMap_append, ← chunks k L n (cs.take (n * k)) (by rw [List.length_take]; omega) (fun i hi => by
      rw [← hl i (by omega), List.drop_take, List.take_take]
      congr 1
      have : (i + 1) * k ≤ n * k := Nat.mul_le_mul_right k (by omega)
      rw [Nat.succ_mul] at this
      omega)]
    have hn := hl n (by omega)
    rw [List.take_of_length_le (by rw [List.length_drop]; omega)] at hn
    simp only [List.flatMap_cons, List.flatMap_nil, List.append_nil, ← hn]
    rw [List.take_append_drop]
theorem nt_of_reads {W : World} (h0 : Lib.VarReads Tryd.prog W "headgate/cdb.numbers" Rows.laid_headgate_cdb_numbers) : NT W := by
  have hN : ∀ (j : Nat) (v : Value), numbersA[j]? = some v → W.cell? ⟨0, j, none⟩ = some v := by
    obtain ⟨g0, t0, cs0, f0, p0, hg0, ht0, hv0, hd0⟩ := h0
    obtain rfl := Option.some.inj (gNumbers.symm.trans hg0)
    obtain rfl := Option.some.inj (tNumbers.symm.trans ht0)
    obtain ⟨xs, m1, rfl, hx1, hlen, hn, hel⟩ := DataW.trod_array Tryd.underlying58 hd0
    rw [Tryd.ncells58] at hlen
    have hcs : cs0.toList = numbersA.toList := by
      rw [numbersA_is]
      refine chunks 1 _ 7 cs0.toList hlen fun i hi => ?_
      have h0 := hel i hi
      rw [Tryd.ncells3] at h0
      have hx : xs[i]? = some xs[i] := List.getElem?_eq_getElem (by omega)
      rw [hx] at h0
      obtain ⟨n, e0, q0, _⟩ := DataW.trod_int Tryd.underlying3 h0
      have hxa := numbers_all.symm.trans (Prod.mk.inj hx1).1
      have hl := congrArg (fun l => l[i]?) (DataW.agg.inj hxa)
      simp only [List.getElem?_map, hx, Option.map_some, List.getElem?_range hi, Option.some.injEq, q0, DataW.lit.injEq, Lit.int.injEq, true_and] at hl
      rw [e0, ← hl]
    intro j v hj
    rw [World.var?_cell hg0 hv0, ← Array.getElem?_toList, hcs]
    simpa using hj
  exact ⟨World.block_lt_of_cell? W ⟨0, 0, none⟩ (hN 0 (.int .i64 0) (by kernel_rfl)), hN⟩
theorem nt_of_list {W : World} {l : List (String × DataW Unit)} (hp : (l.all fun x => x.2.handleName?.isNone) = true) (hm0 : ("headgate/cdb.numbers", (Rows.laid_headgate_cdb_numbers : DataW Unit)) ∈ l) (h : laidMetH Tryd.prog l W) : NT W := by
  rw [MakeChecks.laidMetH_plain _ _ _ hp] at h
  exact nt_of_reads (Lib.laidMet.reads h hm0)
end Go.Proofs.YtdggipgieanpeaaDoor
