/- What the rows want: lists of extents, and structs of numbers, that came in. -/
import Derived.Test.YtdopcliicjmjeaaExL
import Derived.ProofKit
import Derived.SizedLaws
import Derived.ChangeSlices
import Derived.Carry
import Derived.Deep.Slices
import Derived.Deep.Fields
namespace Go.Proofs.Ytdopcliicjmjeaa
open Go.ChangeShapes Go.WideShapes Go.ChangeAt Go.RowKit Go.Deep
theorem Try.laidOut : laidOutB Try.prog = true := by kernel_rfl
theorem Try.cells3 : Try.prog.cellsOf 3 = 1 := by kernel_rfl
theorem Try.cells32 : Try.prog.cellsOf 32 = 3 := by kernel_rfl
theorem Try.cells34 : Try.prog.cellsOf 34 = 2 := by kernel_rfl
theorem list_of {α : Type} {R : Nat → α → Prop} : ∀ k : Nat, (∀ i, i < k → ∃ s, R i s) → ∃ l : List α, l.length = k ∧ ∀ i s, l[i]? = some s → R i s
  | 0, _ => ⟨[], rfl, fun i s h => by simp at h⟩
  | k + 1, h => by
    obtain ⟨l, hl, hr⟩ := list_of k fun i hi => h i (by omega)
    obtain ⟨s, hs⟩ := h k (Nat.lt_succ_self k)
    refine ⟨l ++ [s], by simp [hl], fun i t ht => ?_⟩
    by_cases hi : i < l.length
    · rw [List.getElem?_append_left hi] at ht
      exact hr i t ht
    · rw [List.getElem?_append_right (by omega)] at ht
      have h0 : i - l.length = 0 := by
        have := (List.getElem?_eq_some_iff.1 ht).1
        simp at this
        omega
      rw [h0] at ht
      simp at ht
      subst ht
      rw [show i = k by omega]
      exact hs
theorem one_cell {cs : List Value} {j : Nat} (hj : j < cs.length) : ∃ v, cs[j]? = some v ∧ (cs.drop j).take 1 = [v] :=
  ⟨cs[j], List.getElem?_eq_getElem hj, by rw [List.drop_eq_getElem_cons hj]; rfl⟩
theorem wf_bounds {n : Int} (h : (Lit.int .i64 n).wf = true) : -9223372036854775808 ≤ n ∧ n ≤ 9223372036854775807 := by
  simp [Lit.wf, IntKind.min, IntKind.max, IntKind.signed, IntKind.bits] at h
  omega
/-- The cells of an extent that is read. -/
theorem open_cells {H : Type} {enc : TypeId × Value → H} {W : World} {base : Nat} {sp : Nat → Bool} {held : Bool} {cs : List Value} {n : Nat} {x : DataW H × List MemPlace} (h : DataW.trod enc Try.prog W base sp held n 32 cs = some x) :
    ∃ y : Ex, cs = [.int .i64 y.l, .int .i64 y.b, .int .i64 y.a] ∧ y.Wf := by
  obtain ⟨xs, m, _, rfl, hcl, hxl, hf⟩ := DataW.trod_struct Try.underlying32 h
  rw [Try.cells32] at hcl
  have key : ∀ (j : Nat), j < 3 → DataW.trod enc Try.prog W base sp held m 3 (List.take (Try.prog.cellsOf 3) (List.drop j cs)) = xs[j]? → ∃ k : Int, cs[j]? = some (.int .i64 k) ∧ -9223372036854775808 ≤ k ∧ k ≤ 9223372036854775807 := by
    intro j hj h1
    obtain ⟨v, hv, ho⟩ := one_cell (cs := cs) (j := j) (by omega)
    rw [Try.cells3, ho] at h1
    have hy : xs[j]? = some (xs[j]'(by rw [hxl]; exact hj)) := List.getElem?_eq_getElem _
    obtain ⟨k, hk, _, hw⟩ := DataW.trod_int Try.underlying3 (h1.trans hy)
    simp only [List.cons.injEq, and_true] at hk
    subst hk
    exact ⟨k, hv, wf_bounds hw⟩
  obtain ⟨k0, c0, w0⟩ := key 0 (by omega) (hf 0 _ rfl)
  obtain ⟨k1, c1, w1⟩ := key 1 (by omega) (hf 1 _ rfl)
  obtain ⟨k2, c2, w2⟩ := key 2 (by omega) (hf 2 _ rfl)
  refine ⟨⟨k0, k1, k2⟩, ?_, ⟨w0.1, w0.2, w1.1, w1.2, w2.1, w2.2⟩⟩
  match cs, hcl with
  | [a, b, c], _ =>
    simp at c0 c1 c2
    rw [c0, c1, c2]
theorem open_cells2 {H : Type} {enc : TypeId × Value → H} {W : World} {base : Nat} {sp : Nat → Bool} {held : Bool} {cs : List Value} {n : Nat} {x : DataW H × List MemPlace} (h : DataW.trod enc Try.prog W base sp held n 34 cs = some x) :
    ∃ a b : Int, cs = [.int .i64 a, .int .i64 b] ∧ (-9223372036854775808 ≤ a ∧ a ≤ 9223372036854775807) ∧ (-9223372036854775808 ≤ b ∧ b ≤ 9223372036854775807) := by
  obtain ⟨xs, m, _, rfl, hcl, hxl, hf⟩ := DataW.trod_struct Try.underlying34 h
  rw [Try.cells34] at hcl
  have key : ∀ (j : Nat), j < 2 → DataW.trod enc Try.prog W base sp held m 3 (List.take (Try.prog.cellsOf 3) (List.drop j cs)) = xs[j]? → ∃ k : Int, cs[j]? = some (.int .i64 k) ∧ -9223372036854775808 ≤ k ∧ k ≤ 9223372036854775807 := by
    intro j hj h1
    obtain ⟨v, hv, ho⟩ := one_cell (cs := cs) (j := j) (by omega)
    rw [Try.cells3, ho] at h1
    have hy : xs[j]? = some (xs[j]'(by rw [hxl]; exact hj)) := List.getElem?_eq_getElem _
    obtain ⟨k, hk, _, hw⟩ := DataW.trod_int Try.underlying3 (h1.trans hy)
    simp only [List.cons.injEq, and_true] at hk
    subst hk
    exact ⟨k, hv, wf_bounds hw⟩
  obtain ⟨k0, c0, w0⟩ := key 0 (by omega) (hf 0 _ rfl)
  obtain ⟨k1, c1, w1⟩ := key 1 (by omega) (hf 1 _ rfl)
  refine ⟨k0, k1, ?_, w0, w1⟩
  match cs, hcl with
  | [a, b], _ =>
    simp at c0 c1
    rw [c0, c1]
theorem open_ex {H : Type} {enc : TypeId × Value → H} {W : World} {r : Reach} {b0 base : Nat} {sp : Nat → Bool} {held : Bool} {v : Value} {d : DataW H} {ps : List MemPlace} (hval : Value.okWide Try.prog W r b0 32 v) (hd : DataW.Trod enc Try.prog W base sp held 32 v d ps) : ∃ x : Ex, v = exV x ∧ x.Wf := by
  simp only [Value.okWide, Try.underlying32] at hval
  obtain ⟨cs, rfl, _, _⟩ := hval
  obtain ⟨fuel, hf⟩ := hd
  obtain ⟨y, hy, hw⟩ := open_cells hf
  refine ⟨y, ?_, hw⟩
  have : cs.toList = [.int .i64 y.l, .int .i64 y.b, .int .i64 y.a] := hy
  unfold exV
  rw [← Array.toArray_toList (xs := cs), this]
theorem open_range {H : Type} {enc : TypeId × Value → H} {W : World} {r : Reach} {b0 base : Nat} {sp : Nat → Bool} {held : Bool} {v : Value} {d : DataW H} {ps : List MemPlace} (hval : Value.okWide Try.prog W r b0 34 v) (hd : DataW.Trod enc Try.prog W base sp held 34 v d ps) : ∃ a b : Int, v = .agg #[.int .i64 a, .int .i64 b] ∧ (-9223372036854775808 ≤ a ∧ a ≤ 9223372036854775807) ∧ (-9223372036854775808 ≤ b ∧ b ≤ 9223372036854775807) := by
  simp only [Value.okWide, Try.underlying34] at hval
  obtain ⟨cs, rfl, _, _⟩ := hval
  obtain ⟨fuel, hf⟩ := hd
  obtain ⟨a, b, hy, h1, h2⟩ := open_cells2 hf
  refine ⟨a, b, ?_, h1, h2⟩
  have : cs.toList = [.int .i64 a, .int .i64 b] := hy
  rw [← Array.toArray_toList (xs := cs), this]
/-- A list of extents that came in. -/
theorem open_exts {H : Type} {enc : TypeId × Value → H} {W : World} {A : Option Addr} {l c : Nat} {d : DataW H} {p : List MemPlace} (h : DataW.Trod enc Try.prog W 0 (fun _ => true) true 22 (.slice A l c) d p) :
    ∃ ss : List Ex, ss.length = l ∧ Exts W A ss := by
  obtain ⟨fuel, hf⟩ := h
  rcases open_slice Try.underlying22 hf with ⟨hcs, hx⟩ | ⟨a, len, cap, m, n, D, Pl, hcs, _, hl, hm, hmm, hx, hi⟩
  · simp [Value.cells] at hcs
    obtain ⟨rfl, rfl, rfl⟩ := hcs
    exact ⟨[], rfl, fun h => absurd h (Nat.not_lt_zero _)⟩
  · simp [Value.cells] at hcs
    obtain ⟨rfl, rfl, rfl⟩ := hcs
    simp only [Prod.mk.injEq] at hx
    obtain ⟨rfl, _⟩ := hx
    simp only [if_true] at hmm
    rw [Try.cells32] at hi
    obtain ⟨ss, hsl, hss⟩ := list_of (R := fun i (y : Ex) => y.Wf ∧ W.cell? ((a.add (i * 3)).add 0) = some (.int .i64 y.l) ∧ W.cell? ((a.add (i * 3)).add 1) = some (.int .i64 y.b) ∧ W.cell? ((a.add (i * 3)).add 2) = some (.int .i64 y.a)) l fun i hil => by
      obtain ⟨cs', hc, ht⟩ := hi i (by omega)
      obtain ⟨y, hy, hw⟩ := open_cells ht
      obtain ⟨_, hcl, hat⟩ := World.cells?_some hc
      subst hy
      exact ⟨y, hw, hat 0 (by omega), hat 1 (by omega), hat 2 (by omega)⟩
    refine ⟨ss, hsl, fun hn => ?_⟩
    obtain ⟨b, off, spot⟩ := a
    have hspot : spot = none := by
      have := (hss 0 ss[0] (List.getElem?_eq_getElem hn)).2.1
      simpa [Addr.add] using World.cell?_spot this
    subst hspot
    refine ⟨b, off, rfl, fun i y hy => ?_⟩
    obtain ⟨h0, h1, h2, h3⟩ := hss i y hy
    rw [add_add, add_plain] at h1 h2 h3
    exact ⟨h0, h1, h2, h3⟩
end Go.Proofs.Ytdopcliicjmjeaa
