/- What the rows want: a unit that came in by value, and a list of ranges. -/
import Derived.Test.YtgncllhhajjnlaaInM
import Derived.Test.YtgncllhhajjnlaaInG
import Derived.Test.YtgncllhhajjnlaaRows
import Derived.ProofKit
import Derived.LaidMore
import Derived.OpenShut
import Derived.Stop.Joined
import Derived.SevenTiedAt
import Derived.ShutString
import Derived.SizedLaws
import Derived.Carry
import Derived.Lay
import Derived.Deep.Slices
import Derived.Deep.Fields
namespace Go.Proofs.Ytgncllhhajjnlaa
open Go.ChangeShapes Go.WideShapes Go.ChangeAt Go.RowKit Go.Deep
theorem Try.laidOut : laidOutB Try.prog = true := by kernel_rfl
theorem i64_in_ {n : Int} (h : (Lit.int .i64 n).wf = true) : In64 n := by
  unfold In64
  simpa [Lit.wf, IntKind.min, IntKind.max, IntKind.signed, IntKind.bits] using h
theorem u8_small {n : Int} (h : (Lit.int .u8 n).wf = true) : ∃ k : Nat, n = (k : Int) ∧ k < 256 := by
  have : 0 ≤ n ∧ n ≤ 255 := by simpa [Lit.wf, IntKind.min, IntKind.max, IntKind.signed, IntKind.bits] using h
  exact ⟨n.toNat, by omega, by omega⟩
theorem Try.cells23 : Try.prog.cellsOf 23 = 2 := by kernel_rfl
theorem Try.cells58 : Try.prog.cellsOf 58 = 2 := by kernel_rfl
theorem Try.cells3 : Try.prog.cellsOf 3 = 1 := by kernel_rfl
theorem Try.cells9 : Try.prog.cellsOf 9 = 1 := by kernel_rfl
theorem list_of {α : Type} {R : Nat → α → Prop} : ∀ k : Nat, (∀ i, i < k → ∃ s, R i s) → ∃ l : List α, l.length = k ∧ ∀ i s, l[i]? = some s → R i s
  | 0, _ => ⟨[], rfl, fun i s h => by simp at h⟩
  | k + 1, h => by
    obtain ⟨l, hl, hr⟩ := list_of k fun i hi => h i (by omega)
    obtain ⟨s, hs⟩ := h k (Nat.lt_succ_self k)
    refine ⟨l ++ [s], by simp [hl], fun i t ht => ?_⟩
    by_cases hi : i < l.length
    · rw [List.getElem?_append_left hi] at ht
      exact hr i t ht
    · rw [List.getElem?_append_right (by omega)] at ht
      have h0 : i - l.length = 0 := by
        have := (List.getElem?_eq_some_iff.1 ht).1
        simp at this
        omega
      rw [h0] at ht
      simp at ht
      subst ht
      rw [show i = k by omega]
      exact hs
theorem one_cell {cs : List Value} {j : Nat} (hj : j < cs.length) : ∃ v, cs[j]? = some v ∧ (cs.drop j).take 1 = [v] :=
  ⟨cs[j], List.getElem?_eq_getElem hj, by rw [List.drop_eq_getElem_cons hj]; rfl⟩
theorem open_rng {H : Type} {enc : TypeId × Value → H} {W : World} {a : Addr} {cs : List Value} {n : Nat} {x : DataW H × List MemPlace} (hc : W.cells? 0 a 2 = some cs) (h : DataW.trod enc Try.prog W 0 (fun _ => true) true n 58 cs = some x) :
    ∃ r : Rn, r.Wf ∧ W.cell? (a.add 0) = some (.int .i64 r.l) ∧ W.cell? (a.add 1) = some (.int .i64 r.b) := by
  obtain ⟨xs, m, _, rfl, _, hxl, hf⟩ := DataW.trod_struct Try.underlying58 h
  obtain ⟨_, hcl, hat⟩ := World.cells?_some hc
  have key : ∀ (j : Nat) (t : TypeId), j < 2 → Try.prog.cellsOf t = 1 → DataW.trod enc Try.prog W 0 (fun _ => true) true m t (List.take (Try.prog.cellsOf t) (List.drop j cs)) = xs[j]? → ∃ v y, W.cell? (a.add j) = some v ∧ xs[j]? = some y ∧ DataW.trod enc Try.prog W 0 (fun _ => true) true m t [v] = some y := by
    intro j t hj ht h1
    obtain ⟨v, hv, ho⟩ := one_cell (cs := cs) (j := j) (by omega)
    rw [ht, ho] at h1
    have hy : xs[j]? = some (xs[j]'(by rw [hxl]; exact hj)) := List.getElem?_eq_getElem _
    exact ⟨v, _, (hat j hj).trans hv, hy, h1.trans hy⟩
  obtain ⟨v0, y0, c0, e0, t0⟩ := key 0 3 (by omega) Try.cells3 (hf 0 _ rfl)
  obtain ⟨v1, y1, c1, e1, t1⟩ := key 1 3 (by omega) Try.cells3 (hf 1 _ rfl)
  obtain ⟨k0, q0, _, w0⟩ := DataW.trod_int Try.underlying3 t0
  obtain ⟨k1, q1, _, w1⟩ := DataW.trod_int Try.underlying3 t1
  simp only [List.cons.injEq, and_true] at q0 q1
  subst q0 q1
  have r0 : In64 k0 := i64_in_ w0
  have r1 : In64 k1 := i64_in_ w1
  exact ⟨⟨k0, k1⟩, ⟨r0, r1⟩, c0, c1⟩
theorem open_rngs {H : Type} {enc : TypeId × Value → H} {W : World} {A : Option Addr} {l c : Nat} {d : DataW H} {p : List MemPlace} (h : DataW.Trod enc Try.prog W 0 (fun _ => true) true 33 (.slice A l c) d p) :
    ∃ rs : List Rn, rs.length = l ∧ Rngs W A rs := by
  obtain ⟨fuel, hf⟩ := h
  rcases open_slice Try.underlying33 hf with ⟨hcs, hx⟩ | ⟨a, len, cap, m, n, D, Pl, hcs, _, hl, hm, hmm, hx, hi⟩
  · simp [Value.cells] at hcs
    obtain ⟨rfl, rfl, rfl⟩ := hcs
    exact ⟨[], rfl, fun h => absurd h (Nat.not_lt_zero _)⟩
  · simp [Value.cells] at hcs
    obtain ⟨rfl, rfl, rfl⟩ := hcs
    simp only [Prod.mk.injEq] at hx
    obtain ⟨rfl, _⟩ := hx
    simp only [if_true] at hmm
    rw [Try.cells58] at hi
    obtain ⟨ss, hsl, hss⟩ := list_of (R := fun i (r : Rn) => r.Wf ∧ W.cell? ((a.add (i * 2)).add 0) = some (.int .i64 r.l) ∧ W.cell? ((a.add (i * 2)).add 1) = some (.int .i64 r.b)) l fun i hil => by
      obtain ⟨cs', hc, ht⟩ := hi i (by omega)
      exact open_rng hc ht
    refine ⟨ss, hsl, fun hn => ?_⟩
    · obtain ⟨b, off, spot⟩ := a
      have hspot : spot = none := by
        have := (hss 0 ss[0] (List.getElem?_eq_getElem hn)).2.1
        simpa [Addr.add] using World.cell?_spot this
      subst hspot
      refine ⟨b, off, rfl, fun i s hs => ?_⟩
      obtain ⟨hwf, k0, k1⟩ := hss i s hs
      rw [add_add, add_plain, ← Nat.add_assoc] at k0 k1
      exact ⟨hwf, k0, k1⟩
theorem open_unc {H : Type} {enc : TypeId × Value → H} {W : World} {base : Nat} {sp : Nat → Bool} {held : Bool} {cs : List Value} {n : Nat} {x : DataW H × List MemPlace} (h : DataW.trod enc Try.prog W base sp held n 23 cs = some x) : ∃ (a : Int) (b : ByteArray), cs = (unC a b).toList ∧ In64 a := by
  obtain ⟨xs, m, _, rfl, hcl, hxl, hf⟩ := DataW.trod_struct Try.underlying23 h
  rw [Try.cells23] at hcl
  have hxl' : xs.length = 2 := hxl
  match xs, hxl' with
  | [y0, y1], _ =>
    have h0 : DataW.trod enc Try.prog W base sp held m 3 (List.take (Try.prog.cellsOf 3) (List.drop 0 cs)) = some y0 := hf 0 _ rfl
    have h1 : DataW.trod enc Try.prog W base sp held m 9 (List.take (Try.prog.cellsOf 9) (List.drop 1 cs)) = some y1 := hf 1 _ rfl
    rw [Try.cells3] at h0
    rw [Try.cells9] at h1
    match cs, hcl with
    | [u, v], _ =>
      obtain ⟨a, e0, _, w0⟩ := DataW.trod_int Try.underlying3 h0
      obtain ⟨b, e1, _, _⟩ := DataW.trod_string Try.underlying9 h1
      simp at e0 e1
      exact ⟨a, b, by rw [e0, e1], i64_in_ w0⟩
theorem open_un {H : Type} {enc : TypeId × Value → H} {W : World} {r : Reach} {b0 : Nat} {v : Value} {d : DataW H} {ps : List MemPlace} (hval : Value.okWide Try.prog W r b0 23 v) (hd : DataW.Trod enc Try.prog W 0 (fun _ => true) true 23 v d ps) :
    ∃ (a : Int) (b : ByteArray), v = unV a b ∧ In64 a := by
  simp only [Value.okWide, Try.underlying23] at hval
  obtain ⟨cs, rfl, _, _⟩ := hval
  obtain ⟨fuel, hf⟩ := hd
  obtain ⟨a, b, hy, hs⟩ := open_unc hf
  refine ⟨a, b, ?_, hs⟩
  have : cs.toList = (unC a b).toList := hy
  rw [← Array.toArray_toList (xs := cs), this]
end Go.Proofs.Ytgncllhhajjnlaa
