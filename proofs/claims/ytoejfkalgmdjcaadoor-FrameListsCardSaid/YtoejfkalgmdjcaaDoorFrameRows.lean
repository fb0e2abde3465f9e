/- What the rows of laws with lists among their arguments want: a list that came in, opened; two texts by value. -/
import Derived.Test.YtoejfkalgmdjcaaDoorFrameStacks
import Derived.Test.YtoejfkalgmdjcaaDoorFrameLaid
import Derived.ProofKit
import Derived.SizedLaws
import Derived.ChangeSlices
import Derived.Carry
import Derived.Deep.Slices
import Derived.Deep.Fields
namespace Go.Proofs.YtoejfkalgmdjcaaDoor
open Go.ChangeShapes Go.WideShapes Go.ChangeAt Go.RowKit Go.Deep
theorem Tryd.laidOut : laidOutB Tryd.prog = true := by kernel_rfl
theorem Tryd.cells9 : Tryd.prog.cellsOf 9 = 1 := by kernel_rfl
theorem list_of {α : Type} {R : Nat → α → Prop} : ∀ k : Nat, (∀ i, i < k → ∃ s, R i s) → ∃ l : List α, l.length = k ∧ ∀ i s, l[i]? = some s → R i s
  | 0, _ => ⟨[], rfl, fun i s h => by simp at h⟩
  | k + 1, h => by
    obtain ⟨l, hl, hr⟩ := list_of k fun i hi => h i (by omega)
    obtain ⟨s, hs⟩ := h k (Nat.lt_succ_self k)
    refine ⟨l ++ [s], by simp [hl], fun i t ht => ?_⟩
    by_cases hi : i < l.length
    · rw [List.getElem?_append_left hi] at ht
      exact hr i t ht
    · rw [List.getElem?_append_right (by omega)] at ht
      have h0 : i - l.length = 0 := by
        have := (List.getElem?_eq_some_iff.1 ht).1
        simp at this
        omega
      rw [h0] at ht
      simp at ht
      subst ht
      rw [show i = k by omega]
      exact hs
/-- A list of texts that came in. -/
theorem open_strs {H : Type} {enc : TypeId × Value → H} {W : World} {A : Option Addr} {l c : Nat} {d : DataW H} {p : List MemPlace} (h : DataW.Trod enc Tryd.prog W 0 (fun _ => true) true 55 (.slice A l c) d p) :
    ∃ ss : List ByteArray, ss.length = l ∧ Strs W A ss := by
  obtain ⟨fuel, hf⟩ := h
  rcases open_slice Tryd.underlying55 hf with ⟨hcs, hx⟩ | ⟨a, len, cap, m, n, D, Pl, hcs, _, hl, hm, hmm, hx, hi⟩
  · simp [Value.cells] at hcs
    obtain ⟨rfl, rfl, rfl⟩ := hcs
    exact ⟨[], rfl, fun h => absurd h (Nat.not_lt_zero _)⟩
  · simp [Value.cells] at hcs
    obtain ⟨rfl, rfl, rfl⟩ := hcs
    simp only [Prod.mk.injEq] at hx
    obtain ⟨rfl, _⟩ := hx
    simp only [if_true] at hmm
    rw [Tryd.cells9] at hi
    obtain ⟨ss, hsl, hss⟩ := list_of (R := fun i (s : ByteArray) => W.cell? (a.add (i * 1)) = some (.string s)) l fun i hil => by
      obtain ⟨cs', hc, ht⟩ := hi i (by omega)
      obtain ⟨_, hcl, hat⟩ := World.cells?_some hc
      obtain ⟨s4, q4, _, _⟩ := DataW.trod_string Tryd.underlying9 ht
      have h0 := hat 0 (by omega)
      rw [q4] at h0
      exact ⟨s4, by simpa [Addr.add] using h0⟩
    refine ⟨ss, hsl, fun hn => ?_⟩
    obtain ⟨b, off, spot⟩ := a
    have hspot : spot = none := by
      have := hss 0 ss[0] (List.getElem?_eq_getElem hn)
      simpa [Addr.add] using World.cell?_spot this
    subst hspot
    refine ⟨b, off, rfl, fun i s hs => ?_⟩
    have := hss i s hs
    rw [Nat.mul_one, add_plain] at this
    exact this
end Go.Proofs.YtoejfkalgmdjcaaDoor
