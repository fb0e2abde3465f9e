/- The steps that came in, opened. -/
import Derived.Test.YtlcaokgdbocmiaaDevRows
import Derived.Test.YtlcaokgdbocmiaaDevBegin
import Derived.Deep.Slices
import Derived.Deep.Fields
namespace Go.Proofs.Ytlcaokgdbocmiaa
open Go.ChangeShapes Go.WideShapes Go.ChangeAt Go.RowKit Go.Deep
theorem Try.cells33 : Try.prog.cellsOf 33 = 6 := by kernel_rfl
theorem Try.cells9 : Try.prog.cellsOf 9 = 1 := by kernel_rfl
theorem Try.cells31 : Try.prog.cellsOf 31 = 1 := by kernel_rfl
theorem list_of {α : Type} {R : Nat → α → Prop} : ∀ k : Nat, (∀ i, i < k → ∃ s, R i s) → ∃ l : List α, l.length = k ∧ ∀ i s, l[i]? = some s → R i s
  | 0, _ => ⟨[], rfl, fun i s h => by simp at h⟩
  | k + 1, h => by
    obtain ⟨l, hl, hr⟩ := list_of k fun i hi => h i (by omega)
    obtain ⟨s, hs⟩ := h k (Nat.lt_succ_self k)
    refine ⟨l ++ [s], by simp [hl], fun i t ht => ?_⟩
    by_cases hi : i < l.length
    · rw [List.getElem?_append_left hi] at ht
      exact hr i t ht
    · rw [List.getElem?_append_right (by omega)] at ht
      have h0 : i - l.length = 0 := by
        have := (List.getElem?_eq_some_iff.1 ht).1
        simp at this
        omega
      rw [h0] at ht
      simp at ht
      subst ht
      rw [show i = k by omega]
      exact hs
theorem one_cell {cs : List Value} {j : Nat} (hj : j < cs.length) : ∃ v, cs[j]? = some v ∧ (cs.drop j).take 1 = [v] :=
  ⟨cs[j], List.getElem?_eq_getElem hj, by rw [List.drop_eq_getElem_cons hj]; rfl⟩
theorem wAll_mem {H : Type} {e : TypeId} : ∀ {l : List (DataW H)} {d : DataW H}, d ∈ l → ∀ n ∈ d.weights Try.prog e, n ∈ DataW.weightsAll Try.prog e l
  | d' :: r, d, hd, n, hn => by
    simp only [DataW.weightsAll, List.mem_append]
    rcases List.mem_cons.1 hd with rfl | hd
    · exact .inl hn
    · exact .inr (wAll_mem hd n hn)
/-- One step, out of its six cells. -/
theorem open_step {H : Type} {enc : TypeId × Value → H} {W : World} {a : Addr} {cs : List Value} {n : Nat} {x : DataW H × List MemPlace} (hc : W.cells? 0 a 6 = some cs) (h : DataW.trod enc Try.prog W 0 (fun _ => true) true n 33 cs = some x)
    (hw : ∀ k ∈ x.1.weights Try.prog 33, k ≤ reachBytes) : ∃ s : Sp, s.Ok W ∧ ∀ j v, s.cells[j]? = some v → W.cell? (a.add j) = some v := by
  obtain ⟨xs, m, _, rfl, _, hxl, hf⟩ := DataW.trod_struct Try.underlying33 h
  obtain ⟨_, hcl, hat⟩ := World.cells?_some hc
  have key : ∀ (j : Nat) (t : TypeId), j < 6 → Try.prog.cellsOf t = 1 → DataW.trod enc Try.prog W 0 (fun _ => true) true m t (List.take (Try.prog.cellsOf t) (List.drop j cs)) = xs[j]? → ∃ v y, W.cell? (a.add j) = some v ∧ xs[j]? = some y ∧ DataW.trod enc Try.prog W 0 (fun _ => true) true m t [v] = some y := by
    intro j t hj ht h1
    obtain ⟨v, hv, ho⟩ := one_cell (cs := cs) (j := j) (by omega)
    rw [ht, ho] at h1
    have hy : xs[j]? = some (xs[j]'(by rw [hxl]; exact hj)) := List.getElem?_eq_getElem _
    exact ⟨v, _, (hat j hj).trans hv, hy, h1.trans hy⟩
  obtain ⟨v0, y0, c0, e0, t0⟩ := key 0 3 (by omega) Try.cells3 (hf 0 _ rfl)
  obtain ⟨v1, y1, c1, e1, t1⟩ := key 1 3 (by omega) Try.cells3 (hf 1 _ rfl)
  obtain ⟨v2, y2, c2, e2, t2⟩ := key 2 3 (by omega) Try.cells3 (hf 2 _ rfl)
  obtain ⟨v3, y3, c3, e3, t3⟩ := key 3 5 (by omega) Try.cells5 (hf 3 _ rfl)
  obtain ⟨v4, y4, c4, e4, t4⟩ := key 4 9 (by omega) Try.cells9 (hf 4 _ rfl)
  obtain ⟨v5, y5, c5, e5, t5⟩ := key 5 31 (by omega) Try.cells31 (hf 5 _ rfl)
  obtain ⟨k0, q0, _, _⟩ := DataW.trod_int Try.underlying3 t0
  obtain ⟨k1, q1, _, w1⟩ := DataW.trod_int Try.underlying3 t1
  obtain ⟨k2, q2, _, w2⟩ := DataW.trod_int Try.underlying3 t2
  obtain ⟨k3, q3, _, w3⟩ := DataW.trod_int Try.underlying5 t3
  obtain ⟨s4, q4, y4e, _⟩ := DataW.trod_string Try.underlying9 t4
  simp only [List.cons.injEq, and_true] at q0 q1 q2 q3 q4
  subst q0 q1 q2 q3 q4
  obtain ⟨A, l, c, rfl⟩ : ∃ A l c, v5 = .slice A l c := by
    rcases open_slice Try.underlying31 t5 with ⟨hcs, _⟩ | ⟨a', len, cap, _, _, _, _, hcs, _⟩
    · simp at hcs; exact ⟨_, _, _, hcs⟩
    · simp at hcs; exact ⟨_, _, _, hcs⟩
  obtain ⟨ks, rfl, hk, hkm⟩ := open_nums (d := y5.1) (p := y5.2) ⟨m, t5⟩ fun el sp hd => by
    refine hw _ ?_
    simp only [DataW.weights, Try.underlying33]
    refine DataW.weights_mem_each (j := 5) (t := 31) (d := y5.1) rfl (by rw [List.getElem?_map, e5]; rfl) _ ?_
    rw [hd]
    simp [DataW.weights, Try.underlying31]
  have w4 : s4.size ≤ reachBytes := by
    refine hw _ ?_
    simp only [DataW.weights, Try.underlying33]
    refine DataW.weights_mem_each (j := 4) (t := 9) (d := y4.1) rfl (by rw [List.getElem?_map, e4]; rfl) _ ?_
    rw [y4e]
    simp [DataW.weights]
  have w4' : s4.size ≤ 140737488355328 := by simp only [reachBytes] at w4; omega
  have r1 : -9223372036854775808 ≤ k1 ∧ k1 ≤ 9223372036854775807 := by simpa [Lit.wf, IntKind.min, IntKind.max, IntKind.signed, IntKind.bits] using w1
  have r2 : -9223372036854775808 ≤ k2 ∧ k2 ≤ 9223372036854775807 := by simpa [Lit.wf, IntKind.min, IntKind.max, IntKind.signed, IntKind.bits] using w2
  have r3 : 0 ≤ k3 ∧ k3 ≤ 255 := by simpa [Lit.wf, IntKind.min, IntKind.max, IntKind.signed, IntKind.bits] using w3
  have f3 : ((k3.toNat.toUInt8.toNat : Nat) : Int) = k3 := by
    show ((k3.toNat % 256 : Nat) : Int) = k3
    omega
  refine ⟨⟨k0, k1, k2, k3.toNat.toUInt8, s4, A, c, ks⟩, ⟨r1, r2.2, w4', hk, hkm⟩, fun j v hj => ?_⟩
  match j, hj with
  | 0, hj => cases hj; exact c0
  | 1, hj => cases hj; exact c1
  | 2, hj => cases hj; exact c2
  | 3, hj => simp only [Sp.cells, f3] at hj; cases hj; exact c3
  | 4, hj => cases hj; exact c4
  | 5, hj => cases hj; exact c5
  | j + 6, hj => simp [Sp.cells] at hj
theorem open_steps {H : Type} {enc : TypeId × Value → H} {W : World} {A : Option Addr} {l c : Nat} {d : DataW H} {p : List MemPlace} (h : DataW.Trod enc Try.prog W 0 (fun _ => true) true 22 (.slice A l c) d p)
    (hw : ∀ k ∈ d.weights Try.prog 22, k ≤ reachBytes) : ∃ ss : List Sp, ss.length = l ∧ Steps W A ss := by
  obtain ⟨fuel, hf⟩ := h
  rcases open_slice Try.underlying22 hf with ⟨hcs, hx⟩ | ⟨a, len, cap, m, n, D, Pl, hcs, _, hl, hm, hmm, hx, hi⟩
  · simp [Value.cells] at hcs
    obtain ⟨rfl, rfl, rfl⟩ := hcs
    exact ⟨[], rfl, fun h => absurd h (Nat.not_lt_zero _), fun s hs => by cases hs⟩
  · simp [Value.cells] at hcs
    obtain ⟨rfl, rfl, rfl⟩ := hcs
    simp only [Prod.mk.injEq] at hx
    obtain ⟨rfl, _⟩ := hx
    simp only [if_true] at hmm
    rw [Try.cells33] at hi
    obtain ⟨ss, hsl, hss⟩ := list_of (R := fun i (s : Sp) => s.Ok W ∧ ∀ j v, s.cells[j]? = some v → W.cell? ((a.add (i * 6)).add j) = some v) l fun i hil => by
      obtain ⟨cs', hc, ht⟩ := hi i (by omega)
      refine open_step hc ht fun k hk => hw k ?_
      simp only [DataW.weights, Try.underlying22, List.mem_cons, List.mem_append]
      exact .inr (.inl (wAll_mem (List.mem_map.2 ⟨i, List.mem_range.2 hil, rfl⟩) k hk))
    refine ⟨ss, hsl, fun hn => ?_, fun s hs => ?_⟩
    · obtain ⟨b, off, spot⟩ := a
      have hspot : spot = none := by
        have := (hss 0 ss[0] (List.getElem?_eq_getElem hn)).2 0 _ rfl
        simpa [Addr.add] using World.cell?_spot this
      subst hspot
      refine ⟨b, off, rfl, fun i s hs j v hj => ?_⟩
      have := (hss i s hs).2 j v hj
      rw [add_add, add_plain, ← Nat.add_assoc] at this
      exact this
    · obtain ⟨i, hi', he⟩ := List.mem_iff_getElem.1 hs
      exact (hss i s (by rw [List.getElem?_eq_getElem hi', he])).1
end Go.Proofs.Ytlcaokgdbocmiaa
