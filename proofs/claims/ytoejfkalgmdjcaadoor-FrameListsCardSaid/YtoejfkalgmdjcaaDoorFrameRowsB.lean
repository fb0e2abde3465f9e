/- What the rows of laws with lists of writes among their arguments want: a list that came in, opened; two texts by value. -/
import Derived.Test.YtoejfkalgmdjcaaDoorFrameRows
import Derived.Test.YtoejfkalgmdjcaaDoorFrameSame
namespace Go.Proofs.YtoejfkalgmdjcaaDoor
open Go.ChangeShapes Go.WideShapes Go.ChangeAt Go.RowKit Go.Deep
open Go.ChangeMaps (open_string shut_string)
theorem Tryd.cells40 : Tryd.prog.cellsOf 40 = 2 := by kernel_rfl
theorem Tryd.cells3 : Tryd.prog.cellsOf 3 = 1 := by kernel_rfl
theorem one_cell {cs : List Value} {j : Nat} (hj : j < cs.length) : ∃ v, cs[j]? = some v ∧ (cs.drop j).take 1 = [v] :=
  ⟨cs[j], List.getElem?_eq_getElem hj, by rw [List.drop_eq_getElem_cons hj]; rfl⟩
/-- One write, out of its two cells. -/
theorem open_write {H : Type} {enc : TypeId × Value → H} {W : World} {a : Addr} {cs : List Value} {n : Nat} {x : DataW H × List MemPlace} (hc : W.cells? 0 a 2 = some cs) (h : DataW.trod enc Tryd.prog W 0 (fun _ => true) true n 40 cs = some x) :
    ∃ y : Wr, W.cell? (a.add 0) = some (.int .i64 y.1) ∧ W.cell? (a.add 1) = some (.string y.2) := by
  obtain ⟨xs, m, _, rfl, _, hxl, hf⟩ := DataW.trod_struct Tryd.underlying40 h
  obtain ⟨_, hcl, hat⟩ := World.cells?_some hc
  have key : ∀ (j : Nat) (t : TypeId), j < 2 → Tryd.prog.cellsOf t = 1 → DataW.trod enc Tryd.prog W 0 (fun _ => true) true m t (List.take (Tryd.prog.cellsOf t) (List.drop j cs)) = xs[j]? → ∃ v y, W.cell? (a.add j) = some v ∧ xs[j]? = some y ∧ DataW.trod enc Tryd.prog W 0 (fun _ => true) true m t [v] = some y := by
    intro j t hj ht h1
    obtain ⟨v, hv, ho⟩ := one_cell (cs := cs) (j := j) (by omega)
    rw [ht, ho] at h1
    have hy : xs[j]? = some (xs[j]'(by rw [hxl]; exact hj)) := List.getElem?_eq_getElem _
    exact ⟨v, _, (hat j hj).trans hv, hy, h1.trans hy⟩
  obtain ⟨v0, y0, c0, e0, t0⟩ := key 0 3 (by omega) Tryd.cells3 (hf 0 _ rfl)
  obtain ⟨v1, y1, c1, e1, t1⟩ := key 1 9 (by omega) Tryd.cells9 (hf 1 _ rfl)
  obtain ⟨k0, q0, _, _⟩ := DataW.trod_int Tryd.underlying3 t0
  obtain ⟨s1, q1, _, _⟩ := DataW.trod_string Tryd.underlying9 t1
  simp only [List.cons.injEq, and_true] at q0 q1
  subst q0 q1
  exact ⟨(k0, s1), c0, c1⟩
/-- A list of writes that came in. -/
theorem open_writes {H : Type} {enc : TypeId × Value → H} {W : World} {A : Option Addr} {l c : Nat} {d : DataW H} {p : List MemPlace} (h : DataW.Trod enc Tryd.prog W 0 (fun _ => true) true 38 (.slice A l c) d p) :
    ∃ ss : List Wr, ss.length = l ∧ Wrs W A ss := by
  obtain ⟨fuel, hf⟩ := h
  rcases open_slice Tryd.underlying38 hf with ⟨hcs, hx⟩ | ⟨a, len, cap, m, n, D, Pl, hcs, _, hl, hm, hmm, hx, hi⟩
  · simp [Value.cells] at hcs
    obtain ⟨rfl, rfl, rfl⟩ := hcs
    exact ⟨[], rfl, fun h => absurd h (Nat.not_lt_zero _)⟩
  · simp [Value.cells] at hcs
    obtain ⟨rfl, rfl, rfl⟩ := hcs
    simp only [Prod.mk.injEq] at hx
    obtain ⟨rfl, _⟩ := hx
    simp only [if_true] at hmm
    rw [Tryd.cells40] at hi
    obtain ⟨ss, hsl, hss⟩ := list_of (R := fun i (y : Wr) => W.cell? ((a.add (i * 2)).add 0) = some (.int .i64 y.1) ∧ W.cell? ((a.add (i * 2)).add 1) = some (.string y.2)) l fun i hil => by
      obtain ⟨cs', hc, ht⟩ := hi i (by omega)
      exact open_write hc ht
    refine ⟨ss, hsl, fun hn => ?_⟩
    obtain ⟨b, off, spot⟩ := a
    have hspot : spot = none := by
      have := (hss 0 ss[0] (List.getElem?_eq_getElem hn)).1
      simpa [Addr.add] using World.cell?_spot this
    subst hspot
    refine ⟨b, off, rfl, fun i y hy => ?_⟩
    obtain ⟨h1, h2⟩ := hss i y hy
    rw [add_add, add_plain] at h1 h2
    exact ⟨h1, h2⟩
section
variable {H : Type} {enc : TypeId × Value → H} {P : Program} {t e : TypeId} {W : World} {base : Nat} {sp : Nat → Bool} {held : Bool}
theorem open_twos {r : Reach} {b0 : Nat} {v : Value} {d : DataW H} {ps : List MemPlace} (hu : P.underlying t = some (.array 2 e)) (he : P.underlying e = some .string) (hc : P.cellsOf e = 1) (ht : P.cellsOf t = 2)
    (hval : Value.okWide P W r b0 t v) (hd : DataW.Trod enc P W base sp held t v d ps) :
    ∃ a b : ByteArray, v = .agg #[.string a, .string b] ∧ d = .agg [.lit (.string a.data.toList), .lit (.string b.data.toList)] ∧ ps = [] ∧ a.size ≤ maxLen ∧ b.size ≤ maxLen := by
  simp only [Value.okWide, hu] at hval
  obtain ⟨cs, rfl, hn, _⟩ := hval
  rw [ht] at hn
  obtain ⟨c0, c1, rfl⟩ : ∃ c0 c1, cs = #[c0, c1] := by
    obtain ⟨l⟩ := cs
    match l, hn with
    | [c0, c1], _ => exact ⟨c0, c1, rfl⟩
  obtain ⟨fuel, hf⟩ := hd
  cases fuel with
  | zero => simp [DataW.trod] at hf
  | succ m =>
    rw [DataW.trod_step] at hf
    unfold DataW.trodStep at hf
    simp only [hu, Value.cells, ht, hc] at hf
    rw [if_pos (show [c0, c1].length = 2 from rfl)] at hf
    simp only [Option.map_eq_some_iff] at hf
    obtain ⟨ys, hy, e1⟩ := hf
    rw [show List.range 2 = [0, 1] from rfl, List.mapM_cons, List.mapM_cons, List.mapM_nil] at hy
    simp only [bind, Option.bind_eq_some_iff, pure, Option.some.injEq] at hy
    obtain ⟨y0, h0, ys1, ⟨y1, h1, ys2, rfl, rfl⟩, rfl⟩ := hy
    obtain ⟨a, ea, rfl, wa⟩ := DataW.trod_string he h0
    obtain ⟨b, eb, rfl, wb⟩ := DataW.trod_string he h1
    simp at ea eb
    subst ea eb
    simp only [Prod.mk.injEq] at e1
    exact ⟨a, b, rfl, by rw [← e1.1]; rfl, by rw [← e1.2]; rfl, wa, wb⟩
theorem shut_twos {a b : ByteArray} (hu : P.underlying t = some (.array 2 e)) (he : P.underlying e = some .string) (hc : P.cellsOf e = 1) (ht : P.cellsOf t = 2) (wa : a.size ≤ maxLen) (wb : b.size ≤ maxLen) :
    DataW.Trod enc P W base sp held t (.agg #[.string a, .string b]) (.agg [.lit (.string a.data.toList), .lit (.string b.data.toList)]) [] := by
  refine ⟨2, ?_⟩
  rw [DataW.trod_step]
  unfold DataW.trodStep
  simp [hu, Value.cells, ht, hc, show List.range 2 = [0, 1] from rfl, DataW.trod, he, wa, wb]
end
end Go.Proofs.YtoejfkalgmdjcaaDoor
