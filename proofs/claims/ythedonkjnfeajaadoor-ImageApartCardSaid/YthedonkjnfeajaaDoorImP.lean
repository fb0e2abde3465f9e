/- What the rows want: a table that came in by value, with what its types allow. -/
import Derived.Test.YthedonkjnfeajaaDoorAcP
import Derived.Test.YthedonkjnfeajaaDoorImM
namespace Go.Proofs.YthedonkjnfeajaaDoor
open Go.ChangeShapes Go.WideShapes Go.ChangeAt Go.RowKit Go.Deep
theorem u64_in {n : Int} (h : (Lit.int .u64 n).wf = true) : 0 ≤ n ∧ n < 18446744073709551616 := by
  simp [Lit.wf, IntKind.min, IntKind.max, IntKind.signed, IntKind.bits] at h
  omega
theorem u32_in_ {n : Int} (h : (Lit.int .u32 n).wf = true) : 0 ≤ n ∧ n < 4294967296 := by
  simp [Lit.wf, IntKind.min, IntKind.max, IntKind.signed, IntKind.bits] at h
  omega
section
variable {H : Type} {enc : TypeId × Value → H} {W : World} {base : Nat} {sp : Nat → Bool} {held : Bool} {cs : List Value} {n : Nat} {x : DataW H × List MemPlace}
theorem open_rgw (h : DataW.trod enc Tryd.prog W base sp held n 48 cs = some x) : ∃ y : Rg, cs = [.string y.h, .int .u64 y.k] ∧ y.h.size ≤ maxLen ∧ (0 ≤ y.k ∧ y.k < 18446744073709551616) := by
  obtain ⟨y0, y1, m, rfl, hcl, h0, h1⟩ := trod_struct2 Tryd.underlying48 h
  rw [Tryd.cells48] at hcl
  match cs, hcl with
  | [a, b], _ =>
    rw [Tryd.cells9] at h0
    rw [Tryd.cells46] at h1
    obtain ⟨s, e0, _, hs⟩ := DataW.trod_string Tryd.underlying9 h0
    obtain ⟨k, e1, _, hk⟩ := DataW.trod_int Tryd.underlying46 h1
    simp at e0 e1
    exact ⟨⟨s, k⟩, by rw [e0, e1], hs, u64_in hk⟩
end
/-- Registrations that came in. -/
theorem open_rgsw {H : Type} {enc : TypeId × Value → H} {W : World} {n : Nat} {cs : List Value} {x : DataW H × List MemPlace} (h : DataW.trod enc Tryd.prog W 0 (fun _ => true) true n 22 cs = some x) :
    ∃ (A : Option Addr) (c : Nat) (ss : List Rg), cs = [.slice A ss.length c] ∧ Rgs W A ss ∧ ss.length ≤ maxLen ∧ ∀ x ∈ ss, 0 ≤ x.k ∧ x.k < 18446744073709551616 := by
  rcases open_slice Tryd.underlying22 h with ⟨rfl, hx⟩ | ⟨a, len, cap, m, n, D, Pl, rfl, _, hl, hm, hmm, hx, hi⟩
  · exact ⟨none, 0, [], rfl, Rgs.nil _ _, Nat.zero_le _, fun x hx => by cases hx⟩
  · simp only [if_true] at hmm
    rw [Tryd.cells48] at hi
    obtain ⟨ss, hsl, hss⟩ := list_of (R := fun i (y : Rg) => y.h.size ≤ maxLen ∧ (0 ≤ y.k ∧ y.k < 18446744073709551616) ∧ W.cell? ((a.add (i * 2)).add 0) = some (.string y.h) ∧ W.cell? ((a.add (i * 2)).add 1) = some (.int .u64 y.k)) len fun i hil => by
      obtain ⟨cs', hc, ht⟩ := hi i (by omega)
      obtain ⟨y, hy, hw, hk⟩ := open_rgw ht
      obtain ⟨_, hcl, hat⟩ := World.cells?_some hc
      subst hy
      exact ⟨y, hw, hk, hat 0 (by omega), hat 1 (by omega)⟩
    refine ⟨some a, cap, ss, by rw [hsl], fun hn => ?_, by omega, fun x hx => by
      obtain ⟨i, hi⟩ := List.getElem?_of_mem hx
      exact (hss i x hi).2.1⟩
    obtain ⟨b, off, spot⟩ := a
    have hspot : spot = none := by
      have := (hss 0 ss[0] (List.getElem?_eq_getElem hn)).2.2.1
      simpa [Addr.add] using World.cell?_spot this
    subst hspot
    refine ⟨b, off, rfl, fun i y hy => ?_⟩
    obtain ⟨h0, _, h1, h2⟩ := hss i y hy
    rw [add_add, add_plain] at h1 h2
    exact ⟨h0, h1, h2⟩
theorem open_cellsw {H : Type} {enc : TypeId × Value → H} {W : World} {n : Nat} {cs : List Value} {x : DataW H × List MemPlace} (h : DataW.trod enc Tryd.prog W 0 (fun _ => true) true n 27 cs = some x) :
    ∃ (A : Option Addr) (c : Nat) (t : Tl), cs = (tlC A c t).toList ∧ Rgs W A t.rs ∧ t.rs.length ≤ maxLen ∧ TlU t := by
  obtain ⟨xs, m, _, rfl, hcl, hxl, hf⟩ := DataW.trod_struct Tryd.underlying27 h
  rw [Tryd.cells27] at hcl
  have hxl' : xs.length = 4 := hxl
  have h0 : DataW.trod enc Tryd.prog W 0 (fun _ => true) true m 22 (List.take (Tryd.prog.cellsOf 22) (List.drop 0 cs)) = some (xs[0]'(by omega)) := (hf 0 _ rfl).trans (List.getElem?_eq_getElem (by omega))
  rw [Tryd.cells22] at h0
  have h1 : DataW.trod enc Tryd.prog W 0 (fun _ => true) true m 24 (List.take (Tryd.prog.cellsOf 24) (List.drop 1 cs)) = some (xs[1]'(by omega)) := (hf 1 _ rfl).trans (List.getElem?_eq_getElem (by omega))
  rw [Tryd.cells24] at h1
  have h2 : DataW.trod enc Tryd.prog W 0 (fun _ => true) true m 25 (List.take (Tryd.prog.cellsOf 25) (List.drop 3 cs)) = some (xs[2]'(by omega)) := (hf 2 _ rfl).trans (List.getElem?_eq_getElem (by omega))
  rw [Tryd.cells25] at h2
  have h3 : DataW.trod enc Tryd.prog W 0 (fun _ => true) true m 4 (List.take (Tryd.prog.cellsOf 4) (List.drop 4 cs)) = some (xs[3]'(by omega)) := (hf 3 _ rfl).trans (List.getElem?_eq_getElem (by omega))
  rw [Tryd.cells4] at h3
  match cs, hcl with
  | [a, b, c, d, e], _ =>
    obtain ⟨A, cp, ss, e0, hr, hl, hky⟩ := open_rgsw (cs := [a]) h0
    obtain ⟨ty, ho, e1, hho⟩ := open_hold (cs := [b, c]) h1
    obtain ⟨k, e2, _, hk⟩ := DataW.trod_int (cs := [d]) Tryd.underlying25 h2
    obtain ⟨ap, e3, _⟩ := DataW.trod_bool (cs := [e]) Tryd.underlying4 h3
    simp at e0 e1 e2 e3
    exact ⟨A, cp, ⟨ss, ty, ho, k, ap⟩, by rw [e0, e1.1, e1.2, e2, e3], hr, hl, (u32_in_ hk).1, (u32_in_ hk).2, hky⟩
/-- A table that came in by value. -/
theorem open_tlw {H : Type} {enc : TypeId × Value → H} {W : World} {r : Reach} {b0 : Nat} {v : Value} {d : DataW H} {ps : List MemPlace} (hval : Value.okWide Tryd.prog W r b0 27 v) (hd : DataW.Trod enc Tryd.prog W 0 (fun _ => true) true 27 v d ps) :
    ∃ (A : Option Addr) (c : Nat) (t : Tl), v = tlV A c t ∧ Rgs W A t.rs ∧ (t.rs.length ≤ maxLen ∧ TlU t) := by
  simp only [Value.okWide, Tryd.underlying27] at hval
  obtain ⟨cs, rfl, _, _⟩ := hval
  obtain ⟨fuel, hf⟩ := hd
  obtain ⟨A, c, t, hy, hr, hl⟩ := open_cellsw hf
  refine ⟨A, c, t, ?_, hr, hl⟩
  have : cs.toList = (tlC A c t).toList := hy
  rw [← Array.toArray_toList (xs := cs), this]
end Go.Proofs.YthedonkjnfeajaaDoor
