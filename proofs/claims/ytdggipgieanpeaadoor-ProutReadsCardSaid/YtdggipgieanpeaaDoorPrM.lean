/- What the rows want: a table that came in by value. -/
import Derived.Test.YtdggipgieanpeaaDoorPrL
import Derived.Test.YtdggipgieanpeaaDoorRows
import Derived.ProofKit
import Derived.LaidMore
import Derived.OpenShut
import Derived.Stop.Joined
import Derived.SevenTiedAt
import Derived.ShutString
import Derived.SizedLaws
import Derived.Carry
import Derived.Lay
import Derived.Deep.Slices
import Derived.Deep.Fields
namespace Go.Proofs.YtdggipgieanpeaaDoor
open Go.ChangeShapes Go.WideShapes Go.ChangeAt Go.RowKit Go.Deep
theorem Tryd.laidOut : laidOutB Tryd.prog = true := by kernel_rfl
theorem i64_in_ {n : Int} (h : (Lit.int .i64 n).wf = true) : In64 n := by
  unfold In64
  simpa [Lit.wf, IntKind.min, IntKind.max, IntKind.signed, IntKind.bits] using h
theorem u64_in_ {n : Int} (h : (Lit.int .u64 n).wf = true) : ∃ k : Nat, n = (k : Int) ∧ k < 18446744073709551616 := by
  have : 0 ≤ n ∧ n ≤ 18446744073709551615 := by simpa [Lit.wf, IntKind.min, IntKind.max, IntKind.signed, IntKind.bits] using h
  exact ⟨n.toNat, by omega, by omega⟩
theorem u32_in_ {n : Int} (h : (Lit.int .u32 n).wf = true) : ∃ k : Nat, n = (k : Int) ∧ k < 4294967296 := by
  have : 0 ≤ n ∧ n ≤ 4294967295 := by simpa [Lit.wf, IntKind.min, IntKind.max, IntKind.signed, IntKind.bits] using h
  exact ⟨n.toNat, by omega, by omega⟩
/-- A table. -/
structure TbK where
  l : List Rk
  ty : Int
  ho : ByteArray
  ge : Nat
  ap : Bool
theorem Tryd.cells3 : Tryd.prog.cellsOf 3 = 1 := by kernel_rfl
theorem Tryd.cells9 : Tryd.prog.cellsOf 9 = 1 := by kernel_rfl
theorem Tryd.cells22 : Tryd.prog.cellsOf 22 = 1 := by kernel_rfl
theorem Tryd.cells24 : Tryd.prog.cellsOf 24 = 2 := by kernel_rfl
theorem Tryd.cells25 : Tryd.prog.cellsOf 25 = 1 := by kernel_rfl
theorem Tryd.cells4 : Tryd.prog.cellsOf 4 = 1 := by kernel_rfl
theorem Tryd.cells32 : Tryd.prog.cellsOf 32 = 1 := by kernel_rfl
theorem Tryd.cells27 : Tryd.prog.cellsOf 27 = 5 := by kernel_rfl
theorem Tryd.cells36 : Tryd.prog.cellsOf 36 = 2 := by kernel_rfl
theorem one_cell {cs : List Value} {j : Nat} (hj : j < cs.length) : ∃ v, cs[j]? = some v ∧ (cs.drop j).take 1 = [v] :=
  ⟨cs[j], List.getElem?_eq_getElem hj, by rw [List.drop_eq_getElem_cons hj]; rfl⟩
section
variable {H : Type} {enc : TypeId × Value → H} {W : World} {base : Nat} {sp : Nat → Bool} {held : Bool} {cs : List Value} {n : Nat} {x : DataW H × List MemPlace}
theorem open_rg (h : DataW.trod enc Tryd.prog W base sp held n 36 cs = some x) : ∃ y : Rk, cs = [.string y.h, .int .u64 (y.k : Int)] ∧ y.Wf := by
  obtain ⟨y0, y1, m, rfl, hcl, h0, h1⟩ := trod_struct2 Tryd.underlying36 h
  rw [Tryd.cells36] at hcl
  match cs, hcl with
  | [a, b], _ =>
    rw [Tryd.cells9] at h0
    rw [Tryd.cells32] at h1
    obtain ⟨s, e0, _, _⟩ := DataW.trod_string Tryd.underlying9 h0
    obtain ⟨k, e1, _, w1⟩ := DataW.trod_int Tryd.underlying32 h1
    obtain ⟨k, rfl, b1⟩ := u64_in_ w1
    simp at e0 e1
    exact ⟨⟨s, k⟩, by rw [e0, e1], ⟨b1⟩⟩
theorem open_hold (h : DataW.trod enc Tryd.prog W base sp held n 24 cs = some x) : ∃ (ty : Int) (ho : ByteArray), cs = [.int .i64 ty, .string ho] ∧ In64 ty := by
  obtain ⟨y0, y1, m, rfl, hcl, h0, h1⟩ := trod_struct2 Tryd.underlying24 h
  rw [Tryd.cells24] at hcl
  match cs, hcl with
  | [a, b], _ =>
    rw [Tryd.cells3] at h0
    rw [Tryd.cells9] at h1
    obtain ⟨k, e0, _, w0⟩ := DataW.trod_int Tryd.underlying3 h0
    obtain ⟨s, e1, _, _⟩ := DataW.trod_string Tryd.underlying9 h1
    simp at e0 e1
    exact ⟨k, s, by rw [e0, e1], i64_in_ w0⟩
end
theorem list_of {α : Type} {R : Nat → α → Prop} : ∀ k : Nat, (∀ i, i < k → ∃ s, R i s) → ∃ l : List α, l.length = k ∧ ∀ i s, l[i]? = some s → R i s
  | 0, _ => ⟨[], rfl, fun i s h => by simp at h⟩
  | k + 1, h => by
    obtain ⟨l, hl, hr⟩ := list_of k fun i hi => h i (by omega)
    obtain ⟨s, hs⟩ := h k (Nat.lt_succ_self k)
    refine ⟨l ++ [s], by simp [hl], fun i t ht => ?_⟩
    by_cases hi : i < l.length
    · rw [List.getElem?_append_left hi] at ht
      exact hr i t ht
    · rw [List.getElem?_append_right (by omega)] at ht
      have h0 : i - l.length = 0 := by
        have := (List.getElem?_eq_some_iff.1 ht).1
        simp at this
        omega
      rw [h0] at ht
      simp at ht
      subst ht
      rw [show i = k by omega]
      exact hs
/-- Registrations that came in. -/
theorem open_rgs {H : Type} {enc : TypeId × Value → H} {W : World} {n : Nat} {cs : List Value} {x : DataW H × List MemPlace} (h : DataW.trod enc Tryd.prog W 0 (fun _ => true) true n 22 cs = some x) :
    ∃ (A : Option Addr) (c : Nat) (ss : List Rk), cs = [.slice A ss.length c] ∧ Rks W A ss ∧ ss.length ≤ maxLen := by
  rcases open_slice Tryd.underlying22 h with ⟨rfl, hx⟩ | ⟨a, len, cap, m, n, D, Pl, rfl, _, hl, hm, hmm, hx, hi⟩
  · exact ⟨none, 0, [], rfl, (fun h => absurd h (Nat.not_lt_zero _)), Nat.zero_le _⟩
  · simp only [if_true] at hmm
    rw [Tryd.cells36] at hi
    obtain ⟨ss, hsl, hss⟩ := list_of (R := fun i (y : Rk) => y.Wf ∧ W.cell? ((a.add (i * 2)).add 0) = some (.string y.h) ∧ W.cell? ((a.add (i * 2)).add 1) = some (.int .u64 (y.k : Int))) len fun i hil => by
      obtain ⟨cs', hc, ht⟩ := hi i (by omega)
      obtain ⟨y, hy, hw⟩ := open_rg ht
      obtain ⟨_, hcl, hat⟩ := World.cells?_some hc
      subst hy
      exact ⟨y, hw, hat 0 (by omega), hat 1 (by omega)⟩
    refine ⟨some a, cap, ss, by rw [hsl], fun hn => ?_, by omega⟩
    obtain ⟨b, off, spot⟩ := a
    have hspot : spot = none := by
      have := (hss 0 ss[0] (List.getElem?_eq_getElem hn)).2.1
      simpa [Addr.add] using World.cell?_spot this
    subst hspot
    refine ⟨b, off, rfl, fun i y hy => ?_⟩
    obtain ⟨h0, h1, h2⟩ := hss i y hy
    rw [add_add, add_plain] at h1 h2
    exact ⟨h0, h1, h2⟩
theorem open_cells {H : Type} {enc : TypeId × Value → H} {W : World} {n : Nat} {cs : List Value} {x : DataW H × List MemPlace} (h : DataW.trod enc Tryd.prog W 0 (fun _ => true) true n 27 cs = some x) :
    ∃ (A : Option Addr) (c : Nat) (t : TbK), cs = (tbC A t.l.length c t.ty t.ho t.ge t.ap).toList ∧ Rks W A t.l ∧ In64 t.ty ∧ t.ge < 4294967296 := by
  obtain ⟨xs, m, _, rfl, hcl, hxl, hf⟩ := DataW.trod_struct Tryd.underlying27 h
  rw [Tryd.cells27] at hcl
  have hxl' : xs.length = 4 := hxl
  have h0 : DataW.trod enc Tryd.prog W 0 (fun _ => true) true m 22 (List.take (Tryd.prog.cellsOf 22) (List.drop 0 cs)) = some (xs[0]'(by omega)) := (hf 0 _ rfl).trans (List.getElem?_eq_getElem (by omega))
  rw [Tryd.cells22] at h0
  have h1 : DataW.trod enc Tryd.prog W 0 (fun _ => true) true m 24 (List.take (Tryd.prog.cellsOf 24) (List.drop 1 cs)) = some (xs[1]'(by omega)) := (hf 1 _ rfl).trans (List.getElem?_eq_getElem (by omega))
  rw [Tryd.cells24] at h1
  have h2 : DataW.trod enc Tryd.prog W 0 (fun _ => true) true m 25 (List.take (Tryd.prog.cellsOf 25) (List.drop 3 cs)) = some (xs[2]'(by omega)) := (hf 2 _ rfl).trans (List.getElem?_eq_getElem (by omega))
  rw [Tryd.cells25] at h2
  have h3 : DataW.trod enc Tryd.prog W 0 (fun _ => true) true m 4 (List.take (Tryd.prog.cellsOf 4) (List.drop 4 cs)) = some (xs[3]'(by omega)) := (hf 3 _ rfl).trans (List.getElem?_eq_getElem (by omega))
  rw [Tryd.cells4] at h3
  match cs, hcl with
  | [a, b, c, d, e], _ =>
    obtain ⟨A, cp, ss, e0, hr, _⟩ := open_rgs (cs := [a]) h0
    obtain ⟨ty, ho, e1, hho⟩ := open_hold (cs := [b, c]) h1
    obtain ⟨k, e2, _, w2⟩ := DataW.trod_int (cs := [d]) Tryd.underlying25 h2
    obtain ⟨k, rfl, b2⟩ := u32_in_ w2
    obtain ⟨ap, e3, _⟩ := DataW.trod_bool (cs := [e]) Tryd.underlying4 h3
    simp at e0 e1 e2 e3
    exact ⟨A, cp, ⟨ss, ty, ho, k, ap⟩, by rw [e0, e1.1, e1.2, e2, e3], hr, hho, b2⟩
/-- A table that came in by value. -/
theorem open_tl {H : Type} {enc : TypeId × Value → H} {W : World} {r : Reach} {b0 : Nat} {v : Value} {d : DataW H} {ps : List MemPlace} (hval : Value.okWide Tryd.prog W r b0 27 v) (hd : DataW.Trod enc Tryd.prog W 0 (fun _ => true) true 27 v d ps) :
    ∃ (A : Option Addr) (c : Nat) (t : TbK), v = tbV A t.l.length c t.ty t.ho t.ge t.ap ∧ Rks W A t.l ∧ In64 t.ty ∧ t.ge < 4294967296 := by
  simp only [Value.okWide, Tryd.underlying27] at hval
  obtain ⟨cs, rfl, _, _⟩ := hval
  obtain ⟨fuel, hf⟩ := hd
  obtain ⟨A, c, t, hy, hr, hl⟩ := open_cells hf
  refine ⟨A, c, t, ?_, hr, hl⟩
  have : cs.toList = (tbC A t.l.length c t.ty t.ho t.ge t.ap).toList := hy
  rw [← Array.toArray_toList (xs := cs), this]
end Go.Proofs.YtdggipgieanpeaaDoor
