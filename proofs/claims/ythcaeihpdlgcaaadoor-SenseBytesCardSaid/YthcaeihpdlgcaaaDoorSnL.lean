/- What the rows want: a sense, and an outcome, that came in by value. -/
import Derived.Test.YthcaeihpdlgcaaaDoorSnG
import Derived.Test.YthcaeihpdlgcaaaDoorRows
import Derived.ProofKit
import Derived.LaidMore
import Derived.OpenShut
import Derived.Stop.Joined
import Derived.SevenTiedAt
import Derived.ShutString
import Derived.SizedLaws
import Derived.Carry
import Derived.Lay
namespace Go.Proofs.YthcaeihpdlgcaaaDoor
open Go.ChangeShapes Go.WideShapes Go.ChangeAt Go.RowKit
theorem Tryd.laidOut : laidOutB Tryd.prog = true := by kernel_rfl
theorem i64_in_ {n : Int} (h : (Lit.int .i64 n).wf = true) : In64 n := by
  unfold In64
  simpa [Lit.wf, IntKind.min, IntKind.max, IntKind.signed, IntKind.bits] using h
theorem Tryd.cells23 : Tryd.prog.cellsOf 23 = 4 := by kernel_rfl
theorem Tryd.cells41 : Tryd.prog.cellsOf 41 = 9 := by kernel_rfl
theorem Tryd.cells39 : Tryd.prog.cellsOf 39 = 2 := by kernel_rfl
theorem Tryd.cells36 : Tryd.prog.cellsOf 36 = 1 := by kernel_rfl
theorem Tryd.cells37 : Tryd.prog.cellsOf 37 = 1 := by kernel_rfl
theorem Tryd.cells3 : Tryd.prog.cellsOf 3 = 1 := by kernel_rfl
theorem Tryd.cells9 : Tryd.prog.cellsOf 9 = 1 := by kernel_rfl
section
variable {H : Type} {enc : TypeId × Value → H} {W : World} {base : Nat} {sp : Nat → Bool} {held : Bool} {cs : List Value} {n : Nat} {x : DataW H × List MemPlace}
theorem open_snc (h : DataW.trod enc Tryd.prog W base sp held n 23 cs = some x) : ∃ y : Sn, cs = (snC y).toList ∧ Bn y := by
  obtain ⟨xs, m, _, rfl, hcl, hxl, hf⟩ := DataW.trod_struct Tryd.underlying23 h
  rw [Tryd.cells23] at hcl
  have hxl' : xs.length = 4 := hxl
  match xs, hxl' with
  | [y0, y1, y2, y3], _ =>
    have h0 : DataW.trod enc Tryd.prog W base sp held m 3 (List.take (Tryd.prog.cellsOf 3) (List.drop 0 cs)) = some y0 := hf 0 _ rfl
    have h1 : DataW.trod enc Tryd.prog W base sp held m 3 (List.take (Tryd.prog.cellsOf 3) (List.drop 1 cs)) = some y1 := hf 1 _ rfl
    have h2 : DataW.trod enc Tryd.prog W base sp held m 3 (List.take (Tryd.prog.cellsOf 3) (List.drop 2 cs)) = some y2 := hf 2 _ rfl
    have h3 : DataW.trod enc Tryd.prog W base sp held m 3 (List.take (Tryd.prog.cellsOf 3) (List.drop 3 cs)) = some y3 := hf 3 _ rfl
    rw [Tryd.cells3] at h0 h1 h2 h3
    match cs, hcl with
    | [u0, u1, u2, u3], _ =>
      obtain ⟨a0, e0, _, w0⟩ := DataW.trod_int Tryd.underlying3 h0
      obtain ⟨a1, e1, _, w1⟩ := DataW.trod_int Tryd.underlying3 h1
      obtain ⟨a2, e2, _, w2⟩ := DataW.trod_int Tryd.underlying3 h2
      obtain ⟨a3, e3, _, w3⟩ := DataW.trod_int Tryd.underlying3 h3
      simp at e0 e1 e2 e3
      exact ⟨⟨a0, a1, a2, a3⟩, by rw [e0, e1, e2, e3], ⟨i64_in_ w0, i64_in_ w1, i64_in_ w2, i64_in_ w3⟩⟩
theorem open_hold (h : DataW.trod enc Tryd.prog W base sp held n 39 cs = some x) : ∃ (a : Int) (b : ByteArray), cs = [.int .i64 a, .string b] := by
  obtain ⟨xs, m, _, rfl, hcl, hxl, hf⟩ := DataW.trod_struct Tryd.underlying39 h
  rw [Tryd.cells39] at hcl
  have hxl' : xs.length = 2 := hxl
  match xs, hxl' with
  | [y0, y1], _ =>
    have h0 : DataW.trod enc Tryd.prog W base sp held m 3 (List.take (Tryd.prog.cellsOf 3) (List.drop 0 cs)) = some y0 := hf 0 _ rfl
    have h1 : DataW.trod enc Tryd.prog W base sp held m 9 (List.take (Tryd.prog.cellsOf 9) (List.drop 1 cs)) = some y1 := hf 1 _ rfl
    rw [Tryd.cells3] at h0
    rw [Tryd.cells9] at h1
    match cs, hcl with
    | [u, v], _ =>
      obtain ⟨a, e0, _, _⟩ := DataW.trod_int Tryd.underlying3 h0
      obtain ⟨b, e1, _, _⟩ := DataW.trod_string Tryd.underlying9 h1
      simp at e0 e1
      exact ⟨a, b, by rw [e0, e1]⟩
theorem open_ouc (h : DataW.trod enc Tryd.prog W base sp held n 41 cs = some x) : ∃ (c t u : Int) (r : Rs), cs = (ouC c t u r).toList ∧ In64 c ∧ In64 t ∧ In64 u := by
  obtain ⟨xs, m, _, rfl, hcl, hxl, hf⟩ := DataW.trod_struct Tryd.underlying41 h
  rw [Tryd.cells41] at hcl
  have hxl' : xs.length = 8 := hxl
  match xs, hxl' with
  | [y0, y1, y2, y3, y4, y5, y6, y7], _ =>
    have h0 : DataW.trod enc Tryd.prog W base sp held m 3 (List.take (Tryd.prog.cellsOf 3) (List.drop 0 cs)) = some y0 := hf 0 _ rfl
    have h1 : DataW.trod enc Tryd.prog W base sp held m 9 (List.take (Tryd.prog.cellsOf 9) (List.drop 1 cs)) = some y1 := hf 1 _ rfl
    have h2 : DataW.trod enc Tryd.prog W base sp held m 3 (List.take (Tryd.prog.cellsOf 3) (List.drop 2 cs)) = some y2 := hf 2 _ rfl
    have h3 : DataW.trod enc Tryd.prog W base sp held m 3 (List.take (Tryd.prog.cellsOf 3) (List.drop 3 cs)) = some y3 := hf 3 _ rfl
    have h5 : DataW.trod enc Tryd.prog W base sp held m 37 (List.take (Tryd.prog.cellsOf 37) (List.drop 5 cs)) = some y5 := hf 5 _ rfl
    have h6 : DataW.trod enc Tryd.prog W base sp held m 39 (List.take (Tryd.prog.cellsOf 39) (List.drop 6 cs)) = some y6 := hf 6 _ rfl
    have h7 : DataW.trod enc Tryd.prog W base sp held m 3 (List.take (Tryd.prog.cellsOf 3) (List.drop 8 cs)) = some y7 := hf 7 _ rfl
    rw [Tryd.cells3] at h0 h2 h3 h7
    rw [Tryd.cells9] at h1
    rw [Tryd.cells37] at h5
    rw [Tryd.cells39] at h6
    match cs, hcl with
    | [u0, u1, u2, u3, u4, u5, u6, u7, u8], _ =>
      obtain ⟨a0, e0, _, w0⟩ := DataW.trod_int Tryd.underlying3 h0
      obtain ⟨a1, e1, _, _⟩ := DataW.trod_string Tryd.underlying9 h1
      obtain ⟨a2, e2, _, w2⟩ := DataW.trod_int Tryd.underlying3 h2
      obtain ⟨a3, e3, _, w3⟩ := DataW.trod_int Tryd.underlying3 h3
      obtain ⟨a5, e5, _, _⟩ := DataW.trod_int Tryd.underlying37 h5
      obtain ⟨a6, b6, e6⟩ := open_hold h6
      obtain ⟨a7, e7, _, _⟩ := DataW.trod_int Tryd.underlying3 h7
      simp at e0 e1 e2 e3 e5 e6 e7
      exact ⟨a0, a2, a3, ⟨a1, u4, a5, a6, b6, a7⟩, by rw [e0, e1, e2, e3, e5, e6.1, e6.2, e7], i64_in_ w0, i64_in_ w2, i64_in_ w3⟩
end
theorem open_sn {H : Type} {enc : TypeId × Value → H} {W : World} {r : Reach} {b0 : Nat} {v : Value} {d : DataW H} {ps : List MemPlace} (hval : Value.okWide Tryd.prog W r b0 23 v) (hd : DataW.Trod enc Tryd.prog W 0 (fun _ => true) true 23 v d ps) :
    ∃ y : Sn, v = snV y ∧ Bn y := by
  simp only [Value.okWide, Tryd.underlying23] at hval
  obtain ⟨cs, rfl, _, _⟩ := hval
  obtain ⟨fuel, hf⟩ := hd
  obtain ⟨m, hy, hs⟩ := open_snc hf
  refine ⟨m, ?_, hs⟩
  have : cs.toList = (snC m).toList := hy
  rw [← Array.toArray_toList (xs := cs), this]
theorem open_ou {H : Type} {enc : TypeId × Value → H} {W : World} {r : Reach} {b0 : Nat} {v : Value} {d : DataW H} {ps : List MemPlace} (hval : Value.okWide Tryd.prog W r b0 41 v) (hd : DataW.Trod enc Tryd.prog W 0 (fun _ => true) true 41 v d ps) :
    ∃ (c t u : Int) (q : Rs), v = ouV c t u q ∧ In64 c ∧ In64 t ∧ In64 u := by
  simp only [Value.okWide, Tryd.underlying41] at hval
  obtain ⟨cs, rfl, _, _⟩ := hval
  obtain ⟨fuel, hf⟩ := hd
  obtain ⟨c, t, u, q, hy, h1, h2, h3⟩ := open_ouc hf
  refine ⟨c, t, u, q, ?_, h1, h2, h3⟩
  have : cs.toList = (ouC c t u q).toList := hy
  rw [← Array.toArray_toList (xs := cs), this]
end Go.Proofs.YthcaeihpdlgcaaaDoor
