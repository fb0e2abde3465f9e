/- What the rows want: an ask that came in by value, with what its types allow. -/
import Derived.Test.YtaachlijpgmjeaaDoorCdLt
import Derived.Test.YtaachlijpgmjeaaDoorCdL
import Derived.SizedLaws
import Derived.Carry
namespace Go.Proofs.YtaachlijpgmjeaaDoor
open Go.ChangeShapes Go.WideShapes Go.ChangeAt Go.RowKit
theorem i64_in_ {n : Int} (h : (Lit.int .i64 n).wf = true) : -9223372036854775808 ≤ n ∧ n ≤ 9223372036854775807 := by
  simpa [Lit.wf, IntKind.min, IntKind.max, IntKind.signed, IntKind.bits] using h
theorem u32_nat {x : Int} (h : (Lit.int .u32 x).wf = true) : ∃ n : Nat, x = n ∧ n < 4294967296 := by
  have hd : (0 : Int) ≤ x ∧ x ≤ 4294967295 := by simpa [Lit.wf, IntKind.min, IntKind.max, IntKind.signed, IntKind.bits] using h
  exact ⟨x.toNat, by omega, by omega⟩
theorem u8_nat {x : Int} (h : (Lit.int .u8 x).wf = true) : ∃ b : UInt8, x = (b.toNat : Int) := by
  have hd : (0 : Int) ≤ x ∧ x ≤ 255 := by simpa [Lit.wf, IntKind.min, IntKind.max, IntKind.signed, IntKind.bits] using h
  exact ⟨UInt8.ofNat x.toNat, by rw [UInt8.toNat_ofNat']; omega⟩
theorem Tryd.laidOut : laidOutB Tryd.prog = true := by kernel_rfl
theorem Tryd.cells24 : Tryd.prog.cellsOf 24 = 7 := by kernel_rfl
section
variable {H : Type} {enc : TypeId × Value → H} {W : World} {base : Nat} {sp : Nat → Bool} {held : Bool} {cs : List Value} {n : Nat} {x : DataW H × List MemPlace}
theorem open_akc (h : DataW.trod enc Tryd.prog W base sp held n 24 cs = some x) : ∃ y : Ak, cs = (akC y).toList ∧ Bnd y := by
  obtain ⟨xs, m, _, rfl, hcl, hxl, hf⟩ := DataW.trod_struct Tryd.underlying24 h
  rw [Tryd.cells24] at hcl
  have hxl' : xs.length = 7 := hxl
  match xs, hxl' with
  | [y0, y1, y2, y3, y4, y5, y6], _ =>
    have h0 : DataW.trod enc Tryd.prog W base sp held m 3 (List.take (Tryd.prog.cellsOf 3) (List.drop 0 cs)) = some y0 := hf 0 _ rfl
    have h1 : DataW.trod enc Tryd.prog W base sp held m 3 (List.take (Tryd.prog.cellsOf 3) (List.drop 1 cs)) = some y1 := hf 1 _ rfl
    have h2 : DataW.trod enc Tryd.prog W base sp held m 3 (List.take (Tryd.prog.cellsOf 3) (List.drop 2 cs)) = some y2 := hf 2 _ rfl
    have h3 : DataW.trod enc Tryd.prog W base sp held m 4 (List.take (Tryd.prog.cellsOf 4) (List.drop 3 cs)) = some y3 := hf 3 _ rfl
    have h4 : DataW.trod enc Tryd.prog W base sp held m 3 (List.take (Tryd.prog.cellsOf 3) (List.drop 4 cs)) = some y4 := hf 4 _ rfl
    have h5 : DataW.trod enc Tryd.prog W base sp held m 3 (List.take (Tryd.prog.cellsOf 3) (List.drop 5 cs)) = some y5 := hf 5 _ rfl
    have h6 : DataW.trod enc Tryd.prog W base sp held m 3 (List.take (Tryd.prog.cellsOf 3) (List.drop 6 cs)) = some y6 := hf 6 _ rfl
    rw [Tryd.cells3] at h0 h1 h2 h4 h5 h6
    rw [Tryd.cells4] at h3
    match cs, hcl with
    | [u0, u1, u2, u3, u4, u5, u6], _ =>
      obtain ⟨a0, e0, _, w0⟩ := DataW.trod_int Tryd.underlying3 h0
      obtain ⟨a1, e1, _, w1⟩ := DataW.trod_int Tryd.underlying3 h1
      obtain ⟨a2, e2, _, w2⟩ := DataW.trod_int Tryd.underlying3 h2
      obtain ⟨a3, e3, _⟩ := DataW.trod_bool Tryd.underlying4 h3
      obtain ⟨a4, e4, _, w4⟩ := DataW.trod_int Tryd.underlying3 h4
      obtain ⟨a5, e5, _, w5⟩ := DataW.trod_int Tryd.underlying3 h5
      obtain ⟨a6, e6, _, w6⟩ := DataW.trod_int Tryd.underlying3 h6
      simp at e0 e1 e2 e3 e4 e5 e6
      exact ⟨⟨a0, a1, a2, a3, a4, a5, a6⟩, by rw [e0, e1, e2, e3, e4, e5, e6], ⟨i64_in_ w0, i64_in_ w1, i64_in_ w2, i64_in_ w4, i64_in_ w5, i64_in_ w6⟩⟩
end
theorem open_ak {H : Type} {enc : TypeId × Value → H} {W : World} {r : Reach} {b0 : Nat} {v : Value} {d : DataW H} {ps : List MemPlace} (hval : Value.okWide Tryd.prog W r b0 24 v) (hd : DataW.Trod enc Tryd.prog W 0 (fun _ => true) true 24 v d ps) :
    ∃ y : Ak, v = akV y ∧ Bnd y := by
  simp only [Value.okWide, Tryd.underlying24] at hval
  obtain ⟨cs, rfl, _, _⟩ := hval
  obtain ⟨fuel, hf⟩ := hd
  obtain ⟨m, hy, hs⟩ := open_akc hf
  refine ⟨m, ?_, hs⟩
  have : cs.toList = (akC m).toList := hy
  rw [← Array.toArray_toList (xs := cs), this]
end Go.Proofs.YtaachlijpgmjeaaDoor
