/- What the listed table of four steps gives the walks; an array of two numbers by value. -/
import Derived.Test.YthedonkjnfeajaaDoorCrc
import Derived.ProofKit
import Derived.LaidMore
import Derived.OpenShut
import Derived.Stop.Joined
import Derived.SevenTiedAt
import Derived.ShutString
import Derived.WideKeyArr2
namespace Go.Proofs.YthedonkjnfeajaaDoor
open Go.ChangeShapes Go.WideShapes Go.ChangeAt Go.RowKit
open Go.ChangeMaps (open_string shut_string)
theorem Tryd.own : ownKnob Tryd.prog.godebug = none := by kernel_rfl
theorem gSteps : Tryd.prog.globalNamed "headgate/crc.steps" = some 0 := by kernel_rfl
theorem tSteps : (Tryd.prog.globals[0]?).map (·.type) = some 95 := by kernel_rfl
theorem cells38 : Tryd.prog.cellsOf 95 = 16 := by kernel_rfl
theorem cells22 : Tryd.prog.cellsOf 25 = 1 := by kernel_rfl
abbrev laidC : List (String × DataW Unit) := [("headgate/crc.steps", Rows.laid_headgate_crc_steps)]
theorem laid_all : (Rows.laid_headgate_crc_steps : DataW Unit) = .agg ((List.range 16).map fun i => .lit (.int .u32 (st4 i : Nat))) := by kernel_rfl
theorem tab_of_laid {W : World} (h : laidMetH Tryd.prog laidC W) : Tab W := by
  rw [MakeChecks.laidMetH_plain _ _ _ (by kernel_rfl)] at h
  obtain ⟨ps, ⟨g0, t0, cs0, f0, p0, q0, hg0, ht0, hv0, hd0, _, _⟩, _, _⟩ := h
  obtain rfl := Option.some.inj (gSteps.symm.trans hg0)
  obtain rfl := Option.some.inj (tSteps.symm.trans ht0)
  obtain ⟨xs, m1, rfl, hx1, hlen, hn, hel⟩ := DataW.trod_array Tryd.underlying95 hd0
  rw [cells38] at hlen
  have hc : ∀ i, i < 16 → W.cell? ⟨0, i, none⟩ = some (.int .u32 (st4 i : Nat)) := by
    intro i hi
    have h0 := hel i hi
    rw [cells22] at h0
    have hx : xs[i]? = some xs[i] := List.getElem?_eq_getElem (by omega)
    rw [hx] at h0
    obtain ⟨k, e1, e2, _⟩ := DataW.trod_int Tryd.underlying25 h0
    have hxa := laid_all.symm.trans (Prod.mk.inj hx1).1
    have hl := congrArg (fun l => l[i]?) (DataW.agg.inj hxa)
    simp only [List.getElem?_map, hx, Option.map_some, e2, List.getElem?_range hi, Option.some.injEq, DataW.lit.injEq, Lit.int.injEq, true_and] at hl
    subst hl
    have hv := World.var?_cell hg0 hv0 i
    rw [hv]
    have hlt : i < cs0.toList.length := by omega
    rw [Nat.mul_one] at e1
    have e3 : cs0.toList.drop i = cs0.toList[i] :: cs0.toList.drop (i + 1) := List.drop_eq_getElem_cons hlt
    rw [e3] at e1
    simp at e1
    rw [← e1]
    simp at hlt
    rw [Array.getElem?_eq_getElem hlt]
  refine ⟨?_, hc⟩
  have h0 := hc 0 (by decide)
  rcases Nat.lt_or_ge 0 W.heap.size with hz | hz
  · exact hz
  · exfalso
    have : W.heap[0]? = none := Array.getElem?_eq_none hz
    simp [World.cell?, this] at h0
theorem u32_nat {x : Int} (h : (Lit.int .u32 x).wf = true) : ∃ n : Nat, x = n ∧ n < 4294967296 := by
  have hd : (0 : Int) ≤ x ∧ x ≤ 4294967295 := by simpa [Lit.wf, IntKind.min, IntKind.max, IntKind.signed, IntKind.bits] using h
  exact ⟨x.toNat, by omega, by omega⟩
theorem u8_nat {x : Int} (h : (Lit.int .u8 x).wf = true) : ∃ b : UInt8, x = (b.toNat : Int) := by
  have hd : (0 : Int) ≤ x ∧ x ≤ 255 := by simpa [Lit.wf, IntKind.min, IntKind.max, IntKind.signed, IntKind.bits] using h
  exact ⟨UInt8.ofNat x.toNat, by rw [UInt8.toNat_ofNat']; omega⟩
section
variable {H : Type} {enc : TypeId × Value → H} {P : Program} {t e : TypeId} {q : IntKind} {W : World} {base : Nat} {sp : Nat → Bool} {held : Bool}
theorem open_two {r : Reach} {b0 : Nat} {v : Value} {d : DataW H} {ps : List MemPlace} (hu : P.underlying t = some (.array 2 e)) (he : P.underlying e = some (.int q)) (hc : P.cellsOf e = 1) (ht : P.cellsOf t = 2)
    (hval : Value.okWide P W r b0 t v) (hd : DataW.Trod enc P W base sp held t v d ps) :
    ∃ a b : Int, v = .agg #[.int q a, .int q b] ∧ d = .agg [.lit (.int q a), .lit (.int q b)] ∧ ps = [] ∧ (Lit.int q a).wf = true ∧ (Lit.int q b).wf = true := by
  simp only [Value.okWide, hu] at hval
  obtain ⟨cs, rfl, hn, _⟩ := hval
  rw [ht] at hn
  obtain ⟨c0, c1, rfl⟩ : ∃ c0 c1, cs = #[c0, c1] := by
    obtain ⟨l⟩ := cs
    match l, hn with
    | [c0, c1], _ => exact ⟨c0, c1, rfl⟩
  obtain ⟨fuel, hf⟩ := hd
  cases fuel with
  | zero => simp [DataW.trod] at hf
  | succ m =>
    rw [DataW.trod_step] at hf
    unfold DataW.trodStep at hf
    simp only [hu, Value.cells, ht, hc] at hf
    rw [if_pos (show [c0, c1].length = 2 from rfl)] at hf
    simp only [Option.map_eq_some_iff] at hf
    obtain ⟨ys, hy, e1⟩ := hf
    rw [show List.range 2 = [0, 1] from rfl, List.mapM_cons, List.mapM_cons, List.mapM_nil] at hy
    simp only [bind, Option.bind_eq_some_iff, pure, Option.some.injEq] at hy
    obtain ⟨y0, h0, ys1, ⟨y1, h1, ys2, rfl, rfl⟩, rfl⟩ := hy
    obtain ⟨a, ea, rfl, wa⟩ := DataW.trod_int he h0
    obtain ⟨b, eb, rfl, wb⟩ := DataW.trod_int he h1
    simp at ea eb
    subst ea eb
    simp only [Prod.mk.injEq] at e1
    exact ⟨a, b, rfl, by rw [← e1.1]; rfl, by rw [← e1.2]; rfl, wa, wb⟩
theorem shut_two {a b : Int} (hu : P.underlying t = some (.array 2 e)) (he : P.underlying e = some (.int q)) (hc : P.cellsOf e = 1) (ht : P.cellsOf t = 2) (wa : (Lit.int q a).wf = true) (wb : (Lit.int q b).wf = true) :
    DataW.Trod enc P W base sp held t (.agg #[.int q a, .int q b]) (.agg [.lit (.int q a), .lit (.int q b)]) [] := by
  refine ⟨2, ?_⟩
  rw [DataW.trod_step]
  unfold DataW.trodStep
  simp [hu, Value.cells, ht, hc, show List.range 2 = [0, 1] from rfl, DataW.trod, he, wa, wb]
end
end Go.Proofs.YthedonkjnfeajaaDoor
