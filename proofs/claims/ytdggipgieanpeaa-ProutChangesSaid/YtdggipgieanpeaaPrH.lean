/- What the rows want: a command that came in by value. -/
import Derived.Test.YtdggipgieanpeaaPrG
import Derived.Test.YtdggipgieanpeaaRows
import Derived.ProofKit
import Derived.LaidMore
import Derived.OpenShut
import Derived.Stop.Joined
import Derived.SevenTiedAt
import Derived.ShutString
import Derived.SizedLaws
import Derived.Carry
import Derived.Lay
import Derived.Deep.Slices
import Derived.Deep.Fields
namespace Go.Proofs.Ytdggipgieanpeaa
open Go.ChangeShapes Go.WideShapes Go.ChangeAt Go.RowKit Go.Deep
theorem Try.laidOut : laidOutB Try.prog = true := by kernel_rfl
theorem i64_in_ {n : Int} (h : (Lit.int .i64 n).wf = true) : In64 n := by
  unfold In64
  simpa [Lit.wf, IntKind.min, IntKind.max, IntKind.signed, IntKind.bits] using h
theorem u64_in_ {n : Int} (h : (Lit.int .u64 n).wf = true) : ∃ k : Nat, n = (k : Int) ∧ k < 18446744073709551616 := by
  have : 0 ≤ n ∧ n ≤ 18446744073709551615 := by simpa [Lit.wf, IntKind.min, IntKind.max, IntKind.signed, IntKind.bits] using h
  exact ⟨n.toNat, by omega, by omega⟩
section
variable {H : Type} {enc : TypeId × Value → H} {P : Program} {t e : TypeId} {q : IntKind} {W : World} {base : Nat} {sp : Nat → Bool} {held : Bool}
theorem open_two {r : Reach} {b0 : Nat} {v : Value} {d : DataW H} {ps : List MemPlace} (hu : P.underlying t = some (.array 2 e)) (he : P.underlying e = some (.int q)) (hc : P.cellsOf e = 1) (ht : P.cellsOf t = 2)
    (hval : Value.okWide P W r b0 t v) (hd : DataW.Trod enc P W base sp held t v d ps) :
    ∃ a b : Int, v = .agg #[.int q a, .int q b] ∧ d = .agg [.lit (.int q a), .lit (.int q b)] ∧ ps = [] ∧ (Lit.int q a).wf = true ∧ (Lit.int q b).wf = true := by
  simp only [Value.okWide, hu] at hval
  obtain ⟨cs, rfl, hn, _⟩ := hval
  rw [ht] at hn
  obtain ⟨c0, c1, rfl⟩ : ∃ c0 c1, cs = #[c0, c1] := by
    obtain ⟨l⟩ := cs
    match l, hn with
    | [c0, c1], _ => exact ⟨c0, c1, rfl⟩
  obtain ⟨fuel, hf⟩ := hd
  cases fuel with
  | zero => simp [DataW.trod] at hf
  | succ m =>
    rw [DataW.trod_step] at hf
    unfold DataW.trodStep at hf
    simp only [hu, Value.cells, ht, hc] at hf
    rw [if_pos (show [c0, c1].length = 2 from rfl)] at hf
    simp only [Option.map_eq_some_iff] at hf
    obtain ⟨ys, hy, e1⟩ := hf
    rw [show List.range 2 = [0, 1] from rfl, List.mapM_cons, List.mapM_cons, List.mapM_nil] at hy
    simp only [bind, Option.bind_eq_some_iff, pure, Option.some.injEq] at hy
    obtain ⟨y0, h0, ys1, ⟨y1, h1, ys2, rfl, rfl⟩, rfl⟩ := hy
    obtain ⟨a, ea, rfl, wa⟩ := DataW.trod_int he h0
    obtain ⟨b, eb, rfl, wb⟩ := DataW.trod_int he h1
    simp at ea eb
    subst ea eb
    simp only [Prod.mk.injEq] at e1
    exact ⟨a, b, rfl, by rw [← e1.1]; rfl, by rw [← e1.2]; rfl, wa, wb⟩
theorem shut_two {a b : Int} (hu : P.underlying t = some (.array 2 e)) (he : P.underlying e = some (.int q)) (hc : P.cellsOf e = 1) (ht : P.cellsOf t = 2) (wa : (Lit.int q a).wf = true) (wb : (Lit.int q b).wf = true) :
    DataW.Trod enc P W base sp held t (.agg #[.int q a, .int q b]) (.agg [.lit (.int q a), .lit (.int q b)]) [] := by
  refine ⟨2, ?_⟩
  rw [DataW.trod_step]
  unfold DataW.trodStep
  simp [hu, Value.cells, ht, hc, show List.range 2 = [0, 1] from rfl, DataW.trod, he, wa, wb]
end
theorem Try.cells26 : Try.prog.cellsOf 26 = 14 := by kernel_rfl
theorem Try.cells23 : Try.prog.cellsOf 23 = 1 := by kernel_rfl
theorem Try.cells24 : Try.prog.cellsOf 24 = 1 := by kernel_rfl
theorem Try.cells3 : Try.prog.cellsOf 3 = 1 := by kernel_rfl
theorem Try.cells4 : Try.prog.cellsOf 4 = 1 := by kernel_rfl
theorem Try.cells9 : Try.prog.cellsOf 9 = 1 := by kernel_rfl
theorem open_cmc {H : Type} {enc : TypeId × Value → H} {W : World} {n : Nat} {cs : List Value} {x : DataW H × List MemPlace} (h : DataW.trod enc Try.prog W 0 (fun _ => true) true n 26 cs = some x) :
    ∃ m : Kc, cs = (kcC m).toList ∧ m.Wf := by
  obtain ⟨xs, m, _, rfl, hcl, hxl, hf⟩ := DataW.trod_struct Try.underlying26 h
  rw [Try.cells26] at hcl
  have hxl' : xs.length = 14 := hxl
  have h0 : DataW.trod enc Try.prog W 0 (fun _ => true) true m 3 (List.take (Try.prog.cellsOf 3) (List.drop 0 cs)) = some (xs[0]'(by omega)) := (hf 0 _ rfl).trans (List.getElem?_eq_getElem (by omega))
  rw [Try.cells3] at h0
  have h1 : DataW.trod enc Try.prog W 0 (fun _ => true) true m 3 (List.take (Try.prog.cellsOf 3) (List.drop 1 cs)) = some (xs[1]'(by omega)) := (hf 1 _ rfl).trans (List.getElem?_eq_getElem (by omega))
  rw [Try.cells3] at h1
  have h2 : DataW.trod enc Try.prog W 0 (fun _ => true) true m 9 (List.take (Try.prog.cellsOf 9) (List.drop 2 cs)) = some (xs[2]'(by omega)) := (hf 2 _ rfl).trans (List.getElem?_eq_getElem (by omega))
  rw [Try.cells9] at h2
  have h3 : DataW.trod enc Try.prog W 0 (fun _ => true) true m 3 (List.take (Try.prog.cellsOf 3) (List.drop 3 cs)) = some (xs[3]'(by omega)) := (hf 3 _ rfl).trans (List.getElem?_eq_getElem (by omega))
  rw [Try.cells3] at h3
  have h4 : DataW.trod enc Try.prog W 0 (fun _ => true) true m 3 (List.take (Try.prog.cellsOf 3) (List.drop 4 cs)) = some (xs[4]'(by omega)) := (hf 4 _ rfl).trans (List.getElem?_eq_getElem (by omega))
  rw [Try.cells3] at h4
  have h5 : DataW.trod enc Try.prog W 0 (fun _ => true) true m 9 (List.take (Try.prog.cellsOf 9) (List.drop 5 cs)) = some (xs[5]'(by omega)) := (hf 5 _ rfl).trans (List.getElem?_eq_getElem (by omega))
  rw [Try.cells9] at h5
  have h6 : DataW.trod enc Try.prog W 0 (fun _ => true) true m 4 (List.take (Try.prog.cellsOf 4) (List.drop 6 cs)) = some (xs[6]'(by omega)) := (hf 6 _ rfl).trans (List.getElem?_eq_getElem (by omega))
  rw [Try.cells4] at h6
  have h7 : DataW.trod enc Try.prog W 0 (fun _ => true) true m 23 (List.take (Try.prog.cellsOf 23) (List.drop 7 cs)) = some (xs[7]'(by omega)) := (hf 7 _ rfl).trans (List.getElem?_eq_getElem (by omega))
  rw [Try.cells23] at h7
  have h8 : DataW.trod enc Try.prog W 0 (fun _ => true) true m 24 (List.take (Try.prog.cellsOf 24) (List.drop 8 cs)) = some (xs[8]'(by omega)) := (hf 8 _ rfl).trans (List.getElem?_eq_getElem (by omega))
  rw [Try.cells24] at h8
  have h9 : DataW.trod enc Try.prog W 0 (fun _ => true) true m 24 (List.take (Try.prog.cellsOf 24) (List.drop 9 cs)) = some (xs[9]'(by omega)) := (hf 9 _ rfl).trans (List.getElem?_eq_getElem (by omega))
  rw [Try.cells24] at h9
  have h10 : DataW.trod enc Try.prog W 0 (fun _ => true) true m 24 (List.take (Try.prog.cellsOf 24) (List.drop 10 cs)) = some (xs[10]'(by omega)) := (hf 10 _ rfl).trans (List.getElem?_eq_getElem (by omega))
  rw [Try.cells24] at h10
  have h11 : DataW.trod enc Try.prog W 0 (fun _ => true) true m 3 (List.take (Try.prog.cellsOf 3) (List.drop 11 cs)) = some (xs[11]'(by omega)) := (hf 11 _ rfl).trans (List.getElem?_eq_getElem (by omega))
  rw [Try.cells3] at h11
  have h12 : DataW.trod enc Try.prog W 0 (fun _ => true) true m 4 (List.take (Try.prog.cellsOf 4) (List.drop 12 cs)) = some (xs[12]'(by omega)) := (hf 12 _ rfl).trans (List.getElem?_eq_getElem (by omega))
  rw [Try.cells4] at h12
  have h13 : DataW.trod enc Try.prog W 0 (fun _ => true) true m 3 (List.take (Try.prog.cellsOf 3) (List.drop 13 cs)) = some (xs[13]'(by omega)) := (hf 13 _ rfl).trans (List.getElem?_eq_getElem (by omega))
  rw [Try.cells3] at h13
  match cs, hcl with
  | [a0, a1, a2, a3, a4, a5, a6, a7, a8, a9, a10, a11, a12, a13], _ =>
    obtain ⟨op, e0, _, w0⟩ := DataW.trod_int (cs := [a0]) Try.underlying3 h0
    obtain ⟨lu, e1, _, w1⟩ := DataW.trod_int (cs := [a1]) Try.underlying3 h1
    obtain ⟨ho, e2, _, _⟩ := DataW.trod_string (cs := [a2]) Try.underlying9 h2
    obtain ⟨lb, e3, _, w3⟩ := DataW.trod_int (cs := [a3]) Try.underlying3 h3
    obtain ⟨bl, e4, _, w4⟩ := DataW.trod_int (cs := [a4]) Try.underlying3 h4
    obtain ⟨da, e5, _, _⟩ := DataW.trod_string (cs := [a5]) Try.underlying9 h5
    obtain ⟨fu, e6, _⟩ := DataW.trod_bool (cs := [a6]) Try.underlying4 h6
    obtain ⟨rA, rn, rc, e7⟩ : ∃ rA rn rc, a7 = Value.slice rA rn rc := by
      rcases open_slice (cs := [a7]) Try.underlying23 h7 with ⟨hq, _⟩ | ⟨a, len, cap, m', n', D, Pl, hq, _⟩
      · exact ⟨none, 0, 0, by simpa using hq⟩
      · exact ⟨some a, len, cap, by simpa using hq⟩
    obtain ⟨ke, e8, _, w8⟩ := DataW.trod_int (cs := [a8]) Try.underlying24 h8
    obtain ⟨ke, rfl, b8⟩ := u64_in_ w8
    obtain ⟨nk, e9, _, w9⟩ := DataW.trod_int (cs := [a9]) Try.underlying24 h9
    obtain ⟨nk, rfl, b9⟩ := u64_in_ w9
    obtain ⟨ot, e10, _, w10⟩ := DataW.trod_int (cs := [a10]) Try.underlying24 h10
    obtain ⟨ot, rfl, b10⟩ := u64_in_ w10
    obtain ⟨ty, e11, _, w11⟩ := DataW.trod_int (cs := [a11]) Try.underlying3 h11
    obtain ⟨ig, e12, _⟩ := DataW.trod_bool (cs := [a12]) Try.underlying4 h12
    obtain ⟨ap, e13, _, w13⟩ := DataW.trod_int (cs := [a13]) Try.underlying3 h13
    simp at e0 e1 e2 e3 e4 e5 e6 e8 e9 e10 e11 e12 e13
    exact ⟨⟨op, lu, ho, lb, bl, da, fu, rA, rn, rc, ke, nk, ot, ty, ig, ap⟩, by rw [e0, e1, e2, e3, e4, e5, e6, e7, e8, e9, e10, e11, e12, e13], ⟨b8, b9, b10, i64_in_ w0, i64_in_ w1, i64_in_ w3, i64_in_ w4, i64_in_ w11, i64_in_ w13⟩⟩
/-- A command that came in by value. -/
theorem open_cm {H : Type} {enc : TypeId × Value → H} {W : World} {r : Reach} {b0 : Nat} {v : Value} {d : DataW H} {ps : List MemPlace} (hval : Value.okWide Try.prog W r b0 26 v) (hd : DataW.Trod enc Try.prog W 0 (fun _ => true) true 26 v d ps) :
    ∃ m : Kc, v = kcV m ∧ m.Wf := by
  simp only [Value.okWide, Try.underlying26] at hval
  obtain ⟨cs, rfl, _, _⟩ := hval
  obtain ⟨fuel, hf⟩ := hd
  obtain ⟨m, hy, hs⟩ := open_cmc hf
  refine ⟨m, ?_, hs⟩
  have : cs.toList = (kcC m).toList := hy
  rw [← Array.toArray_toList (xs := cs), this]
end Go.Proofs.Ytdggipgieanpeaa
