/- Steps that came in. -/
import Derived.Test.YtacogfllnhopoaaUnN
import Derived.ProofKit
import Derived.SizedLaws
import Derived.ChangeSlices
import Derived.Carry
import Derived.Deep.Slices
import Derived.Deep.Fields
namespace Go.Proofs.Ytacogfllnhopoaa
open Go.ChangeShapes Go.WideShapes Go.ChangeAt Go.RowKit Go.Deep
theorem Try.laidOut : laidOutB Try.prog = true := by kernel_rfl
theorem Try.cells3 : Try.prog.cellsOf 3 = 1 := by kernel_rfl
theorem Try.cells9 : Try.prog.cellsOf 9 = 1 := by kernel_rfl
theorem Try.cells30 : Try.prog.cellsOf 30 = 4 := by kernel_rfl
theorem wf_bounds {n : Int} (h : (Lit.int .i64 n).wf = true) : -9223372036854775808 ≤ n ∧ n ≤ 9223372036854775807 := by
  simp [Lit.wf, IntKind.min, IntKind.max, IntKind.signed, IntKind.bits] at h
  omega
theorem list_of {α : Type} {R : Nat → α → Prop} : ∀ k : Nat, (∀ i, i < k → ∃ s, R i s) → ∃ l : List α, l.length = k ∧ ∀ i s, l[i]? = some s → R i s
  | 0, _ => ⟨[], rfl, fun i s h => by simp at h⟩
  | k + 1, h => by
    obtain ⟨l, hl, hr⟩ := list_of k fun i hi => h i (by omega)
    obtain ⟨s, hs⟩ := h k (Nat.lt_succ_self k)
    refine ⟨l ++ [s], by simp [hl], fun i t ht => ?_⟩
    by_cases hi : i < l.length
    · rw [List.getElem?_append_left hi] at ht
      exact hr i t ht
    · rw [List.getElem?_append_right (by omega)] at ht
      have h0 : i - l.length = 0 := by
        have := (List.getElem?_eq_some_iff.1 ht).1
        simp at this
        omega
      rw [h0] at ht
      simp at ht
      subst ht
      rw [show i = k by omega]
      exact hs
/-- A step: what is called, at which unit, for which host, with which reason. -/
structure Sx where
  kd : Int
  lu : Int
  ho : ByteArray
  wh : Int
def sxC (m : Sx) : Array Value := #[.int .i64 m.kd, .int .i64 m.lu, .string m.ho, .int .i64 m.wh]
def sxV (m : Sx) : Value := .agg #[.int .i64 m.kd, .int .i64 m.lu, .string m.ho, .int .i64 m.wh]
structure Sx.Ok (m : Sx) : Prop where
  ho : m.ho.size ≤ maxLen
  lu : -9223372036854775808 ≤ m.lu ∧ m.lu ≤ 9223372036854775807
theorem open_sxc {H : Type} {enc : TypeId × Value → H} {W : World} {n : Nat} {cs : List Value} {x : DataW H × List MemPlace} (h : DataW.trod enc Try.prog W 0 (fun _ => true) true n 30 cs = some x) :
    ∃ m : Sx, cs = (sxC m).toList ∧ m.Ok := by
  obtain ⟨xs, m, _, rfl, hcl, hxl, hf⟩ := DataW.trod_struct Try.underlying30 h
  rw [Try.cells30] at hcl
  have hxl' : xs.length = 4 := hxl
  have h0 : DataW.trod enc Try.prog W 0 (fun _ => true) true m 3 (List.take (Try.prog.cellsOf 3) (List.drop 0 cs)) = some (xs[0]'(by omega)) := (hf 0 _ rfl).trans (List.getElem?_eq_getElem (by omega))
  rw [Try.cells3] at h0
  have h1 : DataW.trod enc Try.prog W 0 (fun _ => true) true m 3 (List.take (Try.prog.cellsOf 3) (List.drop 1 cs)) = some (xs[1]'(by omega)) := (hf 1 _ rfl).trans (List.getElem?_eq_getElem (by omega))
  rw [Try.cells3] at h1
  have h2 : DataW.trod enc Try.prog W 0 (fun _ => true) true m 9 (List.take (Try.prog.cellsOf 9) (List.drop 2 cs)) = some (xs[2]'(by omega)) := (hf 2 _ rfl).trans (List.getElem?_eq_getElem (by omega))
  rw [Try.cells9] at h2
  have h3 : DataW.trod enc Try.prog W 0 (fun _ => true) true m 3 (List.take (Try.prog.cellsOf 3) (List.drop 3 cs)) = some (xs[3]'(by omega)) := (hf 3 _ rfl).trans (List.getElem?_eq_getElem (by omega))
  rw [Try.cells3] at h3
  match cs, hcl with
  | [a0, a1, a2, a3], _ =>
    obtain ⟨kd, e0, _, _⟩ := DataW.trod_int (cs := [a0]) Try.underlying3 h0
    obtain ⟨lu, e1, _, w1⟩ := DataW.trod_int (cs := [a1]) Try.underlying3 h1
    obtain ⟨ho, e2, _, w2⟩ := DataW.trod_string (cs := [a2]) Try.underlying9 h2
    obtain ⟨wh, e3, _, _⟩ := DataW.trod_int (cs := [a3]) Try.underlying3 h3
    simp at e0 e1 e2 e3
    exact ⟨⟨kd, lu, ho, wh⟩, by rw [e0, e1, e2, e3]; rfl, w2, wf_bounds w1⟩
/-- A step that came in by value. -/
theorem open_sx {H : Type} {enc : TypeId × Value → H} {W : World} {r : Reach} {b0 : Nat} {v : Value} {d : DataW H} {ps : List MemPlace} (hval : Value.okWide Try.prog W r b0 30 v) (hd : DataW.Trod enc Try.prog W 0 (fun _ => true) true 30 v d ps) :
    ∃ m : Sx, v = sxV m ∧ m.Ok := by
  simp only [Value.okWide, Try.underlying30] at hval
  obtain ⟨cs, rfl, _, _⟩ := hval
  obtain ⟨fuel, hf⟩ := hd
  obtain ⟨m, hy, hs⟩ := open_sxc hf
  refine ⟨m, ?_, hs⟩
  have : cs.toList = (sxC m).toList := hy
  rw [← Array.toArray_toList (xs := cs), this]
  rfl
/-- Steps that came in. -/
def Sxs (w : World) (A : Option Addr) (l : List Sx) : Prop :=
  0 < l.length → ∃ b o, A = some ⟨b, o, none⟩ ∧ b < w.heap.size ∧ ∀ (j : Nat) (m : Sx), l[j]? = some m → m.Ok ∧ ∀ (i : Nat) (u : Value), (sxC m)[i]? = some u → w.cell? ⟨b, o + j * 4 + i, none⟩ = some u
theorem open_sxs {H : Type} {enc : TypeId × Value → H} {W : World} {A : Option Addr} {l c : Nat} {d : DataW H} {p : List MemPlace} (h : DataW.Trod enc Try.prog W 0 (fun _ => true) true 22 (.slice A l c) d p) :
    ∃ ss : List Sx, ss.length = l ∧ Sxs W A ss := by
  obtain ⟨fuel, hf⟩ := h
  rcases open_slice Try.underlying22 hf with ⟨hcs, hx⟩ | ⟨a, len, cap, m, n, D, Pl, hcs, _, hl, hm, hmm, hx, hi⟩
  · simp [Value.cells] at hcs
    obtain ⟨rfl, rfl, rfl⟩ := hcs
    exact ⟨[], rfl, fun h => absurd h (Nat.not_lt_zero _)⟩
  · simp [Value.cells] at hcs
    obtain ⟨rfl, rfl, rfl⟩ := hcs
    simp only [Prod.mk.injEq] at hx
    obtain ⟨rfl, _⟩ := hx
    simp only [if_true] at hmm
    rw [Try.cells30] at hi
    obtain ⟨ss, hsl, hss⟩ := list_of (R := fun i (y : Sx) => y.Ok ∧ ∀ (q : Nat) (u : Value), (sxC y)[q]? = some u → W.cell? ((a.add (i * 4)).add q) = some u) l fun i hil => by
      obtain ⟨cs', hc, ht⟩ := hi i (by omega)
      obtain ⟨y, hy, hw⟩ := open_sxc ht
      obtain ⟨_, hcl, hat⟩ := World.cells?_some hc
      refine ⟨y, hw, fun q u hu => ?_⟩
      have hq : q < (sxC y).size := (Array.getElem?_eq_some_iff.1 hu).1
      have hq14 : q < 4 := hq
      have h1 := hat q (by omega)
      rw [h1, ← hu]
      have : cs' = (sxC y).toList := hy
      subst this
      simp
    refine ⟨ss, hsl, fun hn => ?_⟩
    obtain ⟨b, off, spot⟩ := a
    have hspot : spot = none := by
      have := (hss 0 ss[0] (List.getElem?_eq_getElem hn)).2 0 _ rfl
      simpa [Addr.add] using World.cell?_spot this
    subst hspot
    have hcell : ∀ (i : Nat) (y : Sx), ss[i]? = some y → y.Ok ∧ ∀ (q : Nat) (u : Value), (sxC y)[q]? = some u → W.cell? ⟨b, off + i * 4 + q, none⟩ = some u := fun i y hy => by
      obtain ⟨h0, h1⟩ := hss i y hy
      refine ⟨h0, fun q u hu => ?_⟩
      have := h1 q u hu
      rw [add_add, add_plain] at this
      rw [Nat.add_assoc]
      exact this
    exact ⟨b, off, rfl, World.block_lt_of_cell? W _ ((hcell 0 ss[0] (List.getElem?_eq_getElem hn)).2 0 _ rfl), hcell⟩
theorem Sxs.below {w w' : World} {A : Option Addr} {l : List Sx} (h : Sxs w A l) (hb : Below w.heap.size w w') : Sxs w' A l := fun hn => by
  obtain ⟨b, o, rfl, hl, hc⟩ := h hn
  refine ⟨b, o, rfl, Nat.lt_of_lt_of_le hl hb.size, fun j m hm => ⟨(hc j m hm).1, fun i u hu => ?_⟩⟩
  exact (World.cell?_of_block (a := ⟨b, o + j * 4 + i, none⟩) (hb.block b hl)).trans ((hc j m hm).2 i u hu)
end Go.Proofs.Ytacogfllnhopoaa
