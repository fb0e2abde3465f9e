/- What the rows want: commands that came in. -/
import Derived.Test.YtgekadfkokkapaaDoorPk32
import Derived.Test.YtgekadfkokkapaaDoorPk05
namespace Go.Proofs.YtgekadfkokkapaaDoor
open Go.ChangeShapes Go.WideShapes Go.ChangeAt Go.RowKit Go.Deep
theorem Tryd.cells35 : Tryd.prog.cellsOf 35 = 1 := by kernel_rfl
theorem Tryd.cells37 : Tryd.prog.cellsOf 37 = 14 := by kernel_rfl
theorem open_cmc {H : Type} {enc : TypeId × Value → H} {W : World} {n : Nat} {cs : List Value} {x : DataW H × List MemPlace} (h : DataW.trod enc Tryd.prog W 0 (fun _ => true) true n 37 cs = some x) :
    ∃ m : Cm, cs = (cmC m).toList ∧ m.ho.size ≤ maxLen := by
  obtain ⟨xs, m, _, rfl, hcl, hxl, hf⟩ := DataW.trod_struct Tryd.underlying37 h
  rw [Tryd.cells37] at hcl
  have hxl' : xs.length = 14 := hxl
  have h0 : DataW.trod enc Tryd.prog W 0 (fun _ => true) true m 3 (List.take (Tryd.prog.cellsOf 3) (List.drop 0 cs)) = some (xs[0]'(by omega)) := (hf 0 _ rfl).trans (List.getElem?_eq_getElem (by omega))
  rw [Tryd.cells3] at h0
  have h1 : DataW.trod enc Tryd.prog W 0 (fun _ => true) true m 3 (List.take (Tryd.prog.cellsOf 3) (List.drop 1 cs)) = some (xs[1]'(by omega)) := (hf 1 _ rfl).trans (List.getElem?_eq_getElem (by omega))
  rw [Tryd.cells3] at h1
  have h2 : DataW.trod enc Tryd.prog W 0 (fun _ => true) true m 9 (List.take (Tryd.prog.cellsOf 9) (List.drop 2 cs)) = some (xs[2]'(by omega)) := (hf 2 _ rfl).trans (List.getElem?_eq_getElem (by omega))
  rw [Tryd.cells9] at h2
  have h3 : DataW.trod enc Tryd.prog W 0 (fun _ => true) true m 3 (List.take (Tryd.prog.cellsOf 3) (List.drop 3 cs)) = some (xs[3]'(by omega)) := (hf 3 _ rfl).trans (List.getElem?_eq_getElem (by omega))
  rw [Tryd.cells3] at h3
  have h4 : DataW.trod enc Tryd.prog W 0 (fun _ => true) true m 3 (List.take (Tryd.prog.cellsOf 3) (List.drop 4 cs)) = some (xs[4]'(by omega)) := (hf 4 _ rfl).trans (List.getElem?_eq_getElem (by omega))
  rw [Tryd.cells3] at h4
  have h5 : DataW.trod enc Tryd.prog W 0 (fun _ => true) true m 9 (List.take (Tryd.prog.cellsOf 9) (List.drop 5 cs)) = some (xs[5]'(by omega)) := (hf 5 _ rfl).trans (List.getElem?_eq_getElem (by omega))
  rw [Tryd.cells9] at h5
  have h6 : DataW.trod enc Tryd.prog W 0 (fun _ => true) true m 4 (List.take (Tryd.prog.cellsOf 4) (List.drop 6 cs)) = some (xs[6]'(by omega)) := (hf 6 _ rfl).trans (List.getElem?_eq_getElem (by omega))
  rw [Tryd.cells4] at h6
  have h7 : DataW.trod enc Tryd.prog W 0 (fun _ => true) true m 35 (List.take (Tryd.prog.cellsOf 35) (List.drop 7 cs)) = some (xs[7]'(by omega)) := (hf 7 _ rfl).trans (List.getElem?_eq_getElem (by omega))
  rw [Tryd.cells35] at h7
  have h8 : DataW.trod enc Tryd.prog W 0 (fun _ => true) true m 31 (List.take (Tryd.prog.cellsOf 31) (List.drop 8 cs)) = some (xs[8]'(by omega)) := (hf 8 _ rfl).trans (List.getElem?_eq_getElem (by omega))
  rw [Tryd.cells31] at h8
  have h9 : DataW.trod enc Tryd.prog W 0 (fun _ => true) true m 31 (List.take (Tryd.prog.cellsOf 31) (List.drop 9 cs)) = some (xs[9]'(by omega)) := (hf 9 _ rfl).trans (List.getElem?_eq_getElem (by omega))
  rw [Tryd.cells31] at h9
  have h10 : DataW.trod enc Tryd.prog W 0 (fun _ => true) true m 31 (List.take (Tryd.prog.cellsOf 31) (List.drop 10 cs)) = some (xs[10]'(by omega)) := (hf 10 _ rfl).trans (List.getElem?_eq_getElem (by omega))
  rw [Tryd.cells31] at h10
  have h11 : DataW.trod enc Tryd.prog W 0 (fun _ => true) true m 3 (List.take (Tryd.prog.cellsOf 3) (List.drop 11 cs)) = some (xs[11]'(by omega)) := (hf 11 _ rfl).trans (List.getElem?_eq_getElem (by omega))
  rw [Tryd.cells3] at h11
  have h12 : DataW.trod enc Tryd.prog W 0 (fun _ => true) true m 4 (List.take (Tryd.prog.cellsOf 4) (List.drop 12 cs)) = some (xs[12]'(by omega)) := (hf 12 _ rfl).trans (List.getElem?_eq_getElem (by omega))
  rw [Tryd.cells4] at h12
  have h13 : DataW.trod enc Tryd.prog W 0 (fun _ => true) true m 3 (List.take (Tryd.prog.cellsOf 3) (List.drop 13 cs)) = some (xs[13]'(by omega)) := (hf 13 _ rfl).trans (List.getElem?_eq_getElem (by omega))
  rw [Tryd.cells3] at h13
  match cs, hcl with
  | [a0, a1, a2, a3, a4, a5, a6, a7, a8, a9, a10, a11, a12, a13], _ =>
    obtain ⟨op, e0, _, _⟩ := DataW.trod_int (cs := [a0]) Tryd.underlying3 h0
    obtain ⟨lu, e1, _, _⟩ := DataW.trod_int (cs := [a1]) Tryd.underlying3 h1
    obtain ⟨ho, e2, _, w2⟩ := DataW.trod_string (cs := [a2]) Tryd.underlying9 h2
    obtain ⟨lb, e3, _, _⟩ := DataW.trod_int (cs := [a3]) Tryd.underlying3 h3
    obtain ⟨bl, e4, _, _⟩ := DataW.trod_int (cs := [a4]) Tryd.underlying3 h4
    obtain ⟨da, e5, _, w5⟩ := DataW.trod_string (cs := [a5]) Tryd.underlying9 h5
    obtain ⟨fu, e6, _⟩ := DataW.trod_bool (cs := [a6]) Tryd.underlying4 h6
    obtain ⟨rA, rn, rc, e7⟩ : ∃ rA rn rc, a7 = Value.slice rA rn rc := by
      rcases open_slice (cs := [a7]) Tryd.underlying35 h7 with ⟨hq, _⟩ | ⟨a, len, cap, m', n', D, Pl, hq, _⟩
      · exact ⟨none, 0, 0, by simpa using hq⟩
      · exact ⟨some a, len, cap, by simpa using hq⟩
    obtain ⟨ke, e8, _, _⟩ := DataW.trod_int (cs := [a8]) Tryd.underlying31 h8
    obtain ⟨nk, e9, _, _⟩ := DataW.trod_int (cs := [a9]) Tryd.underlying31 h9
    obtain ⟨ot, e10, _, _⟩ := DataW.trod_int (cs := [a10]) Tryd.underlying31 h10
    obtain ⟨ty, e11, _, _⟩ := DataW.trod_int (cs := [a11]) Tryd.underlying3 h11
    obtain ⟨ig, e12, _⟩ := DataW.trod_bool (cs := [a12]) Tryd.underlying4 h12
    obtain ⟨ap, e13, _, _⟩ := DataW.trod_int (cs := [a13]) Tryd.underlying3 h13
    simp at e0 e1 e2 e3 e4 e5 e6 e8 e9 e10 e11 e12 e13
    exact ⟨⟨op, lu, ho, lb, bl, da, fu, rA, rn, rc, ke, nk, ot, ty, ig, ap⟩, by rw [e0, e1, e2, e3, e4, e5, e6, e7, e8, e9, e10, e11, e12, e13], w2⟩
/-- A command that came in by value. -/
theorem open_cm {H : Type} {enc : TypeId × Value → H} {W : World} {r : Reach} {b0 : Nat} {v : Value} {d : DataW H} {ps : List MemPlace} (hval : Value.okWide Tryd.prog W r b0 37 v) (hd : DataW.Trod enc Tryd.prog W 0 (fun _ => true) true 37 v d ps) :
    ∃ m : Cm, v = cmV m ∧ m.ho.size ≤ maxLen := by
  simp only [Value.okWide, Tryd.underlying37] at hval
  obtain ⟨cs, rfl, _, _⟩ := hval
  obtain ⟨fuel, hf⟩ := hd
  obtain ⟨m, hy, hs⟩ := open_cmc hf
  refine ⟨m, ?_, hs⟩
  have : cs.toList = (cmC m).toList := hy
  rw [← Array.toArray_toList (xs := cs), this]
/-- Commands that came in. -/
def Cms (w : World) (A : Option Addr) (l : List Cm) : Prop :=
  0 < l.length → ∃ b o, A = some ⟨b, o, none⟩ ∧ ∀ (j : Nat) (m : Cm), l[j]? = some m → m.ho.size ≤ maxLen ∧ ∀ (i : Nat) (u : Value), (cmC m)[i]? = some u → w.cell? ⟨b, o + j * 14 + i, none⟩ = some u
theorem open_cms {H : Type} {enc : TypeId × Value → H} {W : World} {A : Option Addr} {l c : Nat} {d : DataW H} {p : List MemPlace} (h : DataW.Trod enc Tryd.prog W 0 (fun _ => true) true 49 (.slice A l c) d p) :
    ∃ ss : List Cm, ss.length = l ∧ Cms W A ss := by
  obtain ⟨fuel, hf⟩ := h
  rcases open_slice Tryd.underlying49 hf with ⟨hcs, hx⟩ | ⟨a, len, cap, m, n, D, Pl, hcs, _, hl, hm, hmm, hx, hi⟩
  · simp [Value.cells] at hcs
    obtain ⟨rfl, rfl, rfl⟩ := hcs
    exact ⟨[], rfl, fun h => absurd h (Nat.not_lt_zero _)⟩
  · simp [Value.cells] at hcs
    obtain ⟨rfl, rfl, rfl⟩ := hcs
    simp only [Prod.mk.injEq] at hx
    obtain ⟨rfl, _⟩ := hx
    simp only [if_true] at hmm
    rw [Tryd.cells37] at hi
    obtain ⟨ss, hsl, hss⟩ := list_of (R := fun i (y : Cm) => y.ho.size ≤ maxLen ∧ ∀ (q : Nat) (u : Value), (cmC y)[q]? = some u → W.cell? ((a.add (i * 14)).add q) = some u) l fun i hil => by
      obtain ⟨cs', hc, ht⟩ := hi i (by omega)
      obtain ⟨y, hy, hw⟩ := open_cmc ht
      obtain ⟨_, hcl, hat⟩ := World.cells?_some hc
      refine ⟨y, hw, fun q u hu => ?_⟩
      have hq : q < (cmC y).size := (Array.getElem?_eq_some_iff.1 hu).1
      have hq14 : q < 14 := hq
      have h1 := hat q (by omega)
      rw [h1, ← hu]
      have : cs' = (cmC y).toList := hy
      subst this
      simp
    refine ⟨ss, hsl, fun hn => ?_⟩
    obtain ⟨b, off, spot⟩ := a
    have hspot : spot = none := by
      have := (hss 0 ss[0] (List.getElem?_eq_getElem hn)).2 0 _ rfl
      simpa [Addr.add] using World.cell?_spot this
    subst hspot
    refine ⟨b, off, rfl, fun i y hy => ?_⟩
    obtain ⟨h0, h1⟩ := hss i y hy
    refine ⟨h0, fun q u hu => ?_⟩
    have := h1 q u hu
    rw [add_add, add_plain] at this
    rw [Nat.add_assoc]
    exact this
end Go.Proofs.YtgekadfkokkapaaDoor
