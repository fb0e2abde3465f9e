/- store's statements: the steps that came in, opened. store: any arguments; what is of other units stays. StoreApart: what is written, cleared or kept of one unit changes nothing of another one. store: the same of Write and Clear, and what was made behind the store stays. StoreApart, walked. -/
import Derived.Test.YtglfjlbhjaemgaaGreatDoorPa42
import Derived.Test.YtglfjlbhjaemgaaGreatDoorPa43
import Derived.Deep.Slices
import Derived.Deep.Fields
import Derived.Test.YtglfjlbhjaemgaaGreatDoorPa37
import Derived.Test.YtglfjlbhjaemgaaGreatDoorPa14
namespace Go.Proofs.YtglfjlbhjaemgaaGreatDoor
open Go.ChangeShapes Go.WideShapes Go.ChangeAt Go.RowKit Go.Deep
theorem Tryz.cellsStep : Tryz.prog.cellsOf 65 = 8 := by kernel_rfl
theorem Tryz.cellsText : Tryz.prog.cellsOf 9 = 1 := by kernel_rfl
theorem Tryz.cellsNums : Tryz.prog.cellsOf 24 = 1 := by kernel_rfl
theorem Tryz.cellsRngs : Tryz.prog.cellsOf 52 = 1 := by kernel_rfl
theorem Tryz.cellsRng : Tryz.prog.cellsOf 51 = 2 := by kernel_rfl
theorem list_of {α : Type} {R : Nat → α → Prop} : ∀ k : Nat, (∀ i, i < k → ∃ s, R i s) → ∃ l : List α, l.length = k ∧ ∀ i s, l[i]? = some s → R i s
  | 0, _ => ⟨[], rfl, fun i s h => by simp at h⟩
  | k + 1, h => by
    obtain ⟨l, hl, hr⟩ := list_of k fun i hi => h i (by omega)
    obtain ⟨s, hs⟩ := h k (Nat.lt_succ_self k)
    refine ⟨l ++ [s], by simp [hl], fun i t ht => ?_⟩
    by_cases hi : i < l.length
    · rw [List.getElem?_append_left hi] at ht
      exact hr i t ht
    · rw [List.getElem?_append_right (by omega)] at ht
      have h0 : i - l.length = 0 := by
        have := (List.getElem?_eq_some_iff.1 ht).1
        simp at this
        omega
      rw [h0] at ht
      simp at ht
      subst ht
      rw [show i = k by omega]
      exact hs
theorem one_cell {cs : List Value} {j : Nat} (hj : j < cs.length) : ∃ v, cs[j]? = some v ∧ (cs.drop j).take 1 = [v] :=
  ⟨cs[j], List.getElem?_eq_getElem hj, by rw [List.drop_eq_getElem_cons hj]; rfl⟩
theorem wAll_mem {H : Type} {e : TypeId} : ∀ {l : List (DataW H)} {d : DataW H}, d ∈ l → ∀ n ∈ d.weights Tryz.prog e, n ∈ DataW.weightsAll Tryz.prog e l
  | d' :: r, d, hd, n, hn => by
    simp only [DataW.weightsAll, List.mem_append]
    rcases List.mem_cons.1 hd with rfl | hd
    · exact .inl hn
    · exact .inr (wAll_mem hd n hn)
def inI64 (k : Int) : Prop := -9223372036854775808 ≤ k ∧ k ≤ 9223372036854775807
theorem open_rng {H : Type} {enc : TypeId × Value → H} {W : World} {a : Addr} {cs : List Value} {n : Nat} {x : DataW H × List MemPlace} (hc : W.cells? 0 a 2 = some cs) (h : DataW.trod enc Tryz.prog W 0 (fun _ => true) true n 51 cs = some x) :
    ∃ r : Int × Int, (inI64 r.1 ∧ inI64 r.2) ∧ W.cell? (a.add 0) = some (.int .i64 r.1) ∧ W.cell? (a.add 1) = some (.int .i64 r.2) := by
  obtain ⟨xs, m, _, rfl, _, hxl, hf⟩ := DataW.trod_struct Tryz.underlying51 h
  obtain ⟨_, hcl, hat⟩ := World.cells?_some hc
  have key : ∀ (j : Nat) (t : TypeId), j < 2 → Tryz.prog.cellsOf t = 1 → DataW.trod enc Tryz.prog W 0 (fun _ => true) true m t (List.take (Tryz.prog.cellsOf t) (List.drop j cs)) = xs[j]? → ∃ v y, W.cell? (a.add j) = some v ∧ xs[j]? = some y ∧ DataW.trod enc Tryz.prog W 0 (fun _ => true) true m t [v] = some y := by
    intro j t hj ht h1
    obtain ⟨v, hv, ho⟩ := one_cell (cs := cs) (j := j) (by omega)
    rw [ht, ho] at h1
    have hy : xs[j]? = some (xs[j]'(by rw [hxl]; exact hj)) := List.getElem?_eq_getElem _
    exact ⟨v, _, (hat j hj).trans hv, hy, h1.trans hy⟩
  obtain ⟨v0, y0, c0, e0, t0⟩ := key 0 3 (by omega) Tryz.cells3 (hf 0 _ rfl)
  obtain ⟨v1, y1, c1, e1, t1⟩ := key 1 3 (by omega) Tryz.cells3 (hf 1 _ rfl)
  obtain ⟨k0, q0, _, w0⟩ := DataW.trod_int Tryz.underlying3 t0
  obtain ⟨k1, q1, _, w1⟩ := DataW.trod_int Tryz.underlying3 t1
  simp only [List.cons.injEq, and_true] at q0 q1
  subst q0 q1
  have r0 : inI64 k0 := by simpa [inI64, Lit.wf, IntKind.min, IntKind.max, IntKind.signed, IntKind.bits] using w0
  have r1 : inI64 k1 := by simpa [inI64, Lit.wf, IntKind.min, IntKind.max, IntKind.signed, IntKind.bits] using w1
  exact ⟨(k0, k1), ⟨r0, r1⟩, c0, c1⟩
theorem open_rngs {H : Type} {enc : TypeId × Value → H} {W : World} {A : Option Addr} {l c : Nat} {d : DataW H} {p : List MemPlace} (h : DataW.Trod enc Tryz.prog W 0 (fun _ => true) true 52 (.slice A l c) d p) :
    ∃ rs : List (Int × Int), rs.length = l ∧ RngI W A rs ∧ ∀ r ∈ rs, inI64 r.1 ∧ inI64 r.2 := by
  obtain ⟨fuel, hf⟩ := h
  rcases open_slice Tryz.underlying52 hf with ⟨hcs, hx⟩ | ⟨a, len, cap, m, n, D, Pl, hcs, _, hl, hm, hmm, hx, hi⟩
  · simp [Value.cells] at hcs
    obtain ⟨rfl, rfl, rfl⟩ := hcs
    exact ⟨[], rfl, fun h => absurd h (Nat.not_lt_zero _), fun s hs => by cases hs⟩
  · simp [Value.cells] at hcs
    obtain ⟨rfl, rfl, rfl⟩ := hcs
    simp only [Prod.mk.injEq] at hx
    obtain ⟨rfl, _⟩ := hx
    simp only [if_true] at hmm
    rw [Tryz.cellsRng] at hi
    obtain ⟨ss, hsl, hss⟩ := list_of (R := fun i (r : Int × Int) => (inI64 r.1 ∧ inI64 r.2) ∧ W.cell? ((a.add (i * 2)).add 0) = some (.int .i64 r.1) ∧ W.cell? ((a.add (i * 2)).add 1) = some (.int .i64 r.2)) l fun i hil => by
      obtain ⟨cs', hc, ht⟩ := hi i (by omega)
      exact open_rng hc ht
    refine ⟨ss, hsl, fun hn => ?_, fun s hs => ?_⟩
    · obtain ⟨b, off, spot⟩ := a
      have hspot : spot = none := by
        have := (hss 0 ss[0] (List.getElem?_eq_getElem hn)).2.1
        simpa [Addr.add] using World.cell?_spot this
      subst hspot
      refine ⟨b, off, rfl, fun i s hs => ?_⟩
      obtain ⟨_, k0, k1⟩ := hss i s hs
      rw [add_add, add_plain, ← Nat.add_assoc] at k0 k1
      exact ⟨k0, k1⟩
    · obtain ⟨i, hi', he⟩ := List.mem_iff_getElem.1 hs
      exact (hss i s (by rw [List.getElem?_eq_getElem hi', he])).1
structure Sq where
  kind : Int
  lun : Int
  lba : Int
  n : Int
  fill : UInt8
  text : ByteArray
  A : Option Addr
  ca : Nat
  rs : List (Int × Int)
  B : Option Addr
  cb : Nat
  kl : Nat
def Sq.cells (s : Sq) : Array Value := #[.int .i64 s.kind, .int .i64 s.lun, .int .i64 s.lba, .int .i64 s.n, .int .u8 (s.fill.toNat : Int), .string s.text, .slice s.A s.rs.length s.ca, .slice s.B s.kl s.cb]
structure Sq.Ok (w : World) (s : Sq) : Prop where
  lba : inI64 s.lba
  text : s.text.size ≤ 140737488355328
  rngs : RngI w s.A s.rs
  each : ∀ r ∈ s.rs, inI64 r.1 ∧ inI64 r.2
structure Sqs (w : World) (A : Option Addr) (ss : List Sq) : Prop where
  lie : 0 < ss.length → ∃ b o, A = some ⟨b, o, none⟩ ∧ ∀ i s, ss[i]? = some s → ∀ j v, s.cells[j]? = some v → w.cell? ⟨b, o + i * 8 + j, none⟩ = some v
  ok : ∀ s ∈ ss, s.Ok w
/-- One step, out of its eight cells. -/
theorem open_sq {H : Type} {enc : TypeId × Value → H} {W : World} {a : Addr} {cs : List Value} {n : Nat} {x : DataW H × List MemPlace} (hc : W.cells? 0 a 8 = some cs) (h : DataW.trod enc Tryz.prog W 0 (fun _ => true) true n 65 cs = some x)
    (hw : ∀ k ∈ x.1.weights Tryz.prog 65, k ≤ reachBytes) : ∃ s : Sq, s.Ok W ∧ ∀ j v, s.cells[j]? = some v → W.cell? (a.add j) = some v := by
  obtain ⟨xs, m, _, rfl, _, hxl, hf⟩ := DataW.trod_struct Tryz.underlying65 h
  obtain ⟨_, hcl, hat⟩ := World.cells?_some hc
  have key : ∀ (j : Nat) (t : TypeId), j < 8 → Tryz.prog.cellsOf t = 1 → DataW.trod enc Tryz.prog W 0 (fun _ => true) true m t (List.take (Tryz.prog.cellsOf t) (List.drop j cs)) = xs[j]? → ∃ v y, W.cell? (a.add j) = some v ∧ xs[j]? = some y ∧ DataW.trod enc Tryz.prog W 0 (fun _ => true) true m t [v] = some y := by
    intro j t hj ht h1
    obtain ⟨v, hv, ho⟩ := one_cell (cs := cs) (j := j) (by omega)
    rw [ht, ho] at h1
    have hy : xs[j]? = some (xs[j]'(by rw [hxl]; exact hj)) := List.getElem?_eq_getElem _
    exact ⟨v, _, (hat j hj).trans hv, hy, h1.trans hy⟩
  obtain ⟨v0, y0, c0, e0, t0⟩ := key 0 3 (by omega) Tryz.cells3 (hf 0 _ rfl)
  obtain ⟨v1, y1, c1, e1, t1⟩ := key 1 3 (by omega) Tryz.cells3 (hf 1 _ rfl)
  obtain ⟨v2, y2, c2, e2, t2⟩ := key 2 3 (by omega) Tryz.cells3 (hf 2 _ rfl)
  obtain ⟨v3, y3, c3, e3, t3⟩ := key 3 3 (by omega) Tryz.cells3 (hf 3 _ rfl)
  obtain ⟨v4, y4, c4, e4, t4⟩ := key 4 5 (by omega) Tryz.cells5 (hf 4 _ rfl)
  obtain ⟨v5, y5, c5, e5, t5⟩ := key 5 9 (by omega) Tryz.cellsText (hf 5 _ rfl)
  obtain ⟨v6, y6, c6, e6, t6⟩ := key 6 52 (by omega) Tryz.cellsRngs (hf 6 _ rfl)
  obtain ⟨v7, y7, c7, e7, t7⟩ := key 7 24 (by omega) Tryz.cellsNums (hf 7 _ rfl)
  obtain ⟨k0, q0, _, _⟩ := DataW.trod_int Tryz.underlying3 t0
  obtain ⟨k1, q1, _, _⟩ := DataW.trod_int Tryz.underlying3 t1
  obtain ⟨k2, q2, _, w2⟩ := DataW.trod_int Tryz.underlying3 t2
  obtain ⟨k3, q3, _, _⟩ := DataW.trod_int Tryz.underlying3 t3
  obtain ⟨k4, q4, _, w4⟩ := DataW.trod_int Tryz.underlying5 t4
  obtain ⟨s5, q5, y5e, _⟩ := DataW.trod_string Tryz.underlying9 t5
  simp only [List.cons.injEq, and_true] at q0 q1 q2 q3 q4 q5
  subst q0 q1 q2 q3 q4 q5
  obtain ⟨A, l, c, rfl⟩ : ∃ A l c, v6 = .slice A l c := by
    rcases open_slice Tryz.underlying52 t6 with ⟨hcs, _⟩ | ⟨a', len, cap, _, _, _, _, hcs, _⟩
    · simp at hcs; exact ⟨_, _, _, hcs⟩
    · simp at hcs; exact ⟨_, _, _, hcs⟩
  obtain ⟨B, lb, cb, rfl⟩ : ∃ A l c, v7 = .slice A l c := by
    rcases open_slice Tryz.underlying24 t7 with ⟨hcs, _⟩ | ⟨a', len, cap, _, _, _, _, hcs, _⟩
    · simp at hcs; exact ⟨_, _, _, hcs⟩
    · simp at hcs; exact ⟨_, _, _, hcs⟩
  obtain ⟨rs, rfl, hrs, hre⟩ := open_rngs (d := y6.1) (p := y6.2) ⟨m, t6⟩
  have w5 : s5.size ≤ reachBytes := by
    refine hw _ ?_
    simp only [DataW.weights, Tryz.underlying65]
    refine DataW.weights_mem_each (j := 5) (t := 9) (d := y5.1) rfl (by rw [List.getElem?_map, e5]; rfl) _ ?_
    rw [y5e]
    simp [DataW.weights]
  have w5' : s5.size ≤ 140737488355328 := by simp only [reachBytes] at w5; omega
  have r2 : inI64 k2 := by simpa [inI64, Lit.wf, IntKind.min, IntKind.max, IntKind.signed, IntKind.bits] using w2
  have r4 : 0 ≤ k4 ∧ k4 ≤ 255 := by simpa [Lit.wf, IntKind.min, IntKind.max, IntKind.signed, IntKind.bits] using w4
  have f4 : ((k4.toNat.toUInt8.toNat : Nat) : Int) = k4 := by
    show ((k4.toNat % 256 : Nat) : Int) = k4
    omega
  refine ⟨⟨k0, k1, k2, k3, k4.toNat.toUInt8, s5, A, c, rs, B, cb, lb⟩, ⟨r2, w5', hrs, hre⟩, fun j v hj => ?_⟩
  match j, hj with
  | 0, hj => cases hj; exact c0
  | 1, hj => cases hj; exact c1
  | 2, hj => cases hj; exact c2
  | 3, hj => cases hj; exact c3
  | 4, hj => simp only [Sq.cells, f4] at hj; cases hj; exact c4
  | 5, hj => cases hj; exact c5
  | 6, hj => cases hj; exact c6
  | 7, hj => cases hj; exact c7
  | j + 8, hj => simp [Sq.cells] at hj
theorem open_sqs {H : Type} {enc : TypeId × Value → H} {W : World} {A : Option Addr} {l c : Nat} {d : DataW H} {p : List MemPlace} (h : DataW.Trod enc Tryz.prog W 0 (fun _ => true) true 63 (.slice A l c) d p)
    (hw : ∀ k ∈ d.weights Tryz.prog 63, k ≤ reachBytes) : ∃ ss : List Sq, ss.length = l ∧ Sqs W A ss := by
  obtain ⟨fuel, hf⟩ := h
  rcases open_slice Tryz.underlying63 hf with ⟨hcs, hx⟩ | ⟨a, len, cap, m, n, D, Pl, hcs, _, hl, hm, hmm, hx, hi⟩
  · simp [Value.cells] at hcs
    obtain ⟨rfl, rfl, rfl⟩ := hcs
    exact ⟨[], rfl, fun h => absurd h (Nat.not_lt_zero _), fun s hs => by cases hs⟩
  · simp [Value.cells] at hcs
    obtain ⟨rfl, rfl, rfl⟩ := hcs
    simp only [Prod.mk.injEq] at hx
    obtain ⟨rfl, _⟩ := hx
    simp only [if_true] at hmm
    rw [Tryz.cellsStep] at hi
    obtain ⟨ss, hsl, hss⟩ := list_of (R := fun i (s : Sq) => s.Ok W ∧ ∀ j v, s.cells[j]? = some v → W.cell? ((a.add (i * 8)).add j) = some v) l fun i hil => by
      obtain ⟨cs', hc, ht⟩ := hi i (by omega)
      refine open_sq hc ht fun k hk => hw k ?_
      simp only [DataW.weights, Tryz.underlying63, List.mem_cons, List.mem_append]
      exact .inr (.inl (wAll_mem (List.mem_map.2 ⟨i, List.mem_range.2 hil, rfl⟩) k hk))
    refine ⟨ss, hsl, fun hn => ?_, fun s hs => ?_⟩
    · obtain ⟨b, off, spot⟩ := a
      have hspot : spot = none := by
        have := (hss 0 ss[0] (List.getElem?_eq_getElem hn)).2 0 _ rfl
        simpa [Addr.add] using World.cell?_spot this
      subst hspot
      refine ⟨b, off, rfl, fun i s hs j v hj => ?_⟩
      have := (hss i s hs).2 j v hj
      rw [add_add, add_plain, ← Nat.add_assoc] at this
      exact this
    · obtain ⟨i, hi', he⟩ := List.mem_iff_getElem.1 hs
      exact (hss i s (by rw [List.getElem?_eq_getElem hi', he])).1
open Go.RowKit
open Ext (Ex Exts exV ExtsF textX)
/-- Behind a call: the other units are as they were. -/
def Oth (w0 : World) (s p q n : Nat) (V : List Un) (m : Nat) (lun : Int) (e : Ending) (w' : World) : Prop :=
  ∃ r V' Vp', e = .returned (.int .i64 r) ∧ Us w0 w' s p q n V' Vp' m ∧ V'.length = V.length ∧ ∀ j : Nat, (j : Int) ≠ lun → V'[j]? = V[j]?
set_option maxRecDepth 100000 in
theorem Oth.same {w0 w w' : World} {S : Nat → Prop} {s p q n : Nat} {x : St} {j : Jn} {st : Sto} {V Vp : List Un} {m : Nat} {lun r : Int} (hb : Below w0.heap.size w0 w) (hs : ∀ k, S k → w0.heap.size ≤ k) (ho : SOut S w s p q n x j st w') (hi : Inv n x j st V Vp) (h1 : x.ops ≤ m * 17000001) (h2 : j.num ≤ m + 10) (h3 : st.ch ≤ m) : Oth w0 s p q n V (m + 1) lun (.returned (.int .i64 r)) w' :=
  ⟨r, V, Vp, rfl, Us.of hb hs ho hi (Nat.le_trans h1 (Nat.mul_le_mul_right 17000001 (Nat.le_succ m))) (Nat.le_trans h2 (Nat.add_le_add_right (Nat.le_succ m) 10)) (Nat.le_succ_of_le h3), rfl, fun _ _ => rfl⟩
theorem Oth.set {w0 w' : World} {s p q n : Nat} {V Vp : List Un} {m i : Nat} {u : Un} {r : Int} (h : Us w0 w' s p q n (V.set i u) Vp m) : Oth w0 s p q n V m (i : Int) (.returned (.int .i64 r)) w' :=
  ⟨r, V.set i u, Vp, rfl, h, List.length_set, fun j hj => List.getElem?_set_ne (by omega)⟩
theorem un_len {n : Nat} {x : St} {j : Jn} {st : Sto} {V Vp : List Un} (h : Inv n x j st V Vp) : V.length = st.l.length := by rw [h.view, List.length_map]
theorem record_oth {w0 w : World} {s p q n : Nat} {V Vp : List Un} {m : Nat} (h : Us w0 w s p q n V Vp m) (hm : m ≤ 500) (lun : Int) (d : ByteArray) :
    Calls Tryz.prog 26 #[.pointer (some ⟨s, 0, none⟩), .int .i64 lun, .string d] w (Oth w0 s p q n V (m + 1) lun) := by
  by_cases hl : lun < 0 ∨ (V.length : Int) ≤ lun
  · obtain ⟨S, x, j, st, hh, hs, hi, h1, h2, h3⟩ := h.has
    refine (record_lun w hh lun (by rw [← un_len hi]; exact hl) d).mono ?_
    rintro e w' ⟨rfl, ho⟩
    exact Oth.same h.below hs ho hi h1 h2 h3
  · obtain ⟨i, rfl⟩ : ∃ i : Nat, lun = (i : Int) := ⟨lun.toNat, by omega⟩
    have hiv : i < V.length := by omega
    have hu := List.getElem?_eq_getElem hiv
    generalize V[i] = u at hu
    by_cases hz : d.size ≤ 2048
    · refine (record_us h hm hu d hz).mono ?_
      rintro e w' ⟨rfl, Vp', _, hus⟩
      exact Oth.set hus
    · obtain ⟨S, x, j, st, hh, hs, hi, h1, h2, h3⟩ := h.has
      obtain ⟨t, ht, rfl⟩ := hi.un hu
      refine (record_long w hh i t ht d (by omega)).mono ?_
      rintro e w' ⟨rfl, ho⟩
      exact Oth.same h.below hs ho hi h1 h2 h3
theorem flush_oth {w0 w : World} {s p q n : Nat} {V Vp : List Un} {m : Nat} (h : Us w0 w s p q n V Vp m) (hm : m ≤ 500) :
    Calls Tryz.prog 19 #[.pointer (some ⟨s, 0, none⟩)] w (Oth w0 s p q n V (m + 1) (-1)) :=
  (flush_us h hm).mono fun _ _ ⟨he, hu⟩ => ⟨0, V, V, he, hu, rfl, fun _ _ => rfl⟩
open Go.RowKit
open Ext (Ex Exts exV ExtsF textX)
def keptS : ByteArray := ⟨#[107, 101, 112, 116]⟩
def apL : List (Int × ByteArray) := [(5, idB 5), (4, idB 6), (5, idB 7)]
def apU (k : Nat) : Un := ((newU (apL.getD k (5, idB 5))).wr 1 2 (fillB 77 2)).re keptS
theorem ap_rd (k : Nat) : (apU k).rd 0 4 = bytesS 512 0 ++ fillB 77 2 ++ bytesS 512 0 := by
  show ((newU (apL.getD k (5, idB 5))).wr 1 2 (fillB 77 2)).rd 0 (1 + (2 + 1)) = _
  rw [rd_parts, rd_parts, rd_far (.inl (by omega)), rd_new, show 0 + 1 = 1 from rfl, rd_wr (fillB_size ..), show 1 + 2 = 3 from rfl, rd_far (.inr (by omega)), rd_new, ByteArray.append_assoc]
theorem ap_used (k : Nat) : (apU k).used = 2 := by
  show ((newU (apL.getD k (5, idB 5))).wr 1 2 (fillB 77 2)).used = 2
  exact used_wr (by omega) (fun b _ => rfl)
theorem apU_n (k : Nat) (h : k < 3) : (4 : Int) ≤ (apU k).n := by
  match k, h with
  | 0, _ => exact (by decide : (4 : Int) ≤ 5)
  | 1, _ => exact (by decide : (4 : Int) ≤ 4)
  | 2, _ => exact (by decide : (4 : Int) ≤ 5)
/-- In the loop. -/
def ApAt (w0 : World) (s p q k len : Nat) (i : Value) (v : World) : Prop :=
  ∃ (m : Nat) (V Vp : List Un), i = .int .i64 m ∧ m ≤ len ∧ m ≤ 20 ∧ V[k]? = some (apU k) ∧ Us w0 v s p q 604 V Vp (m + 3)
theorem ApAt.next {w0 v' : World} {s p q k len m : Nat} {V : List Un} {lun : Int} {e : Ending} (h : Oth w0 s p q 604 V (m + 3 + 1) lun e v') (hk : V[k]? = some (apU k)) (hl : (k : Int) ≠ lun) (h1 : m + 1 ≤ len) (h2 : m + 1 ≤ 20) : (∃ r, e = .returned (.int .i64 r)) ∧ ApAt w0 s p q k len (.int .i64 ((m + 1 : Nat) : Int)) v' := by
  obtain ⟨r, V', Vp', he, hu, _, hj⟩ := h
  exact ⟨⟨r, he⟩, m + 1, V', Vp', rfl, h1, h2, (hj k hl).trans hk, by rw [show m + 1 + 3 = m + 3 + 1 by omega]; exact hu⟩
theorem Us.slow {w0 w : World} {s p q n : Nat} {V Vp : List Un} {m : Nat} (h : Us w0 w s p q n V Vp m) : Us w0 w s p q n V Vp (m + 1) := by
  obtain ⟨S, x, j, st, hh, hs, hi, h1, h2, h3⟩ := h.has
  exact ⟨⟨S, x, j, st, hh, hs, hi, Nat.le_trans h1 (Nat.mul_le_mul_right 17000001 (Nat.le_succ m)), Nat.le_trans h2 (Nat.add_le_add_right (Nat.le_succ m) 10), Nat.le_succ_of_le h3⟩, h.below⟩
theorem uns_three (w : World) : Uns (w.alloc (.cells #[.int .i64 5, .string (idB 5), .int .i64 4, .string (idB 6), .int .i64 5, .string (idB 7)] 27)) (some ⟨w.heap.size, 0, none⟩) apL := fun _ => by
  refine ⟨w.heap.size, 0, rfl, fun j u hu => ?_⟩
  have hb := Blk.new w 27 #[.int .i64 5, .string (idB 5), .int .i64 4, .string (idB 6), .int .i64 5, .string (idB 7)]
  match j, hu with
  | 0, hu =>
    obtain rfl : ((5 : Int), idB 5) = u := by simpa [apL] using hu
    exact ⟨(hb.cell 0).trans rfl, (hb.cell 1).trans rfl⟩
  | 1, hu =>
    obtain rfl : ((4 : Int), idB 6) = u := by simpa [apL] using hu
    exact ⟨(hb.cell 2).trans rfl, (hb.cell 3).trans rfl⟩
  | 2, hu =>
    obtain rfl : ((5 : Int), idB 7) = u := by simpa [apL] using hu
    exact ⟨(hb.cell 4).trans rfl, (hb.cell 5).trans rfl⟩
theorem apL_ok : ∀ u ∈ apL, 1 ≤ u.1 ∧ u.1 ≤ 4096 ∧ u.2.size = 16 := by
  intro u hu
  simp only [apL, List.mem_cons, List.not_mem_nil, or_false] at hu
  rcases hu with rfl | rfl | rfl
  · exact ⟨by decide, by decide, idB_size 5⟩
  · exact ⟨by decide, by decide, idB_size 6⟩
  · exact ⟨by decide, by decide, idB_size 7⟩
open Go.RowKit
open Ext (Ex Exts exV ExtsF textX)
def Stays (w1 w w' : World) : Prop := ∀ (a : Addr) (u : Value), w1.heap.size ≤ a.block → w.cell? a = some u → w'.cell? a = some u
theorem stays_of {w1 w w' : World} {S : Nat → Prop} {s p q n : Nat} {x : St} {j : Jn} {st : Sto} (hlt : ∀ k, S k → k < w1.heap.size) (ho : SOut S w s p q n x j st w') : Stays w1 w w' := fun a u ha hc => by
  obtain ⟨S', _, hon, _⟩ := ho
  exact hon.cell hc (fun hs => absurd (hlt _ hs) (by omega))
theorem write_stay {w0 w1 w : World} {s p q n : Nat} {V Vp : List Un} {m : Nat} (h : Us w0 w1 s p q n V Vp m) (hb : Below w1.heap.size w1 w) (hm : m ≤ 500) (lun lba : Int) (hlba : inI64 lba) (d : ByteArray) (k : Nat) (hd : d.size = k * 512) (hk : k ≤ 64) :
    Calls Tryz.prog 18 #[.pointer (some ⟨s, 0, none⟩), .int .i64 lun, .int .i64 lba, .string d] w fun e w' => Oth w0 s p q n V (m + 1) lun e w' ∧ Stays w1 w w' := by
  have hbw := h.below.trans (hb.mono h.below.size)
  by_cases hl : lun < 0 ∨ (V.length : Int) ≤ lun
  · obtain ⟨S, x, j, st, hh, hs, hi, h1, h2, h3⟩ := h.has
    refine (write_lun w (hh.below hb) lun (by rw [← un_len hi]; exact hl) lba d).mono ?_
    rintro e w' ⟨rfl, ho⟩
    exact ⟨Oth.same hbw hs ho hi h1 h2 h3, stays_of hh.lt ho⟩
  · obtain ⟨i, rfl⟩ : ∃ i : Nat, lun = (i : Int) := ⟨lun.toNat, by omega⟩
    have hiv : i < V.length := by omega
    have hu := List.getElem?_eq_getElem hiv
    generalize V[i] = u at hu
    obtain ⟨S, x, j, st, hh, hs, hi, h1, h2, h3⟩ := h.has
    obtain ⟨t, ht, rfl⟩ := hi.un hu
    have htk := hi.tells.oks t (List.mem_of_getElem? ht)
    cases hz : hasB t.n lba k with
    | true =>
      have hz' := hz
      unfold hasB at hz'
      obtain ⟨z1, z2, z3⟩ := of_decide_eq_true hz'
      obtain ⟨b, rfl⟩ := Int.eq_ofNat_of_zero_le z1
      refine (swrite_inv w (hh.below hb) hi ht (lba := b) (k := k) (by omega) hk d hd (by omega) (by omega) (by omega)).mono ?_
      rintro e w' ⟨rfl, x', j', st', Vp', ho, hi', hv, k1, k2, k3⟩
      exact ⟨Oth.set (Us.of hbw hs ho hi' (by omega) (by omega) (by omega)), stays_of hh.lt ho⟩
    | false =>
      have hdk : d.size / 512 = k := by omega
      refine (write_range w (hh.below hb) i t ht lba d (by omega) (by omega) (by omega) ⟨by have := htk.n1; omega, by have := htk.n2; omega⟩ hlba (by rw [hdk]; exact hz)).mono ?_
      rintro e w' ⟨rfl, ho⟩
      exact ⟨Oth.same hbw hs ho hi h1 h2 h3, stays_of hh.lt ho⟩
theorem clear_stay {w0 w1 w : World} {s p q n : Nat} {V Vp : List Un} {m : Nat} (h : Us w0 w1 s p q n V Vp m) (hb : Below w1.heap.size w1 w) (hm : m ≤ 500) (lun : Int) (A : Option Addr) (c0 : Nat) (l : List (Int × Int)) (hl : RngI w A l) (hA : 0 < l.length → ∀ a, A = some a → a.block < w0.heap.size ∨ w1.heap.size ≤ a.block) (hr : ∀ r ∈ l, inI64 r.1 ∧ inI64 r.2) :
    Calls Tryz.prog 27 #[.pointer (some ⟨s, 0, none⟩), .int .i64 lun, .slice A l.length c0] w fun e w' => Oth w0 s p q n V (m + 1) lun e w' ∧ Stays w1 w w' := by
  have hbw := h.below.trans (hb.mono h.below.size)
  obtain ⟨S, x, j, st, hh, hs, hi, h1, h2, h3⟩ := h.has
  have hoff : 0 < l.length → ∀ a, A = some a → ¬ S a.block := fun hn a ha hk => by
    have k1 := hs _ hk
    have k2 := hh.lt _ hk
    rcases hA hn a ha with h4 | h4 <;> omega
  by_cases hlu : lun < 0 ∨ (V.length : Int) ≤ lun
  · refine (clear_lun w (hh.below hb) lun (by rw [← un_len hi]; exact hlu) A l.length c0).mono ?_
    rintro e w' ⟨rfl, ho⟩
    exact ⟨Oth.same hbw hs ho hi h1 h2 h3, stays_of hh.lt ho⟩
  · obtain ⟨i, rfl⟩ : ∃ i : Nat, lun = (i : Int) := ⟨lun.toNat, by omega⟩
    have hiv : i < V.length := by omega
    have hu := List.getElem?_eq_getElem hiv
    generalize V[i] = u at hu
    obtain ⟨t, ht, rfl⟩ := hi.un hu
    by_cases hz : l.length ≤ 16
    · cases hal : allB t.n l with
      | true =>
        refine (sclear_inv w (hh.below hb) hi ht A c0 l hl hoff hz hal (fun r hrm => (hr r hrm).1) (by omega) (by omega) (by omega)).mono ?_
        rintro e w' ⟨rfl, x', j', st', Vp', ho, hi', hv, k1, k2, k3⟩
        exact ⟨Oth.set (Us.of hbw hs ho hi' (by omega) (by omega) (by omega)), stays_of hh.lt ho⟩
      | false =>
        refine (sclear_bad w (hh.below hb) (hi.tells.oks t (List.mem_of_getElem? ht)) ht A c0 l hl hoff hz hal (fun r hrm => (hr r hrm).1)).mono ?_
        rintro e w' ⟨rfl, ho⟩
        exact ⟨Oth.same hbw hs ho hi h1 h2 h3, stays_of hh.lt ho⟩
    · refine (clear_many w (hh.below hb) i t ht A l.length c0 (by omega)).mono ?_
      rintro e w' ⟨rfl, ho⟩
      exact ⟨Oth.same hbw hs ho hi h1 h2 h3, stays_of hh.lt ho⟩
open Go.RowKit
open Ext (Ex Exts exV ExtsF textX)
set_option maxRecDepth 100000 in
set_option maxHeartbeats 4000000 in
theorem storeApart_any (A : Option Addr) (c : Nat) (ss : List Sq) (lun : Int) (w : World) (ht : Tab w) (hss : Sqs w A ss) :
    Calls Tryz.prog 6 #[.slice A ss.length c, .int .i64 lun] w fun e w' => e = .returned (.bool true) ∧ Below w.heap.size w w' := by
  obtain ⟨k, hk⟩ : ∃ k : Nat, lun % 3 = (k : Int) := ⟨(lun % 3).toNat, by omega⟩
  have hk3 : k < 3 := by omega
  have HID5 : Hid (∀ v, Calls Tryz.prog 12 #[.int .u8 5] v fun e w' => e = .returned (.string (idB 5)) ∧ Below v.heap.size v w') := Lib.hid (fun v => id_any 5 v)
  have HID6 : Hid (∀ v, Calls Tryz.prog 12 #[.int .u8 6] v fun e w' => e = .returned (.string (idB 6)) ∧ Below v.heap.size v w') := Lib.hid (fun v => id_any 6 v)
  have HID7 : Hid (∀ v, Calls Tryz.prog 12 #[.int .u8 7] v fun e w' => e = .returned (.string (idB 7)) ∧ Below v.heap.size v w') := Lib.hid (fun v => id_any 7 v)
  have HND : Hid (∀ v A, Uns v A apL → Calls Tryz.prog 14 #[.slice A 3 3] v fun e w' => e = .returned (.int .i64 604) ∧ Below v.heap.size v w') := Lib.hid (fun v A hv => needs_any A 3 apL v hv (fun u hu => ⟨(apL_ok u hu).1, (apL_ok u hu).2.1⟩) (by decide))
  have HNW : Hid (∀ v, Calls Tryz.prog 13 #[.int .i64 604] v (NewOk v 604)) := Lib.hid (fun v => new_ok v 604 (by omega) (by omega))
  have HFM : Hid (∀ v F p A, Below w.heap.size w v → Dv v F p 604 (St.new 604) → (∀ k, F k → w.heap.size ≤ k) → Uns v A apL → Calls Tryz.prog 15 #[.pointer (some ⟨p, 0, none⟩), .slice A 3 3] v fun e w' => ∃ s q, e = .returned (.tuple #[.pointer (some ⟨s, 0, none⟩), .int .i64 0]) ∧ Us w w' s p q 604 (apL.map newU) (apL.map newU) 1) := Lib.hid (fun v F p A hb hv hF hu => format_us hb hv hF ht A 3 apL hu apL_ok (by decide) (by decide) (by rw [need_sum]; decide) (by decide))
  have HMK : Hid (∀ v, Calls Tryz.prog 16 #[.int .i64 lun, .int .i64 3] v fun e w' => e = .returned (.int .i64 (k : Int)) ∧ v = w') := Lib.hid (fun v => by rw [← hk]; exact mod_any lun 3 (by omega) (by omega) v)
  have HF2 : Hid (∀ v, Calls Tryz.prog 17 #[.int .i64 2, .int .u8 77] v fun e w' => e = .returned (.string (fillB 77 2)) ∧ Below v.heap.size v w') := Lib.hid (fun v => fill_any 2 77 v (by omega))
  have hget : (apL.map newU)[k]? = some (newU (apL.getD k (5, idB 5))) := by
    rw [List.getElem?_map, List.getD_eq_getElem?_getD, List.getElem?_eq_getElem (show k < apL.length from hk3)]
    rfl
  have HWR : Hid (∀ v s p q, Us w v s p q 604 (apL.map newU) (apL.map newU) 1 → Calls Tryz.prog 18 #[.pointer (some ⟨s, 0, none⟩), .int .i64 (k : Int), .int .i64 1, .string (fillB 77 2)] v fun e w' => e = .returned (.int .i64 0) ∧ ∃ Vp, Us w w' s p q 604 ((apL.map newU).set k ((newU (apL.getD k (5, idB 5))).wr 1 2 (fillB 77 2))) Vp 2) := Lib.hid (fun v s p q h => (write_us (lba := 1) (k := 2) h (by omega) hget (by have := apU_n k hk3; show (1 : Int) + 2 ≤ (apU k).n; omega) (by omega) _ (fillB_size 77 2)).mono fun e w' ⟨he, Vp, _, hu⟩ => ⟨he, Vp, hu⟩)
  have HRC : Hid (∀ v s p q Vp, Us w v s p q 604 ((apL.map newU).set k ((newU (apL.getD k (5, idB 5))).wr 1 2 (fillB 77 2))) Vp 2 → Calls Tryz.prog 26 #[.pointer (some ⟨s, 0, none⟩), .int .i64 (k : Int), .string ⟨#[107, 101, 112, 116]⟩] v fun e w' => e = .returned (.int .i64 0) ∧ ∃ V Vp, V[k]? = some (apU k) ∧ Us w w' s p q 604 V Vp 3) := Lib.hid (fun v s p q Vp h => (record_us h (by omega) (List.getElem?_set_self (show k < (apL.map newU).length from hk3)) keptS (by decide)).mono fun e w' ⟨he, Vp', _, hu⟩ => ⟨he, _, Vp', List.getElem?_set_self (by rw [List.length_set]; exact hk3), hu⟩)
  have HRD : Hid (∀ v s p q V Vp m, V[k]? = some (apU k) → Us w v s p q 604 V Vp m → Calls Tryz.prog 22 #[.pointer (some ⟨s, 0, none⟩), .int .i64 (k : Int), .int .i64 0, .int .i64 4] v fun e w' => e = .returned (.tuple #[.string (bytesS 512 0 ++ fillB 77 2 ++ bytesS 512 0), .int .i64 0]) ∧ Us w w' s p q 604 V Vp m) := Lib.hid (fun v s p q V Vp m hv h => by
    have := read_us (lba := 0) (k := 4) h hv (by have := apU_n k hk3; omega)
    rw [ap_rd] at this
    exact this)
  have HRE : Hid (∀ v s p q V Vp m, V[k]? = some (apU k) → Us w v s p q 604 V Vp m → Calls Tryz.prog 32 #[.pointer (some ⟨s, 0, none⟩), .int .i64 (k : Int)] v fun e w' => e = .returned (.tuple #[.string ⟨#[107, 101, 112, 116]⟩, .int .i64 0]) ∧ Us w w' s p q 604 V Vp m) := Lib.hid (fun v s p q V Vp m hv h => recorded_us h hv)
  have HUS : Hid (∀ v s p q V Vp m, V[k]? = some (apU k) → Us w v s p q 604 V Vp m → Calls Tryz.prog 23 #[.pointer (some ⟨s, 0, none⟩), .int .i64 (k : Int)] v fun e w' => e = .returned (.int .i64 2) ∧ Us w w' s p q 604 V Vp m) := Lib.hid (fun v s p q V Vp m hv h => by
    have := used_us h hv
    rw [ap_used] at this
    exact this)
  have HZ : Hid (∀ v, Calls Tryz.prog 34 #[.int .i64 512] v fun e w' => e = .returned (.string (bytesS 512 0)) ∧ Below v.heap.size v w') := Lib.hid (fun v => zeros_any 512 (by omega) v)
  have HWK := Lib.hid (fun v (hb : Below w.heap.size w v) => wakes_any v (ht.below hb))
  have HUO := Lib.hid (fun (v : World) => uns_three v)
  have HSS := Lib.hid hss
  have hca : (bytesS 512 0).size + (fillB 77 2).size ≤ 9223372036854775807 := by rw [bytesS_size, fillB_size]; decide
  have hcb : (bytesS 512 0 ++ fillB 77 2).size + (bytesS 512 0).size ≤ 9223372036854775807 := by rw [ByteArray.size_append, bytesS_size, fillB_size]; decide
  generalize bytesS 512 0 = bz at *
  generalize fillB 77 2 = bf at *
  generalize idB 5 = i5 at *
  generalize idB 6 = i6 at *
  generalize idB 7 = i7 at *
  have HK3 := Lib.hid hk3
  clear ht hss hget hk hk3
  go_enter Tryz.func6, Tryz.ntmps6
  go_wp2_with (fail)
  refine (HID5.out _).mono ?_; rintro e w1 ⟨rfl, hb1⟩
  have B1 := Lib.hid hb1
  clear hb1 HID5
  go_wp2_with (fail)
  refine (HID6.out _).mono ?_; rintro e w2 ⟨rfl, hb⟩
  have B2 := Lib.hid (B1.out.trans (hb.mono B1.out.size))
  clear hb HID6 B1
  go_wp2_with (fail)
  refine (HID7.out _).mono ?_; rintro e w3 ⟨rfl, hb⟩
  have B3 := Lib.hid (B2.out.trans (hb.mono B2.out.size))
  clear hb HID7 B2
  have HU := Lib.hid (HUO.out w3)
  have HAL := Lib.hid ((Below.refl w3.heap.size w3).alloc (Nat.le_refl _) (.cells #[.int .i64 5, .string i5, .int .i64 4, .string i6, .int .i64 5, .string i7] 27))
  clear HUO
  go_wp2_with (fail)
  generalize (w3.alloc (.cells #[.int .i64 5, .string i5, .int .i64 4, .string i6, .int .i64 5, .string i7] 27)) = wz at *
  have HB0 := Lib.hid (B3.out.trans (HAL.out.mono B3.out.size))
  refine (HND.out _ _ HU.out).mono ?_; rintro e w4 ⟨rfl, hb2⟩
  have HB2 := Lib.hid (HB0.out.trans (hb2.mono HB0.out.size))
  have HU2 := Lib.hid (HU.out.below hb2)
  clear hb2 HND HU
  go_wp2_with (fail)
  refine (HNW.out _).mono ?_; rintro e w5 ⟨p, F, rfl, hdv, hb3, hF⟩
  have HDV := Lib.hid hdv
  have HB3 := Lib.hid (HB2.out.trans (hb3.mono HB2.out.size))
  have HU3 := Lib.hid (HU2.out.below hb3)
  have HF := Lib.hid (fun k (hk : F k) => Nat.le_trans HB2.out.size (hF k hk))
  clear hdv hb3 hF HNW
  go_wp2_with (fail)
  refine (HFM.out _ F p _ HB3.out HDV.out HF.out HU3.out).mono ?_; rintro e w6 ⟨s, q, rfl, hus⟩
  have HS := Lib.hid hus
  clear hus HFM HDV HU3 HF HU2 HB0 HB2 HB3 B3 HAL
  go_wp2_with (fail)
  refine (HMK.out _).mono ?_; rintro e w7 ⟨rfl, rfl⟩
  clear HMK
  go_wp2_with (fail)
  refine (HF2.out _).mono ?_; rintro e w8 ⟨rfl, hb8⟩
  have HS8 := Lib.hid (HS.out.more hb8)
  clear hb8 HS
  go_wp2_with (fail)
  refine (HWR.out _ s p q HS8.out).mono ?_; rintro e w9 ⟨rfl, Vp9, hus9⟩
  have HS9 := Lib.hid hus9
  clear hus9 HS8 HWR
  go_wp2_with (fail)
  refine (HRC.out _ s p q Vp9 HS9.out).mono ?_; rintro e w10 ⟨rfl, V10, Vp10, hv10, hus10⟩
  have HS10 := Lib.hid hus10; have HV10 := Lib.hid hv10
  clear hus10 hv10 HS9 HRC
  go_wp2_with (fail)
  go_loopw [11] (fun i v => ApAt w s p q k ss.length i v) (fun i _ => ss.length - (intOf i).toNat)
  case atStart => exact ⟨0, V10, Vp10, rfl, Nat.zero_le _, Nat.zero_le _, HV10.out, HS10.out⟩
  case round =>
    obtain ⟨m, V, Vp, rfl, hm, hm20, hvk, hus⟩ := hrel
    have HVK := Lib.hid hvk; have HS := Lib.hid hus
    clear hvk hus HS10 HV10
    generalize wr = v at *
    by_cases hlt : m < ss.length ∧ m < 20
    · have hmi : (m : Int) < (ss.length : Int) := by omega
      have hm2 : (m : Int) < 20 := by omega
      have hwk : IntKind.i64.wrap ((m : Int) + 1) = ((m + 1 : Nat) : Int) := by rw [i64w _ (by omega)]; omega
      obtain ⟨b, o, rfl, hlie⟩ := HSS.out.lie (by omega)
      have hat := List.getElem?_eq_getElem hlt.1
      have hok := HSS.out.ok _ (List.mem_of_getElem? hat)
      generalize ss[m] = sq at hat hok
      have hcl := hlie m sq hat
      obtain ⟨kind, ln, lba, n, fill, text, RA, ca, rs, KB, cb, kl⟩ := sq
      have HOK := Lib.hid hok
      have up : ∀ j u, w.cell? ⟨b, o + m * 8 + j, none⟩ = some u → v.cell? ⟨b, o + m * 8 + j, none⟩ = some u := fun j u h => (HS.out.below.cell (World.block_lt_of_cell? _ _ h)).trans h
      have c0 : v.cell? ⟨b, o + m * 8, none⟩ = some (.int .i64 kind) := up 0 _ (hcl 0 _ rfl)
      have c1 : v.cell? ⟨b, o + m * 8 + 1, none⟩ = some (.int .i64 ln) := up 1 _ (hcl 1 _ rfl)
      have c2 : v.cell? ⟨b, o + m * 8 + 2, none⟩ = some (.int .i64 lba) := up 2 _ (hcl 2 _ rfl)
      have c3 : v.cell? ⟨b, o + m * 8 + 3, none⟩ = some (.int .i64 n) := up 3 _ (hcl 3 _ rfl)
      have c4 : v.cell? ⟨b, o + m * 8 + 4, none⟩ = some (.int .u8 (fill.toNat : Int)) := up 4 _ (hcl 4 _ rfl)
      have c5 : v.cell? ⟨b, o + m * 8 + 5, none⟩ = some (.string text) := up 5 _ (hcl 5 _ rfl)
      have c6 : v.cell? ⟨b, o + m * 8 + 6, none⟩ = some (.slice RA rs.length ca) := up 6 _ (hcl 6 _ rfl)
      have c7 : v.cell? ⟨b, o + m * 8 + 7, none⟩ = some (.slice KB kl cb) := up 7 _ (hcl 7 _ rfl)
      obtain ⟨hnb, hb1⟩ := one_alloc v #[.int .i64 kind, .int .i64 ln, .int .i64 lba, .int .i64 n, .int .u8 (fill.toNat : Int), .string text, .slice RA rs.length ca, .slice KB kl cb] 65 _ rfl
      have HNB := Lib.hid hnb; have HB1 := Lib.hid hb1
      have HS1 := Lib.hid (HS.out.more hb1)
      clear hlie hat hok hcl up hnb hb1
      go_upto_region 13 with (fail)
      generalize (v.alloc (.cells #[.int .i64 kind, .int .i64 ln, .int .i64 lba, .int .i64 n, .int .u8 (fill.toNat : Int), .string text, .slice RA rs.length ca, .slice KB kl cb] 65)) = v1 at *
      clear c0 c1 c2 c3 c4 c5 c6 c7
      obtain ⟨x, hx⟩ : ∃ x, v.heap.size = x := ⟨_, rfl⟩
      rw [hx] at HNB ⊢
      have e0 : v1.cell? ⟨x, 0, none⟩ = some (.int .i64 kind) := (HNB.out.cell 0).trans rfl
      have e1 : v1.cell? ⟨x, 1, none⟩ = some (.int .i64 ln) := (HNB.out.cell 1).trans rfl
      have e2 : v1.cell? ⟨x, 2, none⟩ = some (.int .i64 lba) := (HNB.out.cell 2).trans rfl
      have e3 : v1.cell? ⟨x, 3, none⟩ = some (.int .i64 n) := (HNB.out.cell 3).trans rfl
      have e4 : v1.cell? ⟨x, 4, none⟩ = some (.int .u8 (fill.toNat : Int)) := (HNB.out.cell 4).trans rfl
      have e5 : v1.cell? ⟨x, 5, none⟩ = some (.string text) := (HNB.out.cell 5).trans rfl
      have e6 : v1.cell? ⟨x, 6, none⟩ = some (.slice RA rs.length ca) := (HNB.out.cell 6).trans rfl
      have HX := Lib.hid hx
      clear hx
      by_cases hA : ln = (k : Int)
      · subst hA
        go_wp2_with (fail)
        exact ⟨⟨m + 1, V, Vp, rfl, hlt.1, hlt.2, HVK.out, by rw [show m + 1 + 3 = m + 3 + 1 by omega]; exact HS1.out.slow⟩, by simp only [intOf]; omega⟩
      · by_cases hB : (3000 : Int) < (text.size : Int)
        · go_wp2_with (fail)
          exact ⟨⟨m + 1, V, Vp, rfl, hlt.1, hlt.2, HVK.out, by rw [show m + 1 + 3 = m + 3 + 1 by omega]; exact HS1.out.slow⟩, by simp only [intOf]; omega⟩
        · by_cases hC : (100 : Int) < (rs.length : Int)
          · go_wp2_with (fail)
            exact ⟨⟨m + 1, V, Vp, rfl, hlt.1, hlt.2, HVK.out, by rw [show m + 1 + 3 = m + 3 + 1 by omega]; exact HS1.out.slow⟩, by simp only [intOf]; omega⟩
          · by_cases h0 : kind = 0
            · subst h0
              obtain ⟨a, ha⟩ : ∃ a : Nat, n % 5 = (a : Int) := ⟨(n % 5).toNat, by omega⟩
              have ha5 : a < 5 := by omega
              have HMD : Hid (∀ v, Calls Tryz.prog 16 #[.int .i64 n, .int .i64 5] v fun e w' => e = .returned (.int .i64 (a : Int)) ∧ v = w') := Lib.hid (fun v => by rw [← ha]; exact mod_any n 5 (by omega) (by omega) v)
              have HFX := Lib.hid (fun v => fill_any a fill v (by omega))
              have HWX := Lib.hid (fun u (hb : Below v.heap.size v u) => write_stay HS.out hb (by omega) ln lba HOK.out.lba (fillB fill a) a (fillB_size fill a) (by omega))
              have HS2 := Lib.hid (HS1.out.more (Below.refl v1.heap.size v1).drew)
              have HNA := Lib.hid (show (k : Int) ≠ ln from fun h => hA h.symm)
              have HBD := Lib.hid (HB1.out.trans ((Below.refl v1.heap.size v1).drew.mono HB1.out.size))
              generalize fillB fill a = fz at *
              clear ha ha5
              go_upto_region 16 with (fail)
              clear e0 e5 e6 HNB HOK HB1 HS HRD HRE HUS HZ HWK HF2 HSS
              go_region_held3 (fun u => u.cell? ⟨x, 1, none⟩ = some (.int .i64 ln) ∧ u.cell? ⟨x, 2, none⟩ = some (.int .i64 lba) ∧ u.cell? ⟨x, 3, none⟩ = some (.int .i64 n) ∧ u.cell? ⟨x, 4, none⟩ = some (.int .u8 (fill.toNat : Int))) (first | exact ⟨e1, e2, e3, e4⟩ | exact ⟨f1, f2, f3, f4⟩ | exact ⟨g1, g2, g3, g4⟩) (first
                | (go_at_call 16; refine (HMD.out _).mono ?_; rintro e w2 ⟨rfl, rfl⟩)
                | (go_at_call 17; refine (HFX.out _).mono ?_; rintro e w3 ⟨rfl, hb3⟩
                   have f1 := (hb3.cell (p := ⟨x, 1, none⟩) (World.block_lt_of_cell? _ _ e1)).trans e1
                   have f2 := (hb3.cell (p := ⟨x, 2, none⟩) (World.block_lt_of_cell? _ _ e2)).trans e2
                   have f3 := (hb3.cell (p := ⟨x, 3, none⟩) (World.block_lt_of_cell? _ _ e3)).trans e3
                   have f4 := (hb3.cell (p := ⟨x, 4, none⟩) (World.block_lt_of_cell? _ _ e4)).trans e4
                   have HB3 := Lib.hid (HBD.out.trans (hb3.mono HBD.out.size))
                   clear hb3)
                | (go_at_call 18; refine (HWX.out _ HB3.out).mono ?_; rintro e w4 ⟨ho4, hst4⟩
                   have g1 := hst4 ⟨x, 1, none⟩ _ (Nat.le_of_eq HX.out) f1
                   have g2 := hst4 ⟨x, 2, none⟩ _ (Nat.le_of_eq HX.out) f2
                   have g3 := hst4 ⟨x, 3, none⟩ _ (Nat.le_of_eq HX.out) f3
                   have g4 := hst4 ⟨x, 4, none⟩ _ (Nat.le_of_eq HX.out) f4
                   obtain ⟨⟨r, rfl⟩, hap⟩ := ApAt.next (len := ss.length) ho4 HVK.out HNA.out hlt.1 hlt.2
                   have HAP := Lib.hid hap
                   clear hap ho4)
                | fail)
              all_goals (
                go_wp2_with (fail)
                exact ⟨HAP.out, by simp only [intOf]; omega⟩)
            · by_cases h1 : kind = 1
              · subst h1
                have HS2 := Lib.hid (HS1.out.more (Below.refl v1.heap.size v1).drew)
                have HRW := Lib.hid (HOK.out.rngs.below HS2.out.below)
                have HCP := Lib.hid (copy_rngs v1.drew RA ca rs HRW.out (by omega))
                have HBD := Lib.hid (HB1.out.trans ((Below.refl v1.heap.size v1).drew.mono HB1.out.size))
                have HWX := Lib.hid (fun u (hb : Below v.heap.size v u) (A' : Option Addr) (c' : Nat) (hl : RngI u A' rs) (hA : 0 < rs.length → ∀ a, A' = some a → v1.drew.heap.size ≤ a.block) => clear_stay HS.out hb (by omega) ln A' c' rs hl (fun hn a ha => .inr (Nat.le_trans HBD.out.size (hA hn a ha))) HOK.out.each)
                have HNA := Lib.hid (show (k : Int) ≠ ln from fun h => hA h.symm)
                go_upto_region 18 with (fail)
                clear e0 e2 e3 e4 e5 HNB HOK HB1 HS HRD HRE HUS HZ HWK HF2 HSS
                go_region_held3 (fun u => u.cell? ⟨x, 1, none⟩ = some (.int .i64 ln) ∧ u.cell? ⟨x, 6, none⟩ = some (.slice RA rs.length ca)) (first | exact ⟨e1, e6⟩ | exact ⟨f1, f6⟩ | exact ⟨g1, g6⟩) (first
                  | (go_at_call 33; refine HCP.out.mono ?_; rintro e w3 ⟨A3, c3, rfl, hr3, ho3, hb3⟩
                     have f1 := (hb3.cell (p := ⟨x, 1, none⟩) (World.block_lt_of_cell? _ _ e1)).trans e1
                     have f6 := (hb3.cell (p := ⟨x, 6, none⟩) (World.block_lt_of_cell? _ _ e6)).trans e6
                     have HW3 := Lib.hid (HWX.out w3 (HBD.out.trans (hb3.mono HBD.out.size)) A3 c3 hr3 ho3)
                     clear hb3 hr3 ho3)
                  | (go_at_call 27; refine HW3.out.mono ?_; rintro e w4 ⟨ho4, hst4⟩
                     have g1 := hst4 ⟨x, 1, none⟩ _ (Nat.le_of_eq HX.out) f1
                     have g6 := hst4 ⟨x, 6, none⟩ _ (Nat.le_of_eq HX.out) f6
                     obtain ⟨⟨r, rfl⟩, hap⟩ := ApAt.next (len := ss.length) ho4 HVK.out HNA.out hlt.1 hlt.2
                     have HAP := Lib.hid hap
                     clear hap ho4)
                  | fail)
                all_goals (
                  go_wp2_with (fail)
                  exact ⟨HAP.out, by simp only [intOf]; omega⟩)
              · by_cases h2 : kind = 2
                · subst h2
                  have HWX := Lib.hid (fun v (h : Us w v s p q 604 V Vp (m + 3)) => record_oth h (by omega) ln text)
                  go_wp2_with (fail)
                  refine (HWX.out _ HS1.out).mono ?_; rintro e w4 ho4
                  obtain ⟨⟨r, rfl⟩, hap⟩ := ApAt.next (len := ss.length) ho4 HVK.out (fun h => hA h.symm) hlt.1 hlt.2
                  have HAP := Lib.hid hap
                  clear hap ho4
                  go_wp2_with (fail)
                  exact ⟨HAP.out, by simp only [intOf]; omega⟩
                · by_cases h3 : kind = 3
                  · subst h3
                    have HWX := Lib.hid (fun v (h : Us w v s p q 604 V Vp (m + 3)) => flush_oth h (by omega))
                    go_wp2_with (fail)
                    refine (HWX.out _ HS1.out).mono ?_; rintro e w4 ho4
                    obtain ⟨⟨r, rfl⟩, hap⟩ := ApAt.next (len := ss.length) ho4 HVK.out (by omega) hlt.1 hlt.2
                    have HAP := Lib.hid hap
                    clear hap ho4
                    go_wp2_with (fail)
                    exact ⟨HAP.out, by simp only [intOf]; omega⟩
                  · go_wp2_with (fail)
                    exact ⟨⟨m + 1, V, Vp, rfl, hlt.1, hlt.2, HVK.out, by rw [show m + 1 + 3 = m + 3 + 1 by omega]; exact HS1.out.slow⟩, by simp only [intOf]; omega⟩
    · by_cases hl1 : m < ss.length
      · have hmi : (m : Int) < (ss.length : Int) := by omega
        have hm2 : ¬ (m : Int) < 20 := by omega
        go_wp2_with (fail)
        refine (HRD.out _ s p q V Vp _ HVK.out HS.out).mono ?_; rintro e w11 ⟨rfl, hu⟩
        have S11 := Lib.hid hu
        clear hu
        go_wp2_with (fail)
        refine (HRE.out _ s p q V Vp _ HVK.out S11.out).mono ?_; rintro e w12 ⟨rfl, hu⟩
        have S12 := Lib.hid hu
        clear hu S11
        go_wp2_with (fail)
        refine (HZ.out _).mono ?_; rintro e w13 ⟨rfl, hb⟩
        have S13 := Lib.hid (S12.out.more hb)
        clear hb S12
        go_wp2_with (fail)
        refine (HF2.out _).mono ?_; rintro e w14 ⟨rfl, hb⟩
        have S14 := Lib.hid (S13.out.more hb)
        clear hb S13
        go_wp2_with (fail)
        refine (HZ.out _).mono ?_; rintro e w15 ⟨rfl, hb⟩
        have S15 := Lib.hid (S14.out.more hb)
        clear hb S14
        go_wp2_with (fail)
        refine (HUS.out _ s p q V Vp _ HVK.out S15.out).mono ?_; rintro e w16 ⟨rfl, hu⟩
        have S16 := Lib.hid hu
        clear hu S15
        go_wp2_with (fail)
        refine (HWK.out _ S16.out.below).mono ?_; rintro e w17 ⟨rfl, hb⟩
        have S17 := Lib.hid (S16.out.below.trans (hb.mono S16.out.below.size))
        clear hb S16
        go_wp2_with (fail)
        go_ret
        exact ⟨rfl, S17.out⟩
      · have hmi : ¬ (m : Int) < (ss.length : Int) := by omega
        go_wp2_with (fail)
        refine (HRD.out _ s p q V Vp _ HVK.out HS.out).mono ?_; rintro e w11 ⟨rfl, hu⟩
        have S11 := Lib.hid hu
        clear hu
        go_wp2_with (fail)
        refine (HRE.out _ s p q V Vp _ HVK.out S11.out).mono ?_; rintro e w12 ⟨rfl, hu⟩
        have S12 := Lib.hid hu
        clear hu S11
        go_wp2_with (fail)
        refine (HZ.out _).mono ?_; rintro e w13 ⟨rfl, hb⟩
        have S13 := Lib.hid (S12.out.more hb)
        clear hb S12
        go_wp2_with (fail)
        refine (HF2.out _).mono ?_; rintro e w14 ⟨rfl, hb⟩
        have S14 := Lib.hid (S13.out.more hb)
        clear hb S13
        go_wp2_with (fail)
        refine (HZ.out _).mono ?_; rintro e w15 ⟨rfl, hb⟩
        have S15 := Lib.hid (S14.out.more hb)
        clear hb S14
        go_wp2_with (fail)
        refine (HUS.out _ s p q V Vp _ HVK.out S15.out).mono ?_; rintro e w16 ⟨rfl, hu⟩
        have S16 := Lib.hid hu
        clear hu S15
        go_wp2_with (fail)
        refine (HWK.out _ S16.out.below).mono ?_; rintro e w17 ⟨rfl, hb⟩
        have S17 := Lib.hid (S16.out.below.trans (hb.mono S16.out.below.size))
        clear hb S16
        go_wp2_with (fail)
        go_ret
        exact ⟨rfl, S17.out⟩
end Go.Proofs.YtglfjlbhjaemgaaGreatDoor
