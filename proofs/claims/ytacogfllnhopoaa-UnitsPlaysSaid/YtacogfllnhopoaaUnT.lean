/- The document's Units in memory; where something stands. -/
import Derived.Test.YtacogfllnhopoaaUnS
namespace Go.Proofs.Ytacogfllnhopoaa
open Go.RowKit Go.Maps
/-- What waits for a host at a unit, and where its numbers lie. -/
structure Wt where
  lu : Int
  ho : ByteArray
  zs : List Int
  A : Option Addr
  c : Nat
def Wt.is (x : Wt) (l : Int) (h : ByteArray) : Prop := x.lu = l ∧ x.ho = h
instance (x : Wt) (l : Int) (h : ByteArray) : Decidable (x.is l h) := inferInstanceAs (Decidable (x.lu = l ∧ x.ho = h))
def wtC (x : Wt) : List Value := [.int .i64 x.lu, .string x.ho, .slice x.A x.zs.length x.c]
def wtCells : List Wt → List Value
  | [] => []
  | x :: l => wtC x ++ wtCells l
theorem wtCells_length : ∀ l : List Wt, (wtCells l).length = l.length * 3
  | [] => rfl
  | x :: l => by show (wtC x ++ wtCells l).length = (l.length + 1) * 3; rw [List.length_append, wtCells_length l]; simp [wtC]; omega
theorem wtCells_append : ∀ a b : List Wt, wtCells (a ++ b) = wtCells a ++ wtCells b
  | [], _ => rfl
  | x :: a, b => by show wtC x ++ wtCells (a ++ b) = _; rw [wtCells_append a b, ← List.append_assoc]; rfl
theorem wtCells_get : ∀ {l : List Wt} {j : Nat} {x : Wt}, l[j]? = some x → ∀ (i : Nat) (u : Value), (wtC x)[i]? = some u → (wtCells l)[j * 3 + i]? = some u
  | y :: l, 0, x, h, i, u, hu => by
    obtain rfl : y = x := by simpa using h
    have hi : i < 3 := (List.getElem?_eq_some_iff.1 hu).1
    rw [Nat.zero_mul, Nat.zero_add]
    show (wtC y ++ wtCells l)[i]? = some u
    rw [List.getElem?_append_left (by exact hi)]
    exact hu
  | y :: l, j + 1, x, h, i, u, hu => by
    have h1 := wtCells_get (l := l) (j := j) (x := x) (by simpa using h) i u hu
    show (wtC y ++ wtCells l)[(j + 1) * 3 + i]? = some u
    rw [List.getElem?_append_right (by simp [wtC]; omega)]
    rw [← h1]
    congr 1
    simp [wtC]
    omega
theorem wtCells_set : ∀ (l : List Wt) (k : Nat) (x : Wt) (y : Wt), l[k]? = some x → y.lu = x.lu → y.ho = x.ho → wtCells (l.set k y) = (wtCells l).set (k * 3 + 2) (.slice y.A y.zs.length y.c)
  | z :: l, 0, x, y, h, h1, h2 => by
    obtain rfl : z = x := by simpa using h
    show wtC y ++ wtCells l = (wtC z ++ wtCells l).set 2 _
    simp [wtC, h1, h2]
  | z :: l, k + 1, x, y, h, h1, h2 => by
    have := wtCells_set l k x y (by simpa using h) h1 h2
    show wtC z ++ wtCells (l.set k y) = (wtC z ++ wtCells l).set ((k + 1) * 3 + 2) _
    rw [this, List.set_append_right _ _ (by simp [wtC]; omega)]
    congr 2
    simp [wtC]
    omega
theorem wtCells_one {l : List Wt} : ∀ u ∈ wtCells l, u.oneCell' = true := by
  induction l with
  | nil => intro u hu; cases hu
  | cons r l ih =>
    intro u hu
    rcases List.mem_append.1 hu with hu | hu
    · simp [wtC] at hu
      rcases hu with rfl | rfl | rfl <;> rfl
    · exact ih u hu
/-- The numbers of an entry, in memory. -/
def WtOk (w : World) (G : Nat → Prop) (x : Wt) : Prop :=
  x.zs.length ≤ x.c ∧ (0 < x.zs.length → ∃ g o cur, x.A = some ⟨g, o, none⟩ ∧ G g ∧ Blk w g 3 cur ∧ ∀ i y, x.zs[i]? = some y → cur[o + i]? = some (.int .i64 y))
theorem WtOk.keep {w w' : World} {G G' : Nat → Prop} {x : Wt} (h : WtOk w G x) (hk : ∀ k t cs, G k → Blk w k 3 cs → t = w'.heap[k]? → Blk w' k 3 cs) (hg : ∀ k, G k → G' k) : WtOk w' G' x := by
  refine ⟨h.1, fun hn => ?_⟩
  obtain ⟨g, o, cur, h1, h2, h3, h4⟩ := h.2 hn
  exact ⟨g, o, cur, h1, hg g h2, hk g _ cur h2 h3 rfl, h4⟩
theorem WtOk.cell {w : World} {G : Nat → Prop} {x : Wt} (h : WtOk w G x) {i : Nat} {y : Int} (hy : x.zs[i]? = some y) : ∃ g o, x.A = some ⟨g, o, none⟩ ∧ w.cell? ⟨g, o + i, none⟩ = some (.int .i64 y) := by
  obtain ⟨g, o, cur, h1, h2, h3, h4⟩ := h.2 (by have := (List.getElem?_eq_some_iff.1 hy).1; omega)
  exact ⟨g, o, h1, (h3.cell _).trans (h4 i y hy)⟩
/-- The document's Units at block p. -/
def Rq (w : World) (G : Nat → Prop) (p : Nat) (l : List Wt) : Prop :=
  ∃ A c, Blk w p 28 #[.slice A l.length c] ∧ w.ownsRow 0 56 3 (.slice A l.length c) l.length (wtCells l) ∧ G p ∧ (∀ g, (Value.slice A l.length c).ownBlock = some g → G g) ∧ (∀ x ∈ l, WtOk w G x) ∧ ∀ k, G k → k < w.heap.size
theorem Rq.keep {w w' : World} {G S : Nat → Prop} {p : Nat} {l : List Wt} (h : Rq w G p l) (ho : Only S w w') (hd : ∀ k, G k → ¬ S k) : Rq w' G p l := by
  obtain ⟨A, c, h1, h2, h3, h4, h5, h6⟩ := h
  exact ⟨A, c, h1.only ho (hd _ h3), own_keep h2 fun g hg => ho.block g (h6 g (h4 g hg)) (hd g (h4 g hg)), h3, h4, fun x hx => (h5 x hx).keep (fun k _ cs hk hb _ => hb.only ho (hd k hk)) (fun _ h => h), fun k hk => Nat.lt_of_lt_of_le (h6 k hk) ho.size⟩
/-- What the list comes to. -/
def fq (l : List Wt) : PF := fun lu ho => match l.find? (fun x => decide (x.is lu ho)) with
  | some x => x.zs
  | none => []
/-- No place twice, in the order of hosts, each one good. -/
structure GoodL (l : List Wt) : Prop where
  once : l.Pairwise (fun x y => ¬ (x.lu = y.lu ∧ x.ho = y.ho))
  asc : l.Pairwise (fun x y => x.ho.data.toList ≤ y.ho.data.toList)
  fine : ∀ x ∈ l, 0 ≤ x.lu ∧ x.lu < 8 ∧ nameB x.ho = true ∧ x.zs.length ≤ 8
theorem fq_found {l : List Wt} (hg : l.Pairwise (fun x y => ¬ (x.lu = y.lu ∧ x.ho = y.ho))) {x : Wt} (hx : x ∈ l) : fq l x.lu x.ho = x.zs := by
  unfold fq
  induction l with
  | nil => cases hx
  | cons y l ih =>
    obtain ⟨h1, h2⟩ := List.pairwise_cons.1 hg
    rw [List.find?_cons]
    rcases List.mem_cons.1 hx with rfl | hx'
    · have : decide (x.is x.lu x.ho) = true := decide_eq_true ⟨rfl, rfl⟩
      rw [this]
    · have : decide (y.is x.lu x.ho) = false := decide_eq_false (fun h => h1 x hx' h)
      rw [this]
      exact ih h2 hx'
theorem fq_none {l : List Wt} {lu : Int} {ho : ByteArray} (h : ∀ x ∈ l, ¬ x.is lu ho) : fq l lu ho = [] := by
  unfold fq
  rw [List.find?_eq_none.2 (fun x hx => by simpa using h x hx)]
theorem fq_cases {l : List Wt} (hg : l.Pairwise (fun x y => ¬ (x.lu = y.lu ∧ x.ho = y.ho))) (lu : Int) (ho : ByteArray) : (∃ x ∈ l, x.is lu ho ∧ fq l lu ho = x.zs) ∨ ((∀ x ∈ l, ¬ x.is lu ho) ∧ fq l lu ho = []) := by
  by_cases h : ∃ x ∈ l, x.is lu ho
  · obtain ⟨x, hx, rfl, rfl⟩ := h
    exact .inl ⟨x, hx, ⟨rfl, rfl⟩, fq_found hg hx⟩
  · have h' : ∀ x ∈ l, ¬ x.is lu ho := fun x hx hi => h ⟨x, hx, hi⟩
    exact .inr ⟨h', fq_none h'⟩
theorem Rq.len {w : World} {G : Nat → Prop} {p : Nat} {l : List Wt} (h : Rq w G p l) : l.length ≤ 9223372036854775807 := by
  obtain ⟨A, c, h1, h2, h3, h4, h5, h6⟩ := h
  rcases h2.2 with ⟨_, h0⟩ | ⟨g, cap, cur, he, hb, hg, hnc, hm, hs, ht⟩
  · omega
  · exact Nat.le_trans hnc (Nat.le_trans hm maxLen_le)
theorem Rq.row {w : World} {G : Nat → Prop} {p : Nat} {l : List Wt} (h : Rq w G p l) : ∃ A c, w.cell? ⟨p, 0, none⟩ = some (.slice A l.length c) ∧ ∀ (k : Nat) (x : Wt), l[k]? = some x → ∃ g, A = some ⟨g, 0, none⟩ ∧ G g ∧ w.cell? ⟨g, k * 3, none⟩ = some (.int .i64 x.lu) ∧ w.cell? ⟨g, k * 3 + 1, none⟩ = some (.string x.ho) ∧ w.cell? ⟨g, k * 3 + 2, none⟩ = some (.slice x.A x.zs.length x.c) ∧ w.frozen? ⟨g, k * 3 + 2, none⟩ = false ∧ WtOk w G x := by
  obtain ⟨A, c, h1, h2, h3, h4, h5, h6⟩ := h
  refine ⟨A, c, h1.cell 0, fun k x hx => ?_⟩
  have hk : k < l.length := (List.getElem?_eq_some_iff.1 hx).1
  rcases h2.2 with ⟨_, h0⟩ | ⟨g, cap, cur, he, hb, hg, hnc, hm, hs, ht⟩
  · omega
  · cases he
    have hc : ∀ i u, (wtC x)[i]? = some u → w.cell? ⟨g, k * 3 + i, none⟩ = some u := fun i u hu => by
      have h7 := wtCells_get hx i u hu
      have hi : i < 3 := (List.getElem?_eq_some_iff.1 hu).1
      rw [Blk.cell (show Blk w g 56 cur from hg)]
      have := congrArg (fun z => z[k * 3 + i]?) ht
      simp only [List.getElem?_take] at this
      rw [if_pos (by omega)] at this
      rw [← Array.getElem?_toList, this, h7]
    exact ⟨g, rfl, h4 g rfl, hc 0 _ rfl, hc 1 _ rfl, hc 2 _ rfl, Blk.free (show Blk w g 56 cur from hg) _, h5 x (List.mem_of_getElem? hx)⟩
set_option maxHeartbeats 1000000 in
theorem find_any (w : World) {G : Nat → Prop} {p : Nat} {l : List Wt} (h : Rq w G p l) (lu : Int) (ho : ByteArray) :
    Calls Try.prog 27 #[.pointer (some ⟨p, 0, none⟩), .int .i64 lu, .string ho] w fun e w' => w = w' ∧
      ((∃ (k : Nat) (x : Wt), e = .returned (.int .i64 (k : Int)) ∧ l[k]? = some x ∧ x.is lu ho) ∨ (e = .returned (.int .i64 (-1)) ∧ ∀ x ∈ l, ¬ x.is lu ho)) := by
  obtain ⟨A, c, hp, hr⟩ := h.row
  have HR := Lib.hid hr; have HLN := Lib.hid h.len
  clear h hr
  go_enter Try.func27, Try.ntmps27
  go_wp2
  go_loopw [7] (fun i wr => ∃ k : Nat, k ≤ l.length ∧ i = .int .i64 (k : Int) ∧ Hid (wr = w) ∧ ∀ j x, j < k → l[j]? = some x → ¬ x.is lu ho) (fun i _ => l.length - (intOf i).toNat)
  case atStart => exact ⟨0, by omega, rfl, Lib.hid rfl, fun j x hj => by omega⟩
  case round =>
    obtain ⟨k, hk, rfl, hww, hno⟩ := hrel
    obtain rfl : wr = w := hww.out
    clear hww
    by_cases hlt : k < l.length
    · have hki : (k : Int) < (l.length : Int) := by omega
      obtain ⟨x, hx⟩ : ∃ x, l[k]? = some x := ⟨_, List.getElem?_eq_getElem hlt⟩
      obtain ⟨g, rfl, _, c0, c1, _, _, _⟩ := HR k x hx
      have hwr : IntKind.i64.wrap ((k : Int) + 1) = (k : Int) + 1 := IntWalk.i64_in _ (by have := HLN.out; omega)
      have HNO := Lib.hid hno; have HX := Lib.hid hx; have HK := Lib.hid hlt
      clear hno hx hlt hk
      by_cases h1 : x.lu = lu
      · have e1 : (x.lu == lu) = true := by simpa using h1
        by_cases h2 : x.ho = ho
        · have e2 : x.ho.toList = ho.toList := by rw [h2]
          have e3 : (x.ho.toList == ho.toList) = true := by simpa using e2
          have HI := Lib.hid (show x.is lu ho from ⟨h1, h2⟩)
          clear h1 h2
          go_wp2
          go_ret
          exact ⟨rfl, .inl ⟨k, x, rfl, HX, HI⟩⟩
        · have e2 : ¬ x.ho.toList = ho.toList := fun hh => h2 (bytes_ext hh)
          have e3 : (x.ho.toList == ho.toList) = false := by simpa using e2
          have HI := Lib.hid (show ¬ x.is lu ho from fun hh => h2 hh.2)
          clear h1 h2
          go_wp2
          go_roundw
          case rel => exact ⟨k + 1, HK, by go_num, Lib.hid (by first | rfl | trivial), fun j y hj hy => by
            rcases Nat.lt_succ_iff_lt_or_eq.1 hj with h | rfl
            · exact HNO j y h hy
            · rw [HX.out] at hy; cases hy; exact HI⟩
          case measure => simp [intOf]; have := HK.out; omega
      · have e1 : (x.lu == lu) = false := by simpa using h1
        have HI := Lib.hid (show ¬ x.is lu ho from fun hh => h1 hh.1)
        clear h1
        go_wp2
        go_roundw
        case rel => exact ⟨k + 1, HK, by go_num, Lib.hid (by first | rfl | trivial), fun j y hj hy => by
          rcases Nat.lt_succ_iff_lt_or_eq.1 hj with h | rfl
          · exact HNO j y h hy
          · rw [HX.out] at hy; cases hy; exact HI⟩
        case measure => simp [intOf]; have := HK.out; omega
    · obtain rfl : k = l.length := by omega
      have HNO := Lib.hid hno
      clear hno
      go_wp2
      go_ret
      exact ⟨rfl, .inr ⟨rfl, fun x hx => by
        obtain ⟨j, hj⟩ := List.getElem?_of_mem hx
        exact HNO j x (List.getElem?_eq_some_iff.1 hj).1 hj⟩⟩
end Go.Proofs.Ytacogfllnhopoaa
