/- Extents put one behind the other, merged: lists, rows, marks. -/
import Derived.Test.YtdopcliicjmjeaaExR
namespace Go.Proofs.Ytdopcliicjmjeaa
open Go.RowKit Go.Shelf
def exCells (l : List Ex) : List Value := l.flatMap fun x => [.int .i64 x.l, .int .i64 x.b, .int .i64 x.a]
theorem exCells_length (l : List Ex) : (exCells l).length = l.length * 3 := by
  unfold exCells
  induction l with
  | nil => rfl
  | cons h l ih => simp only [List.flatMap_cons, List.length_append, ih, List.length_cons, List.length_nil]; omega
theorem exCells_at {l : List Ex} {k : Nat} {h : Ex} (hk : l[k]? = some h) : (exCells l)[k * 3]? = some (.int .i64 h.l) ∧ (exCells l)[k * 3 + 1]? = some (.int .i64 h.b) ∧ (exCells l)[k * 3 + 2]? = some (.int .i64 h.a) := by
  induction l generalizing k with
  | nil => cases hk
  | cons x l ih =>
    show ([.int .i64 x.l, .int .i64 x.b, .int .i64 x.a] ++ exCells l)[k * 3]? = _ ∧ ([.int .i64 x.l, .int .i64 x.b, .int .i64 x.a] ++ exCells l)[k * 3 + 1]? = _ ∧ ([.int .i64 x.l, .int .i64 x.b, .int .i64 x.a] ++ exCells l)[k * 3 + 2]? = _
    cases k with
    | zero => simp at hk; subst hk; exact ⟨rfl, rfl, rfl⟩
    | succ k =>
      have := ih (k := k) (by simpa using hk)
      rw [List.getElem?_append_right (by simp; omega), List.getElem?_append_right (by simp; omega), List.getElem?_append_right (by simp; omega)]
      simp only [List.length_cons, List.length_nil]
      rw [show (k + 1) * 3 - (0 + 1 + 1 + 1) = k * 3 by omega, show (k + 1) * 3 + 1 - (0 + 1 + 1 + 1) = k * 3 + 1 by omega, show (k + 1) * 3 + 2 - (0 + 1 + 1 + 1) = k * 3 + 2 by omega]
      exact this
theorem exCells_snoc (l : List Ex) (x : Ex) : exCells (l ++ [x]) = exCells l ++ [.int .i64 x.l, .int .i64 x.b, .int .i64 x.a] := by simp [exCells]
theorem exCells_last (l : List Ex) (y : Ex) (u : Int) : (exCells (l ++ [y])).set (l.length * 3 + 1) (.int .i64 u) = exCells (l ++ [⟨y.l, u, y.a⟩]) := by
  rw [exCells_snoc, exCells_snoc, List.set_append_right _ _ (by rw [exCells_length]; omega), exCells_length, show l.length * 3 + 1 - l.length * 3 = 1 by omega]
  rfl
theorem own_form {w : World} {base : Nat} {e : TypeId} {size n : Nat} {v : Value} {xs : List Value} (h : w.ownsRow base e size v n xs) : ∃ A c, v = .slice A n c := by
  rcases h.2 with ⟨rfl, rfl⟩ | ⟨g, cap, cur, rfl, _⟩
  · exact ⟨_, _, rfl⟩
  · exact ⟨_, _, rfl⟩
theorem own_some {w : World} {base : Nat} {e : TypeId} {size n c : Nat} {A : Option Addr} {xs : List Value} (h : w.ownsRow base e size (.slice A n c) n xs) (hn : 0 < n) :
    ∃ g cur, A = some ⟨g, 0, none⟩ ∧ base ≤ g ∧ Blk w g e cur ∧ cur.toList.take (n * size) = xs := by
  rcases h.2 with ⟨_, h0⟩ | ⟨g, cap, cur, hv, hb, hg, _, _, _, ht⟩
  · omega
  · injection hv with hA _ _
    exact ⟨g, cur, hA, hb, hg, ht⟩
theorem own_put {w : World} {base : Nat} {e : TypeId} {size n c g : Nat} {xs : List Value} (h : w.ownsRow base e size (.slice (some ⟨g, 0, none⟩) n c) n xs) (i : Nat) (u : Value) :
    (w.setCell ⟨g, i, none⟩ u).ownsRow base e size (.slice (some ⟨g, 0, none⟩) n c) n (xs.set i u) := by
  refine ⟨by rw [List.length_set]; exact h.1, ?_⟩
  rcases h.2 with ⟨h0, _⟩ | ⟨g', cap, cur, hv, hb, hg, h1, h2, h3, ht⟩
  · cases h0
  · injection hv with hA _ hc
    injection hA with hA; injection hA with hA
    subst hA; subst hc
    have hblk : Blk w g e cur := hg
    refine .inr ⟨g, c, cur.setIfInBounds i u, rfl, hb, hblk.put i u, h1, h2, by rw [Array.size_setIfInBounds]; exact h3, ?_⟩
    rw [Array.toList_setIfInBounds, List.take_set, ht]
theorem Ex.Wf.of_small {x : Ex} {k : Int} (h : 0 ≤ x.l ∧ x.l ≤ 4096 ∧ 0 ≤ x.a ∧ x.a ≤ 8192 ∧ 0 ≤ x.b ∧ x.b ≤ k) (hk : k ≤ 9223372036854775807) : x.Wf := ⟨by omega, by omega, by omega, by omega, by omega, by omega⟩
/-- A slice of extents of its own. -/
theorem exts_of_own {w : World} {base n : Nat} {v : Value} {l : List Ex} (h : w.ownsRow base 32 3 v n (exCells l)) (hwf : ∀ x ∈ l, x.Wf) : ∃ A c, v = .slice A l.length c ∧ Exts w A l ∧ (0 < l.length → ∀ a, A = some a → base ≤ a.block) := by
  have hl : l.length = n := by have := h.1; rw [exCells_length] at this; omega
  obtain ⟨A, c, rfl⟩ := own_form h
  subst hl
  refine ⟨A, c, rfl, fun hn => ?_, fun hn a ha => ?_⟩
  · obtain ⟨g, cur, rfl, _, hg, ht⟩ := own_some h hn
    refine ⟨g, 0, rfl, fun j x hj => ?_⟩
    have hlt := (List.getElem?_eq_some_iff.1 hj).1
    obtain ⟨h1, h2, h3⟩ := exCells_at hj
    rw [← ht, List.getElem?_take, if_pos (by omega)] at h1 h2 h3
    rw [Nat.zero_add, hg.cell, hg.cell, hg.cell]
    exact ⟨hwf x (List.mem_of_getElem? hj), by simpa using h1, by simpa using h2, by simpa using h3⟩
  · obtain ⟨g, cur, rfl, hb, _, _⟩ := own_some h hn
    injection ha with ha
    subst ha
    exact hb
/-- One extent more behind a list. -/
def pushX (r : List Ex) (x : Ex) : List Ex :=
  match r.getLast? with
  | none => [x]
  | some y => if goesB y x then r.dropLast ++ [⟨y.l, y.b + x.b, y.a⟩] else r ++ [x]
def mrgX (r : List Ex) (q : List Ex) : List Ex := q.foldl pushX r
theorem mrg_snoc (r q : List Ex) (x : Ex) : mrgX r (q ++ [x]) = pushX (mrgX r q) x := by unfold mrgX; rw [List.foldl_append]; rfl
theorem mrg_app (r q p : List Ex) : mrgX r (q ++ p) = mrgX (mrgX r q) p := by unfold mrgX; rw [List.foldl_append]
theorem push_nil (x : Ex) : pushX [] x = [x] := rfl
theorem push_last (r : List Ex) (y x : Ex) : pushX (r ++ [y]) x = if goesB y x then r ++ [⟨y.l, y.b + x.b, y.a⟩] else r ++ [y] ++ [x] := by
  unfold pushX
  rw [List.getLast?_append]
  simp
/-- Numbers that no sum of this many can carry away. -/
def Small (k : Nat) (y : Ex) : Prop := 0 ≤ y.l ∧ y.l ≤ 4096 ∧ 0 ≤ y.a ∧ y.a ≤ 8192 ∧ 0 ≤ y.b ∧ y.b ≤ 4096 * (k : Int)
theorem split_last {r : List Ex} (h : r ≠ []) : ∃ r' y, r = r' ++ [y] := ⟨r.dropLast, r.getLast h, (List.dropLast_concat_getLast h).symm⟩
theorem push_small {k : Nat} {r : List Ex} {x : Ex} (hr : ∀ y ∈ r, Small k y) (hx : x.Fits) : (∀ y ∈ pushX r x, Small (k + 1) y) ∧ (pushX r x).length ≤ r.length + 1 := by
  have hup : ∀ y, Small k y → Small (k + 1) y := fun y h => by unfold Small at *; omega
  have hxs : Small (k + 1) x := by unfold Ex.Fits at hx; unfold Small; omega
  by_cases h : r = []
  · subst h
    rw [push_nil]
    exact ⟨fun y hy => by simp at hy; subst hy; exact hxs, by simp⟩
  · obtain ⟨r', y, rfl⟩ := split_last h
    rw [push_last]
    have hy := hr y (by simp)
    by_cases hg : goesB y x = true
    · rw [if_pos hg]
      refine ⟨fun z hz => ?_, by simp⟩
      simp only [List.mem_append, List.mem_singleton] at hz
      rcases hz with hz | rfl
      · exact hup z (hr z (by simp [hz]))
      · unfold Ex.Fits at hx; unfold Small at *; simp only; omega
    · rw [if_neg hg]
      refine ⟨fun z hz => ?_, by simp⟩
      simp only [List.mem_append, List.mem_singleton] at hz
      rcases hz with (hz | rfl) | rfl
      · exact hup z (hr z (by simp [hz]))
      · exact hup _ hy
      · exact hxs
theorem mrg_small : ∀ (q : List Ex) (k : Nat) (r : List Ex), (∀ y ∈ r, Small k y) → (∀ x ∈ q, x.Fits) → (∀ y ∈ mrgX r q, Small (k + q.length) y) ∧ (mrgX r q).length ≤ r.length + q.length
  | [], k, r, hr, _ => ⟨hr, Nat.le_refl _⟩
  | x :: q, k, r, hr, hq => by
    obtain ⟨h1, h2⟩ := push_small hr (hq x (by simp))
    obtain ⟨h3, h4⟩ := mrg_small q (k + 1) (pushX r x) h1 (fun z hz => hq z (by simp [hz]))
    refine ⟨fun y hy => ?_, ?_⟩
    · have := h3 y hy
      rwa [show k + (x :: q).length = k + 1 + q.length by simp; omega]
    · show (mrgX (pushX r x) q).length ≤ _
      simp only [List.length_cons]
      omega
/-- The blocks for the rounds' deferred calls of the loops that are over. -/
def mark (D : Nat) : Deferred := { target := .collected D, args := #[] }
def Marks (n₀ : Nat) (Ds : List Nat) (W : World) : Prop := Ds.Nodup ∧ ∀ D ∈ Ds, n₀ ≤ D ∧ W.heap[D]? = some (.deferred (some []))
theorem Marks.keeps {n₀ : Nat} {Ds : List Nat} {W V : World} (h : Marks n₀ Ds W) (hk : KeepsOthers W V) : Marks n₀ Ds V := ⟨h.1, fun D hD => ⟨(h.2 D hD).1, hk.same D _ (h.2 D hD).2 rfl⟩⟩
theorem Marks.lt {n₀ : Nat} {Ds : List Nat} {W : World} (h : Marks n₀ Ds W) {D : Nat} (hD : D ∈ Ds) : D < W.heap.size := (Array.getElem?_eq_some_iff.1 (h.2 D hD).2).1
theorem Marks.own {β : Type} {n₀ B : Nat} {Ds : List Nat} (hB : ∀ D ∈ Ds, D < B) : OwnFrom B (fun (_ : β) W => Marks n₀ Ds W) := by
  intro _ W W' row hs hg hr
  refine ⟨hs.1, fun D hD => ⟨(hs.2 D hD).1, (hg.block D (hs.lt hD) ?_).trans (hs.2 D hD).2⟩⟩
  intro e
  have := (hr D e.symm).1
  have := hB D hD
  omega
theorem Marks.put {n₀ : Nat} {D : Nat} {Ds : List Nat} {W : World} (h : Marks n₀ (D :: Ds) W) (o : Obj) : Marks n₀ Ds (W.putObj D o) := by
  obtain ⟨hnd, hm⟩ := h
  rw [List.nodup_cons] at hnd
  refine ⟨hnd.2, fun E hE => ⟨(hm E (by simp [hE])).1, ?_⟩⟩
  have hne : E ≠ D := fun e => hnd.1 (by rw [← e]; exact hE)
  rw [World.putObj_heap_other hne]
  exact (hm E (by simp [hE])).2
theorem leaves_marks {F : Fence} {n : Nat} {P : Program} {fn : Func} {tmps : Array Value} {R : Ending → World → Prop} {n₀ : Nat} (X : World → Prop) (hX : ∀ W D o, X W → n₀ ≤ D → W.heap[D]? = some (.deferred (some [])) → X (W.putObj D o)) :
    ∀ (Ds : List Nat) (W : World), Marks n₀ Ds W → X W → (∀ V, X V → LeavesInM F n P fn tmps R [] .returning V) → LeavesInM F n P fn tmps R (Ds.map mark) .returning W
  | [], W, _, hx, h => h W hx
  | D :: Ds, W, hm, hx, h => ⟨by simp, .inl ⟨D, _, rfl, run_takeDeferred (hm.2 D (by simp)).2, leaves_marks X hX Ds _ (hm.put _) (hX W D _ hx (hm.2 D (by simp)).1 (hm.2 D (by simp)).2) h⟩⟩
end Go.Proofs.Ytdopcliicjmjeaa
