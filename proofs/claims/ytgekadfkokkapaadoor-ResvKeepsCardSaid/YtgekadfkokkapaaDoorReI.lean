/- An own row of registrations, some taken out of it in place. -/
import Derived.Test.YtgekadfkokkapaaDoorReH
namespace Go.Proofs.YtgekadfkokkapaaDoor
open Go.RowKit
/-- Block g is a row of registrations with room for c: its first ones are l. -/
def RowR (w : World) (g c : Nat) (l : List Rg) : Prop :=
  ∃ junk : List Value, Blk w g 57 (rgCells l ++ junk).toArray ∧ l.length * 2 + junk.length = c * 2 ∧ c ≤ maxLen
theorem RowR.le {w : World} {g c : Nat} {l : List Rg} (h : RowR w g c l) : l.length ≤ c := by obtain ⟨j, _, h, _⟩ := h; omega
theorem RowR.lt {w : World} {g c : Nat} {l : List Rg} (h : RowR w g c l) : g < w.heap.size := by obtain ⟨j, h, _⟩ := h; exact h.lt
theorem RowR.keep {w w' : World} {g c : Nat} {l : List Rg} (h : RowR w g c l) (hk : w'.heap[g]? = w.heap[g]?) : RowR w' g c l := by
  obtain ⟨j, hb, hr⟩ := h
  exact ⟨j, hk.trans hb, hr⟩
theorem RowR.below {w w' : World} {g c : Nat} {l : List Rg} (h : RowR w g c l) (hb : Below w.heap.size w w') : RowR w' g c l := h.keep (hb.block g h.lt)
theorem RowR.free {w : World} {g c : Nat} {l : List Rg} (h : RowR w g c l) (i : Nat) : w.frozen? ⟨g, i, none⟩ = false := by obtain ⟨j, hb, _⟩ := h; exact hb.free i
theorem RowR.cells {w : World} {g c : Nat} {l : List Rg} (h : RowR w g c l) {j : Nat} {x : Rg} (hj : l[j]? = some x) : w.cell? ⟨g, j * 2, none⟩ = some (.string x.h) ∧ w.cell? ⟨g, j * 2 + 1, none⟩ = some (.int .u64 x.k) := by
  obtain ⟨junk, hb, _⟩ := h
  have hlt := (List.getElem?_eq_some_iff.1 hj).1
  obtain ⟨g0, g1⟩ := rgCells_get hj
  rw [hb.cell, hb.cell]
  have hl := rgCells_length l
  constructor
  · simpa [List.getElem?_append_left (show j * 2 < (rgCells l).length by omega)] using g0
  · simpa [List.getElem?_append_left (show j * 2 + 1 < (rgCells l).length by omega)] using g1
theorem RowR.rgs {w : World} {g c : Nat} {l : List Rg} (h : RowR w g c l) (hs : ∀ x ∈ l, x.h.size ≤ maxLen) : Rgs w (some ⟨g, 0, none⟩) l := fun _ =>
  ⟨g, 0, rfl, fun j x hj => ⟨hs x (List.mem_of_getElem? hj), by rw [Nat.zero_add]; exact (h.cells hj).1, by rw [Nat.zero_add]; exact (h.cells hj).2⟩⟩
theorem RowR.own {w : World} {g c B : Nat} {l : List Rg} (h : RowR w g c l) (hB : B ≤ g) (hs : ∀ x ∈ l, x.h.size ≤ maxLen) : Own w B (some ⟨g, 0, none⟩) c l := by
  obtain ⟨junk, hb, hl, hc⟩ := h
  have e := rgCells_length l
  refine ⟨⟨e, .inr ⟨g, c, _, rfl, hB, hb, by omega, hc, by simp; omega, ?_⟩⟩, hs⟩
  rw [← e]
  simp
theorem RowR.of {w : World} {B c : Nat} {A : Option Addr} {l : List Rg} (h : Own w B A c l) (hn : 0 < l.length) : ∃ g, A = some ⟨g, 0, none⟩ ∧ B ≤ g ∧ RowR w g c l := by
  rcases h.1.2 with ⟨_, h0⟩ | ⟨g, cap, cur, hv, hb, hg, hnc, hm, hs, ht⟩
  · omega
  · injection hv with hA _ hcc
    subst hcc
    refine ⟨g, hA, hb, cur.toList.drop (l.length * 2), ?_, ?_, hm⟩
    · rw [← ht, List.take_append_drop]
      exact hg
    · have : cur.toList.length = c * 2 := by rw [Array.length_toList]; exact hs
      show l.length * 2 + (cur.toList.drop (l.length * 2)).length = c * 2
      rw [List.length_drop, this]
      omega
/-- Fewer of them. -/
theorem RowR.take {w : World} {g c : Nat} {l : List Rg} (h : RowR w g c l) (i : Nat) : RowR w g c (l.take i) := by
  obtain ⟨junk, hb, hl, hc⟩ := h
  refine ⟨rgCells (l.drop i) ++ junk, ?_, ?_, hc⟩
  · rw [← List.append_assoc, ← rgCells_append, List.take_append_drop]
    exact hb
  · rw [List.length_append, rgCells_length, List.length_take, List.length_drop]
    omega
theorem rgCells_set : ∀ (l : List Rg) (i : Nat) (x : Rg), i < l.length → rgCells (l.set i x) = ((rgCells l).set (i * 2) (.string x.h)).set (i * 2 + 1) (.int .u64 x.k)
  | y :: l, 0, x, _ => rfl
  | y :: l, i + 1, x, h => by
    have := rgCells_set l i x (by simpa using h)
    show _ :: _ :: rgCells (l.set i x) = _
    rw [this, show (i + 1) * 2 = i * 2 + 1 + 1 by omega]
    rfl
theorem RowR.put {w : World} {g c : Nat} {l : List Rg} (h : RowR w g c l) (i : Nat) (x : Rg) (hi : i < l.length) : RowR ((w.setCell ⟨g, i * 2, none⟩ (.string x.h)).setCell ⟨g, i * 2 + 1, none⟩ (.int .u64 x.k)) g c (l.set i x) := by
  obtain ⟨junk, hb, hl, hc⟩ := h
  refine ⟨junk, ?_, by rw [List.length_set]; exact hl, hc⟩
  have := (hb.put (i * 2) (.string x.h)).put (i * 2 + 1) (.int .u64 x.k)
  have e := rgCells_length l
  have hE : ((rgCells l ++ junk).toArray.setIfInBounds (i * 2) (Value.string x.h)).setIfInBounds (i * 2 + 1) (Value.int IntKind.u64 x.k) = (rgCells (l.set i x) ++ junk).toArray := by
    rw [rgCells_set l i x hi]
    apply Array.toList_inj.1
    simp only [Array.toList_setIfInBounds]
    rw [List.set_append_left _ _ (by omega), List.set_append_left _ _ (by rw [List.length_set]; omega)]
  rw [hE] at this
  exact this
theorem setRow_blk {w : World} {g : Nat} {T : TypeId} {cs cs' : Array Value} (h : Blk w g T cs) : Blk (w.setRow g cs') g T cs' := setRow_heap w g cs cs' T (0, 0) h
theorem setRow_only (w : World) (g : Nat) (cs : Array Value) : Only (fun k => k = g) w (w.setRow g cs) :=
  ⟨rfl, rfl, rfl, by simp [World.setRow], fun k _ hk => setRow_other w g k cs hk⟩
abbrev rgZ : Rg := ⟨⟨#[]⟩, 0⟩
theorem zeroCells_rg (n : Nat) : (Builtin.zeroCells #[.string ⟨#[]⟩, .int .u64 0] n).toList = rgCells (List.replicate n rgZ) := by
  apply List.ext_getElem?
  intro i
  have hl := rgCells_length (List.replicate n rgZ)
  rw [List.length_replicate] at hl
  by_cases hi : i < n * 2
  · have hr : (List.replicate n rgZ)[i / 2]? = some rgZ := by rw [List.getElem?_replicate, if_pos (by omega)]
    obtain ⟨g0, g1⟩ := rgCells_get hr
    have e : (Builtin.zeroCells #[.string ⟨#[]⟩, .int .u64 0] n).toList[i]? = some ((#[Value.string ⟨#[]⟩, .int .u64 0] : Array Value)[i % 2]!) := by
      simp [Builtin.zeroCells, hi]
    rw [e]
    rcases (show i % 2 = 0 ∨ i % 2 = 1 by omega) with h | h
    · rw [h, show i = i / 2 * 2 by omega, g0]; rfl
    · rw [h, show i = i / 2 * 2 + 1 by omega, g1]; rfl
  · rw [List.getElem?_eq_none (l := rgCells (List.replicate n rgZ)) (by rw [hl]; omega)]
    exact List.getElem?_eq_none (by simp [Builtin.zeroCells]; omega)
theorem rgCells_drop : ∀ (l : List Rg) (i : Nat), (rgCells l).drop (i * 2) = rgCells (l.drop i)
  | l, 0 => by simp
  | [], i + 1 => by simp [rgCells]
  | y :: l, i + 1 => by
    rw [show (i + 1) * 2 = i * 2 + 1 + 1 by omega]
    exact rgCells_drop l i
theorem rgCells_take : ∀ (l : List Rg) (i : Nat), (rgCells l).take (i * 2) = rgCells (l.take i)
  | l, 0 => by simp [rgCells]
  | [], i + 1 => by simp [rgCells]
  | y :: l, i + 1 => by
    rw [show (i + 1) * 2 = i * 2 + 1 + 1 by omega]
    show _ :: _ :: (rgCells l).take (i * 2) = _
    rw [rgCells_take l i]
    rfl
/-- Some of them in the middle laid anew. -/
theorem RowR.laid {w : World} {g c : Nat} {l : List Rg} (cur : Array Value) (hb : Blk w g 57 cur) (junk : List Value) (hcur : cur = (rgCells l ++ junk).toArray) (hl : l.length * 2 + junk.length = c * 2) (hc : c ≤ maxLen) (i : Nat) (news : List Rg) (hi : i + news.length ≤ l.length) :
    RowR (w.setRow g (cur.toList.take (i * 2) ++ rgCells news ++ cur.toList.drop (i * 2 + (rgCells news).length)).toArray) g c (l.take i ++ news ++ l.drop (i + news.length)) := by
  have e := rgCells_length l
  refine ⟨junk, ?_, by simp only [List.length_append, List.length_take, List.length_drop]; omega, hc⟩
  have h1 : cur.toList.take (i * 2) = rgCells (l.take i) := by
    rw [hcur]
    show (rgCells l ++ junk).take (i * 2) = _
    rw [List.take_append_of_le_length (by omega), rgCells_take]
  have h2 : cur.toList.drop (i * 2 + (rgCells news).length) = rgCells (l.drop (i + news.length)) ++ junk := by
    rw [hcur, rgCells_length]
    show (rgCells l ++ junk).drop (i * 2 + news.length * 2) = _
    rw [List.drop_append_of_le_length (by omega), ← rgCells_drop, show i * 2 + news.length * 2 = (i + news.length) * 2 by omega]
  rw [h1, h2, ← List.append_assoc, ← rgCells_append, ← rgCells_append]
  exact setRow_blk hb
theorem zero57 (w : World) : (zeroValue 57).run Tryd.prog w = .ok (.agg #[.string ⟨#[]⟩, .int .u64 0]) w := by kernel_rfl
theorem run_clear_rgs (w : World) (ty : TypeId) (g c cc : Nat) (l : List Rg) (h : RowR w g c l) (i n : Nat) (hn : 0 < n) (hi : i + n = l.length) :
    ∃ w', (Builtin.clear_ #[22] ty #[.slice (some ⟨g, i * 2, none⟩) n cc]).run Tryd.prog w = .ok (.tuple #[]) w' ∧ RowR w' g c (l.take i ++ List.replicate n rgZ) ∧ Only (fun k => k = g) w w' := by
  obtain ⟨junk, hb, hl, hc⟩ := h
  have e := rgCells_length l
  have hz := zeroCells_rg n
  have ez : (rgCells (List.replicate n rgZ)).length = n * 2 := by rw [rgCells_length, List.length_replicate]
  have hst := run_storeCells_at Tryd.prog g (i * 2) 57 (rgCells (List.replicate n rgZ)) 0 _ w hb (by rw [ez]; simp; omega) rgCells_one
  have hR := RowR.laid _ hb junk rfl hl hc i (List.replicate n rgZ) (by rw [List.length_replicate]; omega)
  rw [List.length_replicate, List.drop_eq_nil_of_le (show l.length ≤ i + n by omega), List.append_nil] at hR
  refine ⟨_, ?_, hR, setRow_only _ _ _⟩
  simp only [Nat.add_zero] at hst
  obtain ⟨m, rfl⟩ : ∃ m, n = m + 1 := ⟨n - 1, by omega⟩
  have hz2 : (Builtin.zeroCells (Value.agg #[.string ⟨#[]⟩, .int .u64 0]).cells (m + 1)).toList = rgCells (List.replicate (m + 1) rgZ) := hz
  simp only [Builtin.clear_]
  simp [run_underlying Tryd.underlying22]
  rw [hz2, hst]
  simp
end Go.Proofs.YtgekadfkokkapaaDoor
