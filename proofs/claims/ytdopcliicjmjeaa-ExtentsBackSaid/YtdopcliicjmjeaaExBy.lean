/- A slice of bytes of the call's own, also one that a text was turned into; a text appended to it. -/
import Derived.Test.YtdopcliicjmjeaaExTx
import Derived.Lib.AppendStr
import Derived.Lib.ConvBytes
import Derived.Laws.IdiomCopy
import Derived.Deep.MidRow
import Derived.Lib.LazyBuf
namespace Go.Proofs.Ytdopcliicjmjeaa
open Go.RowKit
def BytesAt (w : World) (b : Nat) (g : ByteArray) : Prop := ∀ j, j < g.size → w.cell? ⟨b, j, none⟩ = some (.int .u8 (byt g j))
theorem BytesAt.below {w w' : World} {b : Nat} {g : ByteArray} (h : BytesAt w b g) (hb : Below w.heap.size w w') (hlt : b < w.heap.size) : BytesAt w' b g := fun j hj => (hb.cell (p := ⟨b, j, none⟩) hlt).trans (h j hj)
theorem byt_app_right (s t : ByteArray) (i : Nat) : byt (s ++ t) (s.size + i) = byt t i := by
  have h : (s ++ t).data.toList = s.data.toList ++ t.data.toList := by simp
  unfold byt
  rw [h, List.getD_eq_getElem?_getD, List.getD_eq_getElem?_getD, List.getElem?_append_right (by simp)]
  simp
theorem byt_app_left (s t : ByteArray) (i : Nat) (hi : i < s.size) : byt (s ++ t) i = byt s i := by
  have h : (s ++ t).data.toList = s.data.toList ++ t.data.toList := by simp
  unfold byt
  rw [h, List.getD_eq_getElem?_getD, List.getD_eq_getElem?_getD, List.getElem?_append_left (by simpa using hi)]
theorem bytes_str {w : World} {b cap : Nat} {g : ByteArray} (h : BytesAt w b g) : Sem.run Try.prog (convert 62 9 (Value.slice (some ⟨b, 0, none⟩) g.size cap)) w = .ok (.string g) w := by
  have := run_convert_bytes_back (P := Try.prog) w 62 9 5 ⟨b, 0, none⟩ cap g.data.toList Try.underlying62 Try.underlying5 Try.underlying9 (fun j hj => by
    rw [Addr.add_lit, Nat.zero_add, h j (by simpa using hj)]
    unfold byt
    rw [List.getD, List.getElem?_eq_getElem hj]
    rfl)
  rw [list_size] at this
  rw [this]
theorem bytesWorld_below (w : World) (s : ByteArray) : Below w.heap.size w (Lib.bytesWorld w 5 s) :=
  ⟨rfl, rfl, rfl, by rw [Lib.bytesWorld_size]; omega, fun k hk => Lib.bytesWorld_at_old w 5 s k hk⟩
/-- From block g's beginning on stand the bytes xs; there is room for cap; none is frozen. -/
structure OwnB (w : World) (B g cap : Nat) (xs : ByteArray) : Prop where
  lo : B ≤ g
  room : xs.size ≤ cap
  there : ∀ j, j < cap → (w.cell? ⟨g, j, none⟩).isSome = true
  free : ∀ j, j < cap → w.frozen? ⟨g, j, none⟩ = false
  at_ : BytesAt w g xs
  lt : g < w.heap.size
theorem OwnB.drew {w : World} {B g cap : Nat} {xs : ByteArray} (h : OwnB w B g cap xs) : OwnB w.drew B g cap xs := ⟨h.lo, h.room, h.there, h.free, h.at_, h.lt⟩
theorem OwnB.below {w w' : World} {B g cap : Nat} {xs : ByteArray} (h : OwnB w B g cap xs) (hb : Below w.heap.size w w') : OwnB w' B g cap xs :=
  ⟨h.lo, h.room, fun j hj => by rw [hb.cell (p := ⟨g, j, none⟩) h.lt]; exact h.there j hj, fun j hj => by rw [hb.frozen (p := ⟨g, j, none⟩) h.lt]; exact h.free j hj, h.at_.below hb h.lt, Nat.lt_of_lt_of_le h.lt hb.size⟩
theorem own_conv (w : World) (s : ByteArray) (B : Nat) (hB : B ≤ w.heap.size) : OwnB (Lib.bytesWorld w 5 s) B w.heap.size (grownCap w s.size 0 5) s := by
  have hge := grownCap_ge w s.size 0 5
  have hz : (Lib.bytesCells w 5 s).size = grownCap w s.size 0 5 := by
    unfold Lib.bytesCells
    simp only [Array.size_append, Array.size_map, Array.size_replicate]
    have : s.data.size = s.size := rfl
    omega
  refine ⟨hB, hge, fun j hj => ?_, fun j hj => ?_, fun j hj => ?_, by rw [Lib.bytesWorld_size]; omega⟩
  · simp only [World.cell?, Lib.bytesWorld_at_new]
    rw [Array.getElem?_eq_getElem (by omega)]
    rfl
  · simp only [World.frozen?, Lib.bytesWorld_at_new]
    simp
    omega
  · rw [Lib.bytesWorld_cell w 5 s j hj]
    rfl
theorem strCells_at (s : ByteArray) (j : Nat) (h : j < s.size) : (Lib.strCells s)[j]? = some (.int .u8 (byt s j)) := by
  unfold Lib.strCells byt
  rw [List.getElem?_map, List.getElem?_eq_getElem (by rw [list_size]; exact h), List.getD, List.getElem?_eq_getElem (by rw [list_size]; exact h)]
  rfl
theorem append_str (w : World) (B g cap : Nat) (xs s : ByteArray) (ty : TypeId) (h : OwnB w B g cap xs) (hB : B ≤ w.heap.size) (hn : xs.size + s.size ≤ 100000000) :
    ∃ g' cap' w', (Builtin.append_ #[62, 9] ty #[.slice (some ⟨g, 0, none⟩) xs.size cap, .string s]).run Try.prog w = .ok (.slice (some ⟨g', 0, none⟩) (xs ++ s).size cap') w' ∧ OwnB w' B g' cap' (xs ++ s) ∧ Below B w w' := by
  obtain ⟨i0, hi0, hz0, hz1, hz2⟩ := info_parts Try.info5
  have hsl := Lib.strCells_length s
  have hsz : (xs ++ s).size = xs.size + s.size := ByteArray.size_append
  by_cases hr : xs.size + s.size ≤ cap
  · have hst := run_storeCells_cells (P := Try.prog) g xs.size (Lib.strCells s) 0 w (fun j hj => by rw [Nat.add_zero]; exact h.there _ (by omega)) (fun j hj => by rw [Nat.add_zero]; exact h.free _ (by omega)) (Lib.strCells_oneCell s)
    have hf := Lib.run_firstCells_string (P := Try.prog) w 1 s
    refine ⟨g, cap, w.setCells g xs.size (Lib.strCells s), ?_, ⟨h.lo, by omega, fun j hj => ?_, fun j hj => ?_, fun j hj => ?_, ?_⟩, ?_⟩
    · rw [Nat.add_zero] at hst
      rw [hsz]
      simp [Builtin.append_, run_underlying Try.underlying62, run_underlying Try.underlying9, sizeOf, typeInfo, hi0, hz1, Builtin.lenOf, hr, hf, Addr.add_lit, hst]
    · exact World.isSome_setCells g _ _ w _ (h.there j hj)
    · rw [World.frozen?_setCells]; exact h.free j hj
    · by_cases hj2 : j < xs.size
      · rw [World.cell?_setCells_out g _ _ w _ (fun _ _ => .inl hj2), h.at_ j hj2, byt_app_left xs s j hj2]
      · obtain ⟨d, rfl⟩ : ∃ d, j = xs.size + d := ⟨j - xs.size, by omega⟩
        have hd : d < (Lib.strCells s).length := by rw [hsl]; omega
        rw [World.cell?_setCells_in g _ _ w (fun j hj => h.there _ (by omega)) d hd, byt_app_right xs s d]
        have := strCells_at s d (by omega)
        rw [List.getElem?_eq_getElem hd] at this
        exact this
    · exact Nat.lt_of_lt_of_le h.lt (below_setCells (a := w) h.lo _ _ w (Below.refl B w)).size
    · exact below_setCells (a := w) h.lo _ _ w (Below.refl B w)
  · have hxl : (Lib.strCells xs).length = xs.size := Lib.strCells_length xs
    have holds : ∀ j u, (Lib.strCells xs)[j]? = some u → w.cell? ((⟨g, 0, none⟩ : Addr).add j) = some u := by
      intro j u hu
      have hj : j < xs.size := by have := (List.getElem?_eq_some_iff.1 hu).1; omega
      rw [strCells_at xs j hj] at hu
      rw [Addr.add_lit, Nat.zero_add, h.at_ j hj, hu]
    have hge := grownCap_ge w (xs.size + s.size) cap 5
    have hrun := Lib.run_append_grow_string (P := Try.prog) w 62 9 ty 5 i0 (.int .u8 0) Try.underlying62 Try.underlying9 hi0 hz0 ⟨g, 0, none⟩ xs.size cap (Lib.strCells xs) (by rw [hz1]; omega) holds s (by omega) (by omega) (by rw [hz2]; exact growslice_fits (by omega) (by omega))
    refine ⟨w.heap.size, _, _, by rw [hsz]; exact hrun, ?_, ?_⟩
    · have hzc : (Value.int IntKind.u8 0).cells.size = 1 := rfl
      have hcs : ((Lib.strCells xs).toArray ++ (Lib.strCells s).toArray ++ Builtin.zeroCells (Value.int .u8 0).cells (grownCap w (xs.size + s.size) cap 5 - (xs.size + s.size))).size = grownCap w (xs.size + s.size) cap 5 := by
        simp only [Array.size_append, List.size_toArray, size_zeroCells, hzc, hxl, hsl]
        omega
      have hb := Blk.new w.drew 5 ((Lib.strCells xs).toArray ++ (Lib.strCells s).toArray ++ Builtin.zeroCells (Value.int .u8 0).cells (grownCap w (xs.size + s.size) cap 5 - (xs.size + s.size)))
      have hat : ∀ j, j < xs.size + s.size → ((Lib.strCells xs).toArray ++ (Lib.strCells s).toArray ++ Builtin.zeroCells (Value.int .u8 0).cells (grownCap w (xs.size + s.size) cap 5 - (xs.size + s.size)))[j]? = some (.int .u8 (byt (xs ++ s) j)) := by
        intro j hj
        rw [Array.getElem?_append_left (by simp [hxl, hsl]; omega)]
        by_cases hj2 : j < xs.size
        · rw [Array.getElem?_append_left (by simp [hxl]; omega), byt_app_left xs s j hj2]
          simpa using strCells_at xs j hj2
        · obtain ⟨d, rfl⟩ : ∃ d, j = xs.size + d := ⟨j - xs.size, by omega⟩
          rw [Array.getElem?_append_right (by simp [hxl]), byt_app_right xs s d]
          have := strCells_at s d (by omega)
          simpa [hxl] using this
      generalize (Lib.strCells xs).toArray ++ (Lib.strCells s).toArray ++ Builtin.zeroCells (Value.int .u8 0).cells (grownCap w (xs.size + s.size) cap 5 - (xs.size + s.size)) = C at *
      refine ⟨hB, by omega, fun j hj => ?_, fun j hj => hb.free j, fun j hj => ?_, hb.lt⟩
      · have := hb.cell j
        rw [show w.drew.heap.size = w.heap.size from rfl] at this
        rw [this, Array.getElem?_eq_getElem (by omega)]
        rfl
      · have := hb.cell j
        rw [show w.drew.heap.size = w.heap.size from rfl] at this
        rw [this]
        exact hat j (by omega)
    · exact (Below.refl B w).drew.alloc hB _
theorem step_str {ops : Array Oper} {o : Oper} {a : Act} {w : World} {K : Act → World → Prop} {Q : Exit → Act → World → Prop} {E : Prop} (hgd : o.guard = none) (sl x : Operand)
    (ho : o.op = .call { callee := .builtin .append, args := #[sl, x], argTypes := #[62, 9] }) (B g cap : Nat) (xs s : ByteArray) (hs : a.eval sl = .slice (some ⟨g, 0, none⟩) xs.size cap) (hown : OwnB w B g cap xs)
    (hx : a.eval x = .string s) (hn : xs.size + s.size ≤ 100000000) (hB : B ≤ w.heap.size)
    (h : ∀ g' cap' w', OwnB w' B g' cap' (xs ++ s) → Below B w w' → K (a.put o.dst (.slice (some ⟨g', 0, none⟩) (xs ++ s).size cap')) w') :
    if Region.wanted o (yielded ops a.tmps) = true then Oper.wp Try.prog o a w K Q else E := by
  have hw : Region.wanted o (yielded ops a.tmps) = true := by simp [Region.wanted, hgd]
  rw [if_pos hw]
  obtain ⟨g', cap', w', hr, h2, h3⟩ := append_str w B g cap xs s o.type hown hB hn
  unfold Oper.wp execOp
  simp only [ho, resolve, invoke, builtin, Sem.run_bind, Sem.run_pure, Result.andThen_ok, List.map_toArray, List.map_cons, List.map_nil, hs, hx, hr]
  exact h g' cap' w' h2 h3
end Go.Proofs.Ytdopcliicjmjeaa
