/- A slice of bytes of the call's own, also one that a text was turned into; a text appended to it. -/
import Derived.Test.YtglfjlbhjaemgaaGreatDoorPl28
import Derived.Lib.AppendStr
import Derived.Lib.ConvBytes
import Derived.Laws.IdiomCopy
import Derived.Deep.MidRow
import Derived.Lib.LazyBuf
import Derived.Test.YtglfjlbhjaemgaaGreatDoorPl09
namespace Go.Proofs.YtglfjlbhjaemgaaGreatDoor.Ext
open Go.RowKit
def BytesAt (w : World) (b : Nat) (g : ByteArray) : Prop := ∀ j, j < g.size → w.cell? ⟨b, j, none⟩ = some (.int .u8 (byt g j))
theorem BytesAt.below {w w' : World} {b : Nat} {g : ByteArray} (h : BytesAt w b g) (hb : Below w.heap.size w w') (hlt : b < w.heap.size) : BytesAt w' b g := fun j hj => (hb.cell (p := ⟨b, j, none⟩) hlt).trans (h j hj)
theorem byt_app_right (s t : ByteArray) (i : Nat) : byt (s ++ t) (s.size + i) = byt t i := by
  have h : (s ++ t).data.toList = s.data.toList ++ t.data.toList := by simp
  unfold byt
  rw [h, List.getD_eq_getElem?_getD, List.getD_eq_getElem?_getD, List.getElem?_append_right (by simp)]
  simp
theorem byt_app_left (s t : ByteArray) (i : Nat) (hi : i < s.size) : byt (s ++ t) i = byt s i := by
  have h : (s ++ t).data.toList = s.data.toList ++ t.data.toList := by simp
  unfold byt
  rw [h, List.getD_eq_getElem?_getD, List.getD_eq_getElem?_getD, List.getElem?_append_left (by simpa using hi)]
theorem bytes_str {w : World} {b cap : Nat} {g : ByteArray} (h : BytesAt w b g) : Sem.run Tryz.prog (convert 100 9 (Value.slice (some ⟨b, 0, none⟩) g.size cap)) w = .ok (.string g) w := by
  have := run_convert_bytes_back (P := Tryz.prog) w 100 9 5 ⟨b, 0, none⟩ cap g.data.toList Tryz.underlying100 Tryz.underlying5 Tryz.underlying9 (fun j hj => by
    rw [Addr.add_lit, Nat.zero_add, h j (by simpa using hj)]
    unfold byt
    rw [List.getD, List.getElem?_eq_getElem hj]
    rfl)
  rw [list_size] at this
  rw [this]
/-- From block g's beginning on stand the bytes xs; there is room for cap; none is frozen. -/
structure OwnB (w : World) (B g cap : Nat) (xs : ByteArray) : Prop where
  lo : B ≤ g
  room : xs.size ≤ cap
  there : ∀ j, j < cap → (w.cell? ⟨g, j, none⟩).isSome = true
  free : ∀ j, j < cap → w.frozen? ⟨g, j, none⟩ = false
  at_ : BytesAt w g xs
  lt : g < w.heap.size
theorem OwnB.drew {w : World} {B g cap : Nat} {xs : ByteArray} (h : OwnB w B g cap xs) : OwnB w.drew B g cap xs := ⟨h.lo, h.room, h.there, h.free, h.at_, h.lt⟩
theorem OwnB.below {w w' : World} {B g cap : Nat} {xs : ByteArray} (h : OwnB w B g cap xs) (hb : Below w.heap.size w w') : OwnB w' B g cap xs :=
  ⟨h.lo, h.room, fun j hj => by rw [hb.cell (p := ⟨g, j, none⟩) h.lt]; exact h.there j hj, fun j hj => by rw [hb.frozen (p := ⟨g, j, none⟩) h.lt]; exact h.free j hj, h.at_.below hb h.lt, Nat.lt_of_lt_of_le h.lt hb.size⟩
theorem strCells_at (s : ByteArray) (j : Nat) (h : j < s.size) : (Lib.strCells s)[j]? = some (.int .u8 (byt s j)) := by
  unfold Lib.strCells byt
  rw [List.getElem?_map, List.getElem?_eq_getElem (by rw [list_size]; exact h), List.getD, List.getElem?_eq_getElem (by rw [list_size]; exact h)]
  rfl
end Go.Proofs.YtglfjlbhjaemgaaGreatDoor.Ext
