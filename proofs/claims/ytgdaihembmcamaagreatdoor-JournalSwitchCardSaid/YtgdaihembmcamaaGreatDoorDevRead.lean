/- Read of the program's device. -/
import Derived.Test.YtgdaihembmcamaaGreatDoorDevWrite
namespace Go.Proofs.YtgdaihembmcamaaGreatDoor
open Go.RowKit
def flatB (l : List ByteArray) : List UInt8 := l.flatMap fun s => s.data.toList
def catS (l : List ByteArray) : ByteArray := ⟨(flatB l).toArray⟩
def part (l : List ByteArray) (i k : Nat) : List ByteArray := (l.drop i).take k
theorem flatB_length {l : List ByteArray} (h : ∀ s ∈ l, s.size = 512) : (flatB l).length = l.length * 512 := by
  unfold flatB
  induction l with
  | nil => rfl
  | cons a l ih =>
    rw [List.flatMap_cons, List.length_append, ih (fun s hs => h s (List.mem_cons_of_mem _ hs))]
    have := h a (List.mem_cons_self ..)
    have e : a.data.toList.length = a.size := by simp
    rw [e, this, List.length_cons]; omega
theorem flatB_snoc (l : List ByteArray) (s : ByteArray) : flatB (l ++ [s]) = flatB l ++ s.data.toList := by simp [flatB]
theorem part_zero (l : List ByteArray) (i : Nat) : part l i 0 = [] := by simp [part]
theorem part_snoc {l : List ByteArray} {i k : Nat} {s : ByteArray} (h : l[i + k]? = some s) : part l i (k + 1) = part l i k ++ [s] := by
  unfold part
  rw [List.take_add_one, List.getElem?_drop, h]; rfl
theorem part_mem {l : List ByteArray} {i k : Nat} {s : ByteArray} (h : s ∈ part l i k) : s ∈ l := List.mem_of_mem_drop (List.mem_of_mem_take h)
theorem part_length {l : List ByteArray} {i k : Nat} (h : i + k ≤ l.length) : (part l i k).length = k := by unfold part; rw [List.length_take, List.length_drop]; omega
theorem read_nil (w : World) (i k : Int) : Calls Tryz.prog 33 #[.pointer none, .int .i64 i, .int .i64 k] w fun e w' => e = .returned (.tuple #[.string ⟨#[]⟩, .int .i64 1]) ∧ w = w' := by
  go_enter Tryz.func33, Tryz.ntmps33
  go_wp2_with (go_at_call 41; refine (ready_nil _ _ _).mono ?_; rintro e w' ⟨rfl, rfl⟩)
  go_ret2
  exact ⟨rfl, rfl⟩
theorem read_why (w : World) {F : Nat → Prop} {p n : Nat} {x : St} (h : Dv w F p n x) (i k : Int) (hi : -9223372036854775808 ≤ i ∧ i ≤ 9223372036854775807) (hw : x.why n i k ≠ 0) :
    Calls Tryz.prog 33 #[.pointer (some ⟨p, 0, none⟩), .int .i64 i, .int .i64 k] w fun e w' => e = .returned (.tuple #[.string ⟨#[]⟩, .int .i64 (x.why n i k)]) ∧ w = w' := by
  have HR := Lib.hid (ready_any w h i k hi)
  generalize x.why n i k = q at hw HR ⊢
  clear h
  go_enter Tryz.func33, Tryz.ntmps33
  go_wp2_with (go_at_call 41; refine HR.out.mono ?_; rintro e w' ⟨rfl, rfl⟩)
  go_ret2
  exact ⟨rfl, rfl⟩
/-- Of a read's loop: j sectors are in the builder. -/
def RdAt (w : World) (l : List ByteArray) (i k : Nat) (c : Value) (wr : World) : Prop :=
  ∃ j : Nat, c = .int .i64 (j : Int) ∧ j ≤ k ∧ Lib.IsBuilder 105 5 w.heap.size w.heap.size (Lib.byteCells (flatB (part l i j))) wr ∧ Below w.heap.size w wr
set_option maxHeartbeats 800000 in
theorem read_ok (w : World) {F : Nat → Prop} {p n : Nat} {x : St} (h : Dv w F p n x) (i k : Nat) (hw : x.why n i k = 0) :
    Calls Tryz.prog 33 #[.pointer (some ⟨p, 0, none⟩), .int .i64 (i : Int), .int .i64 (k : Int)] w fun e w' => e = .returned (.tuple #[.string (catS (part x.seen i k)), .int .i64 0]) ∧ Below w.heap.size w w' := by
  have hg := h.good
  have hn := hg.most
  have hsl : x.seen.length = n := (seen_length x).trans hg.size
  have hss := seen_secs hg
  obtain ⟨_, _, hik, _⟩ := why_zero hw
  have HR := Lib.hid (ready_any w h i k (by omega))
  rw [hw] at HR
  obtain ⟨br, cr, bs, cs, hv, hb, hp⟩ := h
  have hplt := hb.lt
  have hc1 : w.cell? ⟨p, 1, none⟩ = some (.slice (some ⟨br, 0, none⟩) n cr) := hb.cell 1
  have hrlt := hp.seen.lt
  have hcap : n ≤ cr := by obtain ⟨cur, _, _, hl, _⟩ := hp.seen; omega
  have HC := Lib.hid (fun j s (hj : x.seen[j]? = some s) => hp.seen.cell (i := j) hj)
  have HSL := Lib.hid hsl
  have HSS := Lib.hid hss
  clear hb hp hw hsl hss hg
  generalize x.seen = l at *
  go_enter Tryz.func33, Tryz.ntmps33
  go_wp2_with (fail)
  refine HR.out.mono ?_
  rintro e w' ⟨rfl, rfl⟩
  go_wp2_with (fail)
  rw [show ((k : Int) * 512) = ((k * 512 : Nat) : Int) by omega]
  refine (Tryz.Builder_Grow_fresh w.heap.size w.heap.size (k * 512) _ (Nat.le_refl _) (heap_alloc_new w _) (by simp) (by omega)).mono ?_
  rintro e w1 ⟨rfl, hB, hb1⟩
  have h0 : Below w.heap.size w w1 := ((Below.refl w.heap.size w).alloc (Nat.le_refl _) _).trans hb1
  have hc1' : w1.cell? ⟨p, 1, none⟩ = some (.slice (some ⟨br, 0, none⟩) n cr) := (h0.cell (p := ⟨p, 1, none⟩) hplt).trans hc1
  have HB := Lib.hid hB
  have H0 := Lib.hid h0
  clear hB h0 hb1
  go_wp2_with (fail)
  all_goals
    go_loopw [32] (fun c wr => RdAt w l i k c wr) (fun c _ => k - (intOf c).toNat)
    case atStart => exact ⟨0, rfl, Nat.zero_le _, by rw [part_zero]; exact .inr HB.out, H0.out⟩
    case round =>
      obtain ⟨j, rfl, hj, hbd, hbl⟩ := hrel
      by_cases hlt : j < k
      · first
        | (exfalso; omega)
        | have hat : l[i + j]? = some (l[i + j]'(by have := HSL.out; omega)) := List.getElem?_eq_getElem _
          generalize l[i + j]'(by have := HSL.out; omega) = s at hat
          have hz := HSS.out s (List.mem_of_getElem? hat)
          have hcell : wr.cell? ⟨br, i + j, none⟩ = some (.string s) := (hbl.cell (p := ⟨br, i + j, none⟩) hrlt).trans (HC.out _ _ hat)
          have HP := Lib.hid (part_snoc hat)
          have HL := Lib.hid (show (Lib.byteCells (flatB (part l i j))).length + s.size ≤ 140737488355328 by
            rw [Lib.byteCells_length, flatB_length (fun t ht => HSS.out t (part_mem ht)), part_length (by have := HSL.out; omega)]; omega)
          have HD := Lib.hid hbd
          have HBL := Lib.hid hbl
          clear hat hz hbd hbl
          go_wp2_with (fail)
          refine (Tryz.Builder_WriteString _ _ _ _ _ HD.out HL.out HBL.out.size).mono ?_
          rintro e w2 ⟨rfl, h2, h3⟩
          have H2 := Lib.hid h2
          have H3 := Lib.hid (HBL.out.trans h3)
          clear h2 h3
          go_wp2_with (fail)
          go_roundw
          case rel => exact ⟨j + 1, by go_num, by omega, by rw [HP.out, flatB_snoc, Lib.byteCells_append]; exact .inr H2.out, H3.out⟩
          case measure => simp [intOf]; omega
      · obtain rfl : j = k := by omega
        have HD := Lib.hid hbd
        have HBL := Lib.hid hbl
        clear hbd hbl
        go_wp2_with (fail)
        refine (Tryz.Builder_String_any _ _ _ _ HD.out HBL.out.size).mono ?_
        rintro e w2 ⟨rfl, h3⟩
        have H3 := Lib.hid (HBL.out.trans h3)
        clear h3
        go_wp2_with (fail)
        go_ret2
        exact ⟨rfl, H3.out⟩
end Go.Proofs.YtgdaihembmcamaaGreatDoor
