/- Read of the document's device. -/
import Derived.Test.YtlcaokgdbocmiaaRefWrite
import Derived.Lib.BufferRead
namespace Go.Proofs.Ytlcaokgdbocmiaa
open Go.RowKit
theorem info5s : (Try.prog.info? 5).map (fun i => (i.zero, i.size, i.bytes)) = some (some (.int .u8 0), 1, 1) := by kernel_rfl
theorem rread_nil (w : World) (i k : Int) : Calls Try.prog 17 #[.pointer none, .int .i64 i, .int .i64 k] w fun e w' => e = .returned (.tuple #[.string ⟨#[]⟩, .int .i64 1]) ∧ w = w' := by
  go_enter Try.func17, Try.ntmps17
  go_wp2
  go_ret2
  exact ⟨rfl, rfl⟩
theorem rread_out (w : World) {F : Nat → Prop} {p n : Nat} {x : St} (h : Rf w F p n x) (i k : Int) (hw : i < 0 ∨ k < 0 ∨ (n : Int) - i < k) :
    Calls Try.prog 17 #[.pointer (some ⟨p, 0, none⟩), .int .i64 i, .int .i64 k] w fun e w' => e = .returned (.tuple #[.string ⟨#[]⟩, .int .i64 (x.why n i k)]) ∧ w = w' := by
  rw [why_out hw]
  have HR := there_any w h i k
  rw [there_no hw] at HR
  have HR := Lib.hid HR
  clear h hw
  go_enter Try.func17, Try.ntmps17
  go_wp2_with (go_at_call 40; refine HR.out.mono ?_; rintro e w' ⟨rfl, rfl⟩)
  go_ret2
  exact ⟨rfl, rfl⟩
theorem rread_down (w : World) {F : Nat → Prop} {p n : Nat} {x : St} (h : Rf w F p n x) (i k : Int) (hw : ¬ (i < 0 ∨ k < 0 ∨ (n : Int) - i < k)) (hd : x.down = true) :
    Calls Try.prog 17 #[.pointer (some ⟨p, 0, none⟩), .int .i64 i, .int .i64 k] w fun e w' => e = .returned (.tuple #[.string ⟨#[]⟩, .int .i64 (x.why n i k)]) ∧ w = w' := by
  rw [why_down hw hd]
  have HR := there_any w h i k
  rw [there_yes hw] at HR
  have HR := Lib.hid HR
  have h6 : w.cell? ⟨p, 6, none⟩ = some (.bool true) := by obtain ⟨br, cr, bs, cs, hv, hb, hp⟩ := h; rw [← hd]; exact hb.cell 6
  clear h hw hd
  go_enter Try.func17, Try.ntmps17
  go_wp2_with (go_at_call 40; refine HR.out.mono ?_; rintro e w' ⟨rfl, rfl⟩)
  go_ret2
  exact ⟨rfl, rfl⟩
/-- string(b) of what was collected. -/
theorem conv_own {w : World} {base N c : Nat} {A : Option Addr} {l : List UInt8} (h : w.ownsRow base 5 1 (.slice A N c) N (Lib.byteCells l)) : (convert 48 9 (.slice A N c)).run Try.prog w = .ok (.string ⟨l.toArray⟩) w := by
  have hl : l.length = N := by have := h.1; rw [Lib.byteCells_length] at this; omega
  rcases Nat.eq_zero_or_pos N with h0 | h0
  · subst h0
    have hnil : l = [] := List.eq_nil_of_length_eq_zero hl
    subst hnil
    cases A with
    | none => exact Lib.run_convert_nil_bytes w 48 9 5 c Try.underlying48 Try.underlying5 Try.underlying9
    | some a => exact run_convert_bytes_back (P := Try.prog) w 48 9 5 a c [] Try.underlying48 Try.underlying5 Try.underlying9 (fun j hj => absurd hj (Nat.not_lt_zero _))
  · obtain ⟨g, cur, rfl, hg, ht⟩ := own_some h h0
    subst hl
    refine run_convert_bytes_back (P := Try.prog) w 48 9 5 ⟨g, 0, none⟩ c l Try.underlying48 Try.underlying5 Try.underlying9 fun j hj => ?_
    rw [Addr.add_lit, Nat.zero_add, hg.cell]
    have : (Lib.byteCells l)[j]? = some (.int .u8 (l[j].toNat : Int)) := by
      unfold Lib.byteCells
      rw [List.getElem?_map, List.getElem?_eq_getElem hj]; rfl
    rw [← ht, List.getElem?_take, if_pos (by omega)] at this
    simpa using this
/-- Of a read's loop: j sectors are collected. -/
def RrAt (w : World) (l : List ByteArray) (i k : Nat) (b c : Value) (wr : World) : Prop :=
  ∃ (j : Nat) (A : Option Addr) (cap : Nat), c = .int .i64 (j : Int) ∧ j ≤ k ∧ b = .slice A (j * 512) cap ∧ wr.ownsRow w.heap.size 5 1 (.slice A (j * 512) cap) (j * 512) (Lib.byteCells (flatB (part l i j))) ∧ Below w.heap.size w wr
set_option maxHeartbeats 800000 in
theorem rread_ok (w : World) {F : Nat → Prop} {p n : Nat} {x : St} (h : Rf w F p n x) (i k : Nat) (hw : x.why n i k = 0) :
    Calls Try.prog 17 #[.pointer (some ⟨p, 0, none⟩), .int .i64 (i : Int), .int .i64 (k : Int)] w fun e w' => e = .returned (.tuple #[.string (catS (part x.seen i k)), .int .i64 0]) ∧ Below w.heap.size w w' := by
  have hg := h.good
  have hn := hg.most
  have hsl : x.seen.length = n := (seen_length x).trans hg.size
  have hss := seen_secs hg
  obtain ⟨_, _, hik, hdn⟩ := why_zero hw
  have HR := there_any w h i k
  rw [there_yes (by omega)] at HR
  have HR := Lib.hid HR
  obtain ⟨br, cr, bs, cs, hv, hb, hp⟩ := h
  have h6 : w.cell? ⟨p, 6, none⟩ = some (.bool false) := by rw [← hdn]; exact hb.cell 6
  have hplt := hb.lt
  have hc1 : w.cell? ⟨p, 1, none⟩ = some (.slice (some ⟨br, 0, none⟩) n cr) := hb.cell 1
  have hrlt := hp.seen.lt
  have HC := Lib.hid (fun j s (hj : x.seen[j]? = some s) => hp.seen.cell (i := j) hj)
  have HSL := Lib.hid hsl
  have HSS := Lib.hid hss
  clear hb hp hw hsl hss hg hdn
  generalize x.seen = l at *
  go_enter Try.func17, Try.ntmps17
  go_wp2_with (fail)
  refine HR.out.mono ?_
  rintro e w' ⟨rfl, rfl⟩
  go_wp2_with (fail)
  go_loopw [8, 9] (fun b c wr => RrAt w l i k b c wr) (fun _ c _ => k - (intOf c).toNat)
  case atStart => exact ⟨0, none, 0, rfl, Nat.zero_le _, rfl, by rw [part_zero]; exact World.ownsRow_nil w _ _ _, Below.refl _ _⟩
  case round =>
    obtain ⟨j, A, cap, rfl, hj, rfl, hown, hbl⟩ := hrel
    by_cases hlt : j < k
    · have hat : l[i + j]? = some (l[i + j]'(by have := HSL.out; omega)) := List.getElem?_eq_getElem _
      generalize l[i + j]'(by have := HSL.out; omega) = s at hat
      have hz := HSS.out s (List.mem_of_getElem? hat)
      have hcell : wr.cell? ⟨br, i + j, none⟩ = some (.string s) := (hbl.cell (p := ⟨br, i + j, none⟩) hrlt).trans (HC.out _ _ hat)
      have hcr : wr.cell? ⟨p, 1, none⟩ = some (.slice (some ⟨br, 0, none⟩) n cr) := (hbl.cell (p := ⟨p, 1, none⟩) hplt).trans hc1
      have HP := Lib.hid (part_snoc hat)
      have hin : i + j < n := by omega
      have HO := Lib.hid hown
      have HBL := Lib.hid hbl
      have HZ := Lib.hid hz
      have HM := Lib.hid (show j * 512 + s.size ≤ maxLen by unfold maxLen; omega)
      have HY := Lib.hid (show j * 512 + s.size ≤ 140737488355328 by omega)
      clear hat hz hbl hown
      obtain ⟨i0, hi0, hz0, hz1, hz2⟩ := info_parts info5s
      go_wp2_with (at_builtin; refine Lib.wpList_append_own_string _ rfl (.tmp 26) (.tmp 35) _ _ rfl w.heap.size 5 i0 Try.underlying48 Try.underlying9 hi0 hz0 hz1 hz2 (.slice A (j * 512) cap) (j * 512) (Lib.byteCells (flatB (part l i j))) rfl HO.out s rfl HM.out HY.out HBL.out.size ?_; intro v' w3 hown1 hg1 hn1; obtain ⟨A2, c2, rfl⟩ := own_form hown1; have HO3 := Lib.hid hown1; have HR1 := Lib.hid hg1; clear hown1 hg1 hn1)
      have e : j * 512 + s.size = (j + 1) * 512 := by rw [HZ.out]; omega
      rw [e]
      refine ⟨⟨j + 1, A2, c2, by go_num, hlt, rfl, ?_, HBL.out.grown HR1.out HBL.out.size (fun g hg => (HO.out.lt g hg).1)⟩, by simp [intOf]; omega⟩
      rw [HP.out, flatB_snoc, Lib.byteCells_append, ← e]
      exact HO3.out
    · obtain rfl : j = k := by omega
      have hcv := conv_own hown
      have HBL := Lib.hid hbl
      clear hown hbl
      go_wp2_with (fail)
      go_ret2
      exact ⟨rfl, HBL.out⟩
end Go.Proofs.Ytlcaokgdbocmiaa
