/- What the document says of a block's length, of the types' numbers and of numbers in a text; the small functions. -/
import Derived.Test.YtaachlijpgmjeaaDoorCdD
namespace Go.Proofs.YtaachlijpgmjeaaDoor
open Go.RowKit
theorem beqI (a b : Int) : (a == b) = decide (a = b) := by
  by_cases h : a = b
  · rw [decide_eq_true h]; exact beq_iff_eq.2 h
  · rw [decide_eq_false h]; exact beq_eq_false_iff_ne.2 h
theorem empty_yes' {s : ByteArray} (h : s.size = 0) : s.toList.isEmpty = true ∧ s.toList = [] := ⟨isEmpty_yes s h, List.isEmpty_iff.1 (isEmpty_yes s h)⟩
theorem empty_no' {s : ByteArray} (h : s.size ≠ 0) : s.toList.isEmpty = false ∧ ¬ s.toList = [] := by
  have h1 : s.toList.isEmpty = false := isEmpty_no s (by omega)
  refine ⟨h1, fun e => ?_⟩
  rw [e] at h1
  exact absurd h1 (by decide)
theorem lenS_no {s : ByteArray} (h : s.size = 0) : lenS s = 0 := by unfold lenS; rw [if_pos h]
theorem lenS_yes {s : ByteArray} (h : s.size ≠ 0) : lenS s = lenB (byt s 0) := by unfold lenS; rw [if_neg h]
set_option maxRecDepth 100000 in
set_option maxHeartbeats 4000000 in
theorem refLen_any (s : ByteArray) (w : World) : Calls Tryd.prog 14 #[.string s] w fun e w' => e = .returned (.int .i64 (lenS s : Int)) ∧ Below w.heap.size w w' := by
  have HB := Lib.hid (Below.refl w.heap.size w)
  by_cases h0 : s.size = 0
  · have HL := Lib.hid (lenS_no h0)
    obtain ⟨e1, e2⟩ := empty_yes' h0
    clear h0
    go_enter Tryd.func14, Tryd.ntmps14
    go_wp2_with (fail)
    go_ret
    exact ⟨by rw [HL.out]; rfl, HB.out⟩
  · have HL := Lib.hid (lenS_yes h0)
    obtain ⟨e1, e2⟩ := empty_no' h0
    have hi := index_byt s 0 0 rfl (by omega)
    have hb := byt_lt s 0
    clear h0
    generalize byt s 0 = b at *
    by_cases hv : b = 0
    · have q0 : ((b : Int) == 0) = true := by rw [beqI]; exact decide_eq_true (by omega)
      have HV := Lib.hid (show lenB b = 6 from by subst hv; rfl)
      clear hv
      go_enter Tryd.func14, Tryd.ntmps14
      go_wp2_with (fail)
      go_ret
      exact ⟨by rw [HL.out, HV.out]; rfl, HB.out⟩
    have n0 : ¬ b = 0 := hv
    clear hv
    by_cases hv : b = 18
    · have q0 : ((b : Int) == 0) = false := by rw [beqI]; exact decide_eq_false (by omega)
      have q18 : ((b : Int) == 18) = true := by rw [beqI]; exact decide_eq_true (by omega)
      have HV := Lib.hid (show lenB b = 6 from by subst hv; rfl)
      clear hv
      go_enter Tryd.func14, Tryd.ntmps14
      go_wp2_with (fail)
      go_ret
      exact ⟨by rw [HL.out, HV.out]; rfl, HB.out⟩
    have n18 : ¬ b = 18 := hv
    clear hv
    by_cases hv : b = 37
    · have q0 : ((b : Int) == 0) = false := by rw [beqI]; exact decide_eq_false (by omega)
      have q18 : ((b : Int) == 18) = false := by rw [beqI]; exact decide_eq_false (by omega)
      have q37 : ((b : Int) == 37) = true := by rw [beqI]; exact decide_eq_true (by omega)
      have HV := Lib.hid (show lenB b = 10 from by subst hv; rfl)
      clear hv
      go_enter Tryd.func14, Tryd.ntmps14
      go_wp2_with (fail)
      go_ret
      exact ⟨by rw [HL.out, HV.out]; rfl, HB.out⟩
    have n37 : ¬ b = 37 := hv
    clear hv
    by_cases hv : b = 40
    · have q0 : ((b : Int) == 0) = false := by rw [beqI]; exact decide_eq_false (by omega)
      have q18 : ((b : Int) == 18) = false := by rw [beqI]; exact decide_eq_false (by omega)
      have q37 : ((b : Int) == 37) = false := by rw [beqI]; exact decide_eq_false (by omega)
      have q40 : ((b : Int) == 40) = true := by rw [beqI]; exact decide_eq_true (by omega)
      have HV := Lib.hid (show lenB b = 10 from by subst hv; rfl)
      clear hv
      go_enter Tryd.func14, Tryd.ntmps14
      go_wp2_with (fail)
      go_ret
      exact ⟨by rw [HL.out, HV.out]; rfl, HB.out⟩
    have n40 : ¬ b = 40 := hv
    clear hv
    by_cases hv : b = 42
    · have q0 : ((b : Int) == 0) = false := by rw [beqI]; exact decide_eq_false (by omega)
      have q18 : ((b : Int) == 18) = false := by rw [beqI]; exact decide_eq_false (by omega)
      have q37 : ((b : Int) == 37) = false := by rw [beqI]; exact decide_eq_false (by omega)
      have q40 : ((b : Int) == 40) = false := by rw [beqI]; exact decide_eq_false (by omega)
      have q42 : ((b : Int) == 42) = true := by rw [beqI]; exact decide_eq_true (by omega)
      have HV := Lib.hid (show lenB b = 10 from by subst hv; rfl)
      clear hv
      go_enter Tryd.func14, Tryd.ntmps14
      go_wp2_with (fail)
      go_ret
      exact ⟨by rw [HL.out, HV.out]; rfl, HB.out⟩
    have n42 : ¬ b = 42 := hv
    clear hv
    by_cases hv : b = 53
    · have q0 : ((b : Int) == 0) = false := by rw [beqI]; exact decide_eq_false (by omega)
      have q18 : ((b : Int) == 18) = false := by rw [beqI]; exact decide_eq_false (by omega)
      have q37 : ((b : Int) == 37) = false := by rw [beqI]; exact decide_eq_false (by omega)
      have q40 : ((b : Int) == 40) = false := by rw [beqI]; exact decide_eq_false (by omega)
      have q42 : ((b : Int) == 42) = false := by rw [beqI]; exact decide_eq_false (by omega)
      have q53 : ((b : Int) == 53) = true := by rw [beqI]; exact decide_eq_true (by omega)
      have HV := Lib.hid (show lenB b = 10 from by subst hv; rfl)
      clear hv
      go_enter Tryd.func14, Tryd.ntmps14
      go_wp2_with (fail)
      go_ret
      exact ⟨by rw [HL.out, HV.out]; rfl, HB.out⟩
    have n53 : ¬ b = 53 := hv
    clear hv
    by_cases hv : b = 66
    · have q0 : ((b : Int) == 0) = false := by rw [beqI]; exact decide_eq_false (by omega)
      have q18 : ((b : Int) == 18) = false := by rw [beqI]; exact decide_eq_false (by omega)
      have q37 : ((b : Int) == 37) = false := by rw [beqI]; exact decide_eq_false (by omega)
      have q40 : ((b : Int) == 40) = false := by rw [beqI]; exact decide_eq_false (by omega)
      have q42 : ((b : Int) == 42) = false := by rw [beqI]; exact decide_eq_false (by omega)
      have q53 : ((b : Int) == 53) = false := by rw [beqI]; exact decide_eq_false (by omega)
      have q66 : ((b : Int) == 66) = true := by rw [beqI]; exact decide_eq_true (by omega)
      have HV := Lib.hid (show lenB b = 10 from by subst hv; rfl)
      clear hv
      go_enter Tryd.func14, Tryd.ntmps14
      go_wp2_with (fail)
      go_ret
      exact ⟨by rw [HL.out, HV.out]; rfl, HB.out⟩
    have n66 : ¬ b = 66 := hv
    clear hv
    by_cases hv : b = 94
    · have q0 : ((b : Int) == 0) = false := by rw [beqI]; exact decide_eq_false (by omega)
      have q18 : ((b : Int) == 18) = false := by rw [beqI]; exact decide_eq_false (by omega)
      have q37 : ((b : Int) == 37) = false := by rw [beqI]; exact decide_eq_false (by omega)
      have q40 : ((b : Int) == 40) = false := by rw [beqI]; exact decide_eq_false (by omega)
      have q42 : ((b : Int) == 42) = false := by rw [beqI]; exact decide_eq_false (by omega)
      have q53 : ((b : Int) == 53) = false := by rw [beqI]; exact decide_eq_false (by omega)
      have q66 : ((b : Int) == 66) = false := by rw [beqI]; exact decide_eq_false (by omega)
      have q94 : ((b : Int) == 94) = true := by rw [beqI]; exact decide_eq_true (by omega)
      have HV := Lib.hid (show lenB b = 10 from by subst hv; rfl)
      clear hv
      go_enter Tryd.func14, Tryd.ntmps14
      go_wp2_with (fail)
      go_ret
      exact ⟨by rw [HL.out, HV.out]; rfl, HB.out⟩
    have n94 : ¬ b = 94 := hv
    clear hv
    by_cases hv : b = 95
    · have q0 : ((b : Int) == 0) = false := by rw [beqI]; exact decide_eq_false (by omega)
      have q18 : ((b : Int) == 18) = false := by rw [beqI]; exact decide_eq_false (by omega)
      have q37 : ((b : Int) == 37) = false := by rw [beqI]; exact decide_eq_false (by omega)
      have q40 : ((b : Int) == 40) = false := by rw [beqI]; exact decide_eq_false (by omega)
      have q42 : ((b : Int) == 42) = false := by rw [beqI]; exact decide_eq_false (by omega)
      have q53 : ((b : Int) == 53) = false := by rw [beqI]; exact decide_eq_false (by omega)
      have q66 : ((b : Int) == 66) = false := by rw [beqI]; exact decide_eq_false (by omega)
      have q94 : ((b : Int) == 94) = false := by rw [beqI]; exact decide_eq_false (by omega)
      have q95 : ((b : Int) == 95) = true := by rw [beqI]; exact decide_eq_true (by omega)
      have HV := Lib.hid (show lenB b = 10 from by subst hv; rfl)
      clear hv
      go_enter Tryd.func14, Tryd.ntmps14
      go_wp2_with (fail)
      go_ret
      exact ⟨by rw [HL.out, HV.out]; rfl, HB.out⟩
    have n95 : ¬ b = 95 := hv
    clear hv
    by_cases hv : b = 160
    · have q0 : ((b : Int) == 0) = false := by rw [beqI]; exact decide_eq_false (by omega)
      have q18 : ((b : Int) == 18) = false := by rw [beqI]; exact decide_eq_false (by omega)
      have q37 : ((b : Int) == 37) = false := by rw [beqI]; exact decide_eq_false (by omega)
      have q40 : ((b : Int) == 40) = false := by rw [beqI]; exact decide_eq_false (by omega)
      have q42 : ((b : Int) == 42) = false := by rw [beqI]; exact decide_eq_false (by omega)
      have q53 : ((b : Int) == 53) = false := by rw [beqI]; exact decide_eq_false (by omega)
      have q66 : ((b : Int) == 66) = false := by rw [beqI]; exact decide_eq_false (by omega)
      have q94 : ((b : Int) == 94) = false := by rw [beqI]; exact decide_eq_false (by omega)
      have q95 : ((b : Int) == 95) = false := by rw [beqI]; exact decide_eq_false (by omega)
      have q160 : ((b : Int) == 160) = true := by rw [beqI]; exact decide_eq_true (by omega)
      have HV := Lib.hid (show lenB b = 12 from by subst hv; rfl)
      clear hv
      go_enter Tryd.func14, Tryd.ntmps14
      go_wp2_with (fail)
      go_ret
      exact ⟨by rw [HL.out, HV.out]; rfl, HB.out⟩
    have n160 : ¬ b = 160 := hv
    clear hv
    by_cases hv : b = 136
    · have q0 : ((b : Int) == 0) = false := by rw [beqI]; exact decide_eq_false (by omega)
      have q18 : ((b : Int) == 18) = false := by rw [beqI]; exact decide_eq_false (by omega)
      have q37 : ((b : Int) == 37) = false := by rw [beqI]; exact decide_eq_false (by omega)
      have q40 : ((b : Int) == 40) = false := by rw [beqI]; exact decide_eq_false (by omega)
      have q42 : ((b : Int) == 42) = false := by rw [beqI]; exact decide_eq_false (by omega)
      have q53 : ((b : Int) == 53) = false := by rw [beqI]; exact decide_eq_false (by omega)
      have q66 : ((b : Int) == 66) = false := by rw [beqI]; exact decide_eq_false (by omega)
      have q94 : ((b : Int) == 94) = false := by rw [beqI]; exact decide_eq_false (by omega)
      have q95 : ((b : Int) == 95) = false := by rw [beqI]; exact decide_eq_false (by omega)
      have q160 : ((b : Int) == 160) = false := by rw [beqI]; exact decide_eq_false (by omega)
      have q136 : ((b : Int) == 136) = true := by rw [beqI]; exact decide_eq_true (by omega)
      have HV := Lib.hid (show lenB b = 16 from by subst hv; rfl)
      clear hv
      go_enter Tryd.func14, Tryd.ntmps14
      go_wp2_with (fail)
      go_ret
      exact ⟨by rw [HL.out, HV.out]; rfl, HB.out⟩
    have n136 : ¬ b = 136 := hv
    clear hv
    by_cases hv : b = 137
    · have q0 : ((b : Int) == 0) = false := by rw [beqI]; exact decide_eq_false (by omega)
      have q18 : ((b : Int) == 18) = false := by rw [beqI]; exact decide_eq_false (by omega)
      have q37 : ((b : Int) == 37) = false := by rw [beqI]; exact decide_eq_false (by omega)
      have q40 : ((b : Int) == 40) = false := by rw [beqI]; exact decide_eq_false (by omega)
      have q42 : ((b : Int) == 42) = false := by rw [beqI]; exact decide_eq_false (by omega)
      have q53 : ((b : Int) == 53) = false := by rw [beqI]; exact decide_eq_false (by omega)
      have q66 : ((b : Int) == 66) = false := by rw [beqI]; exact decide_eq_false (by omega)
      have q94 : ((b : Int) == 94) = false := by rw [beqI]; exact decide_eq_false (by omega)
      have q95 : ((b : Int) == 95) = false := by rw [beqI]; exact decide_eq_false (by omega)
      have q160 : ((b : Int) == 160) = false := by rw [beqI]; exact decide_eq_false (by omega)
      have q136 : ((b : Int) == 136) = false := by rw [beqI]; exact decide_eq_false (by omega)
      have q137 : ((b : Int) == 137) = true := by rw [beqI]; exact decide_eq_true (by omega)
      have HV := Lib.hid (show lenB b = 16 from by subst hv; rfl)
      clear hv
      go_enter Tryd.func14, Tryd.ntmps14
      go_wp2_with (fail)
      go_ret
      exact ⟨by rw [HL.out, HV.out]; rfl, HB.out⟩
    have n137 : ¬ b = 137 := hv
    clear hv
    by_cases hv : b = 138
    · have q0 : ((b : Int) == 0) = false := by rw [beqI]; exact decide_eq_false (by omega)
      have q18 : ((b : Int) == 18) = false := by rw [beqI]; exact decide_eq_false (by omega)
      have q37 : ((b : Int) == 37) = false := by rw [beqI]; exact decide_eq_false (by omega)
      have q40 : ((b : Int) == 40) = false := by rw [beqI]; exact decide_eq_false (by omega)
      have q42 : ((b : Int) == 42) = false := by rw [beqI]; exact decide_eq_false (by omega)
      have q53 : ((b : Int) == 53) = false := by rw [beqI]; exact decide_eq_false (by omega)
      have q66 : ((b : Int) == 66) = false := by rw [beqI]; exact decide_eq_false (by omega)
      have q94 : ((b : Int) == 94) = false := by rw [beqI]; exact decide_eq_false (by omega)
      have q95 : ((b : Int) == 95) = false := by rw [beqI]; exact decide_eq_false (by omega)
      have q160 : ((b : Int) == 160) = false := by rw [beqI]; exact decide_eq_false (by omega)
      have q136 : ((b : Int) == 136) = false := by rw [beqI]; exact decide_eq_false (by omega)
      have q137 : ((b : Int) == 137) = false := by rw [beqI]; exact decide_eq_false (by omega)
      have q138 : ((b : Int) == 138) = true := by rw [beqI]; exact decide_eq_true (by omega)
      have HV := Lib.hid (show lenB b = 16 from by subst hv; rfl)
      clear hv
      go_enter Tryd.func14, Tryd.ntmps14
      go_wp2_with (fail)
      go_ret
      exact ⟨by rw [HL.out, HV.out]; rfl, HB.out⟩
    have n138 : ¬ b = 138 := hv
    clear hv
    by_cases hv : b = 147
    · have q0 : ((b : Int) == 0) = false := by rw [beqI]; exact decide_eq_false (by omega)
      have q18 : ((b : Int) == 18) = false := by rw [beqI]; exact decide_eq_false (by omega)
      have q37 : ((b : Int) == 37) = false := by rw [beqI]; exact decide_eq_false (by omega)
      have q40 : ((b : Int) == 40) = false := by rw [beqI]; exact decide_eq_false (by omega)
      have q42 : ((b : Int) == 42) = false := by rw [beqI]; exact decide_eq_false (by omega)
      have q53 : ((b : Int) == 53) = false := by rw [beqI]; exact decide_eq_false (by omega)
      have q66 : ((b : Int) == 66) = false := by rw [beqI]; exact decide_eq_false (by omega)
      have q94 : ((b : Int) == 94) = false := by rw [beqI]; exact decide_eq_false (by omega)
      have q95 : ((b : Int) == 95) = false := by rw [beqI]; exact decide_eq_false (by omega)
      have q160 : ((b : Int) == 160) = false := by rw [beqI]; exact decide_eq_false (by omega)
      have q136 : ((b : Int) == 136) = false := by rw [beqI]; exact decide_eq_false (by omega)
      have q137 : ((b : Int) == 137) = false := by rw [beqI]; exact decide_eq_false (by omega)
      have q138 : ((b : Int) == 138) = false := by rw [beqI]; exact decide_eq_false (by omega)
      have q147 : ((b : Int) == 147) = true := by rw [beqI]; exact decide_eq_true (by omega)
      have HV := Lib.hid (show lenB b = 16 from by subst hv; rfl)
      clear hv
      go_enter Tryd.func14, Tryd.ntmps14
      go_wp2_with (fail)
      go_ret
      exact ⟨by rw [HL.out, HV.out]; rfl, HB.out⟩
    have n147 : ¬ b = 147 := hv
    clear hv
    have q0 : ((b : Int) == 0) = false := by rw [beqI]; exact decide_eq_false (by omega)
    have q18 : ((b : Int) == 18) = false := by rw [beqI]; exact decide_eq_false (by omega)
    have q37 : ((b : Int) == 37) = false := by rw [beqI]; exact decide_eq_false (by omega)
    have q40 : ((b : Int) == 40) = false := by rw [beqI]; exact decide_eq_false (by omega)
    have q42 : ((b : Int) == 42) = false := by rw [beqI]; exact decide_eq_false (by omega)
    have q53 : ((b : Int) == 53) = false := by rw [beqI]; exact decide_eq_false (by omega)
    have q66 : ((b : Int) == 66) = false := by rw [beqI]; exact decide_eq_false (by omega)
    have q94 : ((b : Int) == 94) = false := by rw [beqI]; exact decide_eq_false (by omega)
    have q95 : ((b : Int) == 95) = false := by rw [beqI]; exact decide_eq_false (by omega)
    have q160 : ((b : Int) == 160) = false := by rw [beqI]; exact decide_eq_false (by omega)
    have q136 : ((b : Int) == 136) = false := by rw [beqI]; exact decide_eq_false (by omega)
    have q137 : ((b : Int) == 137) = false := by rw [beqI]; exact decide_eq_false (by omega)
    have q138 : ((b : Int) == 138) = false := by rw [beqI]; exact decide_eq_false (by omega)
    have q147 : ((b : Int) == 147) = false := by rw [beqI]; exact decide_eq_false (by omega)
    have HV := Lib.hid (show lenB b = 0 from by unfold lenB; rw [if_neg (by omega), if_neg (by omega), if_neg (by omega), if_neg (by omega)])
    go_enter Tryd.func14, Tryd.ntmps14
    go_wp2_with (fail)
    go_ret
    exact ⟨by rw [HL.out, HV.out]; rfl, HB.out⟩
set_option maxRecDepth 100000 in
theorem refTyp_any (n : Int) (w : World) : Calls Tryd.prog 18 #[.int .i64 n] w fun e w' => e = .returned (.int .i64 (typN n)) ∧ Below w.heap.size w w' := by
  have HB := Lib.hid (Below.refl w.heap.size w)
  by_cases hv : n = 1
  · have q1 : ((n : Int) == 1) = true := by rw [beqI]; exact decide_eq_true (by omega)
    have HV := Lib.hid (show typN n = 1 from by subst hv; rfl)
    clear hv
    go_enter Tryd.func18, Tryd.ntmps18
    go_wp2_with (fail)
    go_ret
    exact ⟨by rw [HV.out]; rfl, HB.out⟩
  have n1 : ¬ n = 1 := hv
  clear hv
  by_cases hv : n = 3
  · have q1 : ((n : Int) == 1) = false := by rw [beqI]; exact decide_eq_false (by omega)
    have q3 : ((n : Int) == 3) = true := by rw [beqI]; exact decide_eq_true (by omega)
    have HV := Lib.hid (show typN n = 2 from by subst hv; rfl)
    clear hv
    go_enter Tryd.func18, Tryd.ntmps18
    go_wp2_with (fail)
    go_ret
    exact ⟨by rw [HV.out]; rfl, HB.out⟩
  have n3 : ¬ n = 3 := hv
  clear hv
  by_cases hv : n = 5
  · have q1 : ((n : Int) == 1) = false := by rw [beqI]; exact decide_eq_false (by omega)
    have q3 : ((n : Int) == 3) = false := by rw [beqI]; exact decide_eq_false (by omega)
    have q5 : ((n : Int) == 5) = true := by rw [beqI]; exact decide_eq_true (by omega)
    have HV := Lib.hid (show typN n = 3 from by subst hv; rfl)
    have hs : IntKind.i64.wrap (n - 2) = 3 := by rw [IntWalk.i64_in _ (by omega)]; omega
    clear hv
    go_enter Tryd.func18, Tryd.ntmps18
    go_wp2_with (fail)
    go_ret
    exact ⟨by rw [HV.out]; rfl, HB.out⟩
  have n5 : ¬ n = 5 := hv
  clear hv
  by_cases hv : n = 6
  · have q1 : ((n : Int) == 1) = false := by rw [beqI]; exact decide_eq_false (by omega)
    have q3 : ((n : Int) == 3) = false := by rw [beqI]; exact decide_eq_false (by omega)
    have q5 : ((n : Int) == 5) = false := by rw [beqI]; exact decide_eq_false (by omega)
    have q6 : ((n : Int) == 6) = true := by rw [beqI]; exact decide_eq_true (by omega)
    have HV := Lib.hid (show typN n = 4 from by subst hv; rfl)
    have hs : IntKind.i64.wrap (n - 2) = 4 := by rw [IntWalk.i64_in _ (by omega)]; omega
    clear hv
    go_enter Tryd.func18, Tryd.ntmps18
    go_wp2_with (fail)
    go_ret
    exact ⟨by rw [HV.out]; rfl, HB.out⟩
  have n6 : ¬ n = 6 := hv
  clear hv
  by_cases hv : n = 7
  · have q1 : ((n : Int) == 1) = false := by rw [beqI]; exact decide_eq_false (by omega)
    have q3 : ((n : Int) == 3) = false := by rw [beqI]; exact decide_eq_false (by omega)
    have q5 : ((n : Int) == 5) = false := by rw [beqI]; exact decide_eq_false (by omega)
    have q6 : ((n : Int) == 6) = false := by rw [beqI]; exact decide_eq_false (by omega)
    have q7 : ((n : Int) == 7) = true := by rw [beqI]; exact decide_eq_true (by omega)
    have HV := Lib.hid (show typN n = 5 from by subst hv; rfl)
    have hs : IntKind.i64.wrap (n - 2) = 5 := by rw [IntWalk.i64_in _ (by omega)]; omega
    clear hv
    go_enter Tryd.func18, Tryd.ntmps18
    go_wp2_with (fail)
    go_ret
    exact ⟨by rw [HV.out]; rfl, HB.out⟩
  have n7 : ¬ n = 7 := hv
  clear hv
  by_cases hv : n = 8
  · have q1 : ((n : Int) == 1) = false := by rw [beqI]; exact decide_eq_false (by omega)
    have q3 : ((n : Int) == 3) = false := by rw [beqI]; exact decide_eq_false (by omega)
    have q5 : ((n : Int) == 5) = false := by rw [beqI]; exact decide_eq_false (by omega)
    have q6 : ((n : Int) == 6) = false := by rw [beqI]; exact decide_eq_false (by omega)
    have q7 : ((n : Int) == 7) = false := by rw [beqI]; exact decide_eq_false (by omega)
    have q8 : ((n : Int) == 8) = true := by rw [beqI]; exact decide_eq_true (by omega)
    have HV := Lib.hid (show typN n = 6 from by subst hv; rfl)
    have hs : IntKind.i64.wrap (n - 2) = 6 := by rw [IntWalk.i64_in _ (by omega)]; omega
    clear hv
    go_enter Tryd.func18, Tryd.ntmps18
    go_wp2_with (fail)
    go_ret
    exact ⟨by rw [HV.out]; rfl, HB.out⟩
  have n8 : ¬ n = 8 := hv
  clear hv
  have q1 : ((n : Int) == 1) = false := by rw [beqI]; exact decide_eq_false (by omega)
  have q3 : ((n : Int) == 3) = false := by rw [beqI]; exact decide_eq_false (by omega)
  have q5 : ((n : Int) == 5) = false := by rw [beqI]; exact decide_eq_false (by omega)
  have q6 : ((n : Int) == 6) = false := by rw [beqI]; exact decide_eq_false (by omega)
  have q7 : ((n : Int) == 7) = false := by rw [beqI]; exact decide_eq_false (by omega)
  have q8 : ((n : Int) == 8) = false := by rw [beqI]; exact decide_eq_false (by omega)
  have HV := Lib.hid (show typN n = 0 from by unfold typN; rw [if_neg (by omega), if_neg (by omega), if_neg (by omega)])
  go_enter Tryd.func18, Tryd.ntmps18
  go_wp2_with (fail)
  go_ret
  exact ⟨by rw [HV.out]; rfl, HB.out⟩
theorem refNum_same (s : ByteArray) (a n : Nat) (w : World) (hs : s.size ≤ maxLen) (h1 : 1 ≤ n) (h8 : n ≤ 8) (ha : a + n ≤ s.size) : Calls Tryd.prog 24 #[.string s, .int .i64 (a : Int), .int .i64 (n : Int)] w fun e w' => e = .returned (.int .i64 (numS s a n : Int)) ∧ w = w' := by
  have HC := Lib.hid (refBig_any s a n w hs)
  have hk : okB s a n = true := okB_yes ⟨by omega, by omega, by omega, by omega⟩
  have HR := Lib.hid (show bigR s a n = big s a n from bigR_yes hk)
  have hlt := big_lt s a n
  have hp := pow_le8 n h8
  have HK := Lib.hid hk
  clear hk
  go_enter Tryd.func24, Tryd.ntmps24
  go_wp2_with (fail)
  refine HC.out.mono ?_; rintro e w1 ⟨rfl, rfl⟩
  clear HC
  rw [HR.out, HK.out]
  by_cases hg : 1099511627776 < big s a n
  · have q : decide ((1099511627776 : Int) < (big s a n : Int)) = true := decide_eq_true (by omega)
    have q2 : (1099511627776 : Int) < (big s a n : Int) := by omega
    have HV := Lib.hid (show numS s a n = 1099511627776 by unfold numS; rw [if_pos hg])
    clear hg
    generalize big s a n = x at *
    go_wp2_with (fail)
    go_ret
    exact ⟨by rw [HV.out]; rfl, rfl⟩
  · have q : decide ((1099511627776 : Int) < (big s a n : Int)) = false := decide_eq_false (by omega)
    have q2 : ¬ (1099511627776 : Int) < (big s a n : Int) := by omega
    have HV := Lib.hid (show numS s a n = big s a n by unfold numS; rw [if_neg hg])
    have hw : IntKind.i64.wrap (big s a n : Int) = (big s a n : Int) := IntWalk.i64_in _ (by omega)
    generalize big s a n = x at *
    clear hg
    go_wp2_with (fail)
    go_ret
    exact ⟨by rw [HV.out]; rfl, rfl⟩
theorem refNum_any (s : ByteArray) (a n : Nat) (w : World) (hs : s.size ≤ maxLen) (h1 : 1 ≤ n) (h8 : n ≤ 8) (ha : a + n ≤ s.size) : Calls Tryd.prog 24 #[.string s, .int .i64 (a : Int), .int .i64 (n : Int)] w fun e w' => e = .returned (.int .i64 (numS s a n : Int)) ∧ Below w.heap.size w w' :=
  (refNum_same s a n w hs h1 h8 ha).mono fun _ _ h => ⟨h.1, h.2 ▸ Below.refl _ _⟩
end Go.Proofs.YtaachlijpgmjeaaDoor
