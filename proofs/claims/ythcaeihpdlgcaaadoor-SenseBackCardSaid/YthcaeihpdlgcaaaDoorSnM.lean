/- The small functions of the code over a sense and a row of its table. -/
import Derived.Test.YthcaeihpdlgcaaaDoorSnG
import Derived.Test.YthcaeihpdlgcaaaDoorWrites
import Derived.Deep.RegionHeld3
namespace Go.Proofs.YthcaeihpdlgcaaaDoor
open Go.RowKit
def fitB (n : Int) (b : Nat) : Bool := decide (0 ≤ n ∧ n < 2 ^ b)
theorem fits4 (n : Int) (w : World) : Calls Tryd.prog 29 #[.int .i64 n, .int .i64 4] w fun e w' => e = .returned (.bool (fitB n 4)) ∧ w' = w := by
  by_cases h0 : 0 ≤ n
  · by_cases h1 : n < 16
    · skip
      have HV := Lib.hid (show fitB n 4 = true from decide_eq_true ⟨h0, h1⟩)
      go_enter Tryd.func29, Tryd.ntmps29
      go_wp2_with (fail)
      go_ret
      exact ⟨by rw [HV.out]; rfl, rfl⟩
    · skip
      have HV := Lib.hid (show fitB n 4 = false from decide_eq_false (fun h => h1 h.2))
      go_enter Tryd.func29, Tryd.ntmps29
      go_wp2_with (fail)
      go_ret
      exact ⟨by rw [HV.out]; rfl, rfl⟩
  · skip
    have HV := Lib.hid (show fitB n 4 = false from decide_eq_false (fun h => h0 h.1))
    go_enter Tryd.func29, Tryd.ntmps29
    go_wp2_with (fail)
    go_ret
    exact ⟨by rw [HV.out]; rfl, rfl⟩
theorem fits8 (n : Int) (w : World) : Calls Tryd.prog 29 #[.int .i64 n, .int .i64 8] w fun e w' => e = .returned (.bool (fitB n 8)) ∧ w' = w := by
  by_cases h0 : 0 ≤ n
  · by_cases h1 : n < 256
    · skip
      have HV := Lib.hid (show fitB n 8 = true from decide_eq_true ⟨h0, h1⟩)
      go_enter Tryd.func29, Tryd.ntmps29
      go_wp2_with (fail)
      go_ret
      exact ⟨by rw [HV.out]; rfl, rfl⟩
    · skip
      have HV := Lib.hid (show fitB n 8 = false from decide_eq_false (fun h => h1 h.2))
      go_enter Tryd.func29, Tryd.ntmps29
      go_wp2_with (fail)
      go_ret
      exact ⟨by rw [HV.out]; rfl, rfl⟩
  · skip
    have HV := Lib.hid (show fitB n 8 = false from decide_eq_false (fun h => h0 h.1))
    go_enter Tryd.func29, Tryd.ntmps29
    go_wp2_with (fail)
    go_ret
    exact ⟨by rw [HV.out]; rfl, rfl⟩
theorem fits32 (n : Int) (w : World) : Calls Tryd.prog 29 #[.int .i64 n, .int .i64 32] w fun e w' => e = .returned (.bool (fitB n 32)) ∧ w' = w := by
  by_cases h0 : 0 ≤ n
  · by_cases h1 : n < 4294967296
    · skip
      have HV := Lib.hid (show fitB n 32 = true from decide_eq_true ⟨h0, h1⟩)
      go_enter Tryd.func29, Tryd.ntmps29
      go_wp2_with (fail)
      go_ret
      exact ⟨by rw [HV.out]; rfl, rfl⟩
    · skip
      have HV := Lib.hid (show fitB n 32 = false from decide_eq_false (fun h => h1 h.2))
      go_enter Tryd.func29, Tryd.ntmps29
      go_wp2_with (fail)
      go_ret
      exact ⟨by rw [HV.out]; rfl, rfl⟩
  · skip
    have HV := Lib.hid (show fitB n 32 = false from decide_eq_false (fun h => h0 h.1))
    go_enter Tryd.func29, Tryd.ntmps29
    go_wp2_with (fail)
    go_ret
    exact ⟨by rw [HV.out]; rfl, rfl⟩
theorem isPlace_any (n : Int) (w : World) : Calls Tryd.prog 30 #[.int .i64 n] w fun e w' => e = .returned (.bool (fitB n 32)) ∧ w' = w := by
  go_enter Tryd.func30, Tryd.ntmps30
  go_wp2_with (fail)
  refine (fits32 n w).mono ?_; rintro e v1 ⟨rfl, rfl⟩
  go_wp2_with (fail)
  go_ret
  exact ⟨rfl, rfl⟩
theorem may_fits (x : Sn) : mayX x = (fitB x.k 4 && fitB x.a 8 && fitB x.q 8 && ((x.t == -1) || fitB x.t 32)) := by
  unfold mayX fitB
  rw [Bool.eq_iff_iff]
  simp only [decide_eq_true_eq, Bool.and_eq_true, Bool.or_eq_true, beq_iff_eq]
  omega
set_option maxRecDepth 100000 in
theorem isSense_any (x : Sn) (w : World) : Calls Tryd.prog 17 #[snV x] w fun e w' => e = .returned (.bool (mayX x)) ∧ Below w.heap.size w w' := by
  have HR0 := Lib.hid (Blk.new w 23 (snC x))
  have HB0 := Lib.hid ((Below.refl w.heap.size w).alloc (Nat.le_refl _) (.cells (snC x) 23))
  have HV := Lib.hid (may_fits x)
  go_enter Tryd.func17, Tryd.ntmps17
  go_upto_region 1 with (fail)
  change Code.wp _ _ _ _ (w.alloc (.cells (snC x) 23))
  generalize w.alloc (.cells (snC x) 23) = v0 at *
  obtain ⟨p, hp⟩ : ∃ p, p = w.heap.size := ⟨_, rfl⟩
  rw [← hp] at HR0 ⊢
  clear hp
  have c0 : v0.cell? ⟨p, 0, none⟩ = some (.int .i64 x.k) := HR0.out.cell 0
  have c1 : v0.cell? ⟨p, 1, none⟩ = some (.int .i64 x.a) := HR0.out.cell 1
  have c2 : v0.cell? ⟨p, 2, none⟩ = some (.int .i64 x.q) := HR0.out.cell 2
  have c3 : v0.cell? ⟨p, 3, none⟩ = some (.int .i64 x.t) := HR0.out.cell 3
  cases q0 : fitB x.k 4 with
  | false =>
    have Q0 := Lib.hid q0; clear q0
    go_wp2_with (fail)
    refine (fits4 x.k _).mono ?_; rintro e _ ⟨rfl, rfl⟩
    rw [Q0.out]
    go_wp2_with (fail)
    go_ret
    exact ⟨by rw [HV.out, Q0.out]; rfl, HB0.out⟩
  | true =>
    have Q0 := Lib.hid q0; clear q0
    go_wp2_with (fail)
    refine (fits4 x.k _).mono ?_; rintro e _ ⟨rfl, rfl⟩
    rw [Q0.out]
    cases q1 : fitB x.a 8 with
    | false =>
      have Q1 := Lib.hid q1; clear q1
      go_wp2_with (fail)
      refine (fits8 x.a _).mono ?_; rintro e _ ⟨rfl, rfl⟩
      rw [Q1.out]
      go_wp2_with (fail)
      go_ret
      exact ⟨by rw [HV.out, Q0.out, Q1.out]; rfl, HB0.out⟩
    | true =>
      have Q1 := Lib.hid q1; clear q1
      go_wp2_with (fail)
      refine (fits8 x.a _).mono ?_; rintro e _ ⟨rfl, rfl⟩
      rw [Q1.out]
      cases q2 : fitB x.q 8 with
      | false =>
        have Q2 := Lib.hid q2; clear q2
        go_wp2_with (fail)
        refine (fits8 x.q _).mono ?_; rintro e _ ⟨rfl, rfl⟩
        rw [Q2.out]
        go_wp2_with (fail)
        go_ret
        exact ⟨by rw [HV.out, Q0.out, Q1.out, Q2.out]; rfl, HB0.out⟩
      | true =>
        have Q2 := Lib.hid q2; clear q2
        go_wp2_with (fail)
        refine (fits8 x.q _).mono ?_; rintro e _ ⟨rfl, rfl⟩
        rw [Q2.out]
        by_cases ht : x.t = -1
        · have HT := Lib.hid ht
          have q3 : (x.t == -1) = true := by rw [ht]; rfl
          have Q3 := Lib.hid q3; clear ht
          go_wp2_with (fail)
          go_ret
          exact ⟨by rw [HV.out, Q0.out, Q1.out, Q2.out, Q3.out]; rfl, HB0.out⟩
        · have q3 : (x.t == -1) = false := by simpa using ht
          have Q3 := Lib.hid q3; clear ht
          go_wp2_with (fail)
          refine (isPlace_any x.t _).mono ?_; rintro e _ ⟨rfl, rfl⟩
          go_wp2_with (fail)
          go_ret
          exact ⟨by rw [HV.out, Q0.out, Q1.out, Q2.out, Q3.out]; rfl, HB0.out⟩
end Go.Proofs.YthcaeihpdlgcaaaDoor
