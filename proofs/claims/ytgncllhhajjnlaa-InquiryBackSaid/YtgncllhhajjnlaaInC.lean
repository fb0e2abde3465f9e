/- The document's capacity and list of units. -/
import Derived.Test.YtgncllhhajjnlaaInB
namespace Go.Proofs.Ytgncllhhajjnlaa
open Go.RowKit
set_option maxRecDepth 100000 in
set_option maxHeartbeats 4000000 in
theorem cap_in (m : Nat) (hm : m < 4294967295) (w : World) : Calls Try.prog 12 #[.int .i64 ((m : Int) + 1)] w fun e w' => e = .returned (.string (putHi (m) ((4 : Nat) : Int) ++ putHi 512 ((4 : Nat) : Int))) ∧ Below w.heap.size w w' := by
  have HP := Lib.hid (fun v => refPutBig_any (m) ((4 : Nat) : Int) v (by omega))
  have HQ := Lib.hid (fun v => refPutBig_any 512 ((4 : Nat) : Int) v (by omega))
  have a1 : (putHi (m) ((4 : Nat) : Int)).size = 4 := putHi_size _ 4 (by decide) (by decide)
  have a2 : (putHi 512 ((4 : Nat) : Int)).size = 4 := putHi_size _ 4 (by decide) (by decide)
  have a3 : ¬ 9223372036854775807 < (putHi (m) ((4 : Nat) : Int)).size + (putHi 512 ((4 : Nat) : Int)).size := by omega
  have q0 : ¬ (m : Int) + 1 < 1 := by omega
  have q1 : ¬ (4294967296 : Int) ≤ (m : Int) + 1 := by omega
  have e0 : (m : Int) + 1 - 1 = (m : Int) := by omega
  have e1 : IntKind.i64.wrap (m : Int) = (m : Int) := IntWalk.i64_in _ (by omega)
  have e2 : IntKind.u64.wrap (m : Int) = (m : Int) := IntWalk.u64_in _ (by omega)
  clear hm
  generalize hB : (m : Int) + 1 = B at *
  clear hB
  generalize putHi m ((4 : Nat) : Int) = x1 at *
  generalize putHi 512 ((4 : Nat) : Int) = x2 at *
  go_enter Try.func12, Try.ntmps12
  go_wp2_with (fail)
  refine (HP.out _).mono ?_; rintro e w1 ⟨rfl, hb⟩
  have HB := Lib.hid hb; clear hb
  go_wp2_with (fail)
  refine (HQ.out _).mono ?_; rintro e w2 ⟨rfl, hb⟩
  replace HB := Lib.hid (HB.out.trans (hb.mono HB.out.size)); clear hb
  go_wp2_with (fail)
  go_ret
  exact ⟨rfl, HB.out⟩
set_option maxRecDepth 100000 in
set_option maxHeartbeats 4000000 in
theorem cap_lo (b : Int) (q0 : b < 1) (w : World) : Calls Try.prog 12 #[.int .i64 b] w fun e w' => e = .returned (.string (putHi (0) ((4 : Nat) : Int) ++ putHi 512 ((4 : Nat) : Int))) ∧ Below w.heap.size w w' := by
  have HP := Lib.hid (fun v => refPutBig_any (0) ((4 : Nat) : Int) v (by omega))
  have HQ := Lib.hid (fun v => refPutBig_any 512 ((4 : Nat) : Int) v (by omega))
  have a1 : (putHi (0) ((4 : Nat) : Int)).size = 4 := putHi_size _ 4 (by decide) (by decide)
  have a2 : (putHi 512 ((4 : Nat) : Int)).size = 4 := putHi_size _ 4 (by decide) (by decide)
  have a3 : ¬ 9223372036854775807 < (putHi (0) ((4 : Nat) : Int)).size + (putHi 512 ((4 : Nat) : Int)).size := by omega
  generalize putHi 0 ((4 : Nat) : Int) = x1 at *
  generalize putHi 512 ((4 : Nat) : Int) = x2 at *
  go_enter Try.func12, Try.ntmps12
  go_wp2_with (fail)
  refine (HP.out _).mono ?_; rintro e w1 ⟨rfl, hb⟩
  have HB := Lib.hid hb; clear hb
  go_wp2_with (fail)
  refine (HQ.out _).mono ?_; rintro e w2 ⟨rfl, hb⟩
  replace HB := Lib.hid (HB.out.trans (hb.mono HB.out.size)); clear hb
  go_wp2_with (fail)
  go_ret
  exact ⟨rfl, HB.out⟩
set_option maxRecDepth 100000 in
set_option maxHeartbeats 4000000 in
theorem cap_hi (b : Int) (q1 : 4294967296 ≤ b) (w : World) : Calls Try.prog 12 #[.int .i64 b] w fun e w' => e = .returned (.string (putHi (0) ((4 : Nat) : Int) ++ putHi 512 ((4 : Nat) : Int))) ∧ Below w.heap.size w w' := by
  have HP := Lib.hid (fun v => refPutBig_any (0) ((4 : Nat) : Int) v (by omega))
  have HQ := Lib.hid (fun v => refPutBig_any 512 ((4 : Nat) : Int) v (by omega))
  have a1 : (putHi (0) ((4 : Nat) : Int)).size = 4 := putHi_size _ 4 (by decide) (by decide)
  have a2 : (putHi 512 ((4 : Nat) : Int)).size = 4 := putHi_size _ 4 (by decide) (by decide)
  have a3 : ¬ 9223372036854775807 < (putHi (0) ((4 : Nat) : Int)).size + (putHi 512 ((4 : Nat) : Int)).size := by omega
  have q0 : ¬ b < 1 := by omega
  generalize putHi 0 ((4 : Nat) : Int) = x1 at *
  generalize putHi 512 ((4 : Nat) : Int) = x2 at *
  go_enter Try.func12, Try.ntmps12
  go_wp2_with (fail)
  refine (HP.out _).mono ?_; rintro e w1 ⟨rfl, hb⟩
  have HB := Lib.hid hb; clear hb
  go_wp2_with (fail)
  refine (HQ.out _).mono ?_; rintro e w2 ⟨rfl, hb⟩
  replace HB := Lib.hid (HB.out.trans (hb.mono HB.out.size)); clear hb
  go_wp2_with (fail)
  go_ret
  exact ⟨rfl, HB.out⟩
theorem refCap_any (b : Int) (w : World) : Calls Try.prog 12 #[.int .i64 b] w fun e w' => e = .returned (.string (capS b)) ∧ Below w.heap.size w w' := by
  unfold capS
  by_cases h0 : b < 1
  · rw [if_pos (Or.inl h0)]; exact cap_lo b h0 w
  · by_cases h1 : 4294967296 ≤ b
    · rw [if_pos (Or.inr h1)]; exact cap_hi b h1 w
    · rw [if_neg (by omega)]
      obtain ⟨m, rfl⟩ : ∃ m : Nat, b = (m : Int) + 1 := ⟨(b - 1).toNat, by omega⟩
      have e : ((m : Int) + 1 - 1).toNat = m := by omega
      rw [e]
      exact cap_in m (by omega) w
end Go.Proofs.Ytgncllhhajjnlaa
