/- The types' numbers, by a loop. -/
import Derived.Test.YtaachlijpgmjeaaDoorCdF
namespace Go.Proofs.YtaachlijpgmjeaaDoor
open Go.RowKit
theorem num_hit {t : Int} {k : Nat} (ht : t ≠ 0) (h1 : 1 ≤ k) (h8 : k ≤ 8) (h : typN k = t) : numN t = k := by
  subst h
  have : k = 1 ∨ k = 2 ∨ k = 3 ∨ k = 4 ∨ k = 5 ∨ k = 6 ∨ k = 7 ∨ k = 8 := by omega
  rcases this with rfl | rfl | rfl | rfl | rfl | rfl | rfl | rfl <;> first | rfl | exact absurd rfl ht
theorem num_miss {t : Int} (h : t = 0 ∨ ∀ j : Nat, 1 ≤ j → j < 9 → typN j ≠ t) : numN t = 0 := by
  rcases h with rfl | h
  · rfl
  · have a1 := h 1 (by decide) (by decide)
    have a3 := h 3 (by decide) (by decide)
    have a5 := h 5 (by decide) (by decide)
    have a6 := h 6 (by decide) (by decide)
    have a7 := h 7 (by decide) (by decide)
    have a8 := h 8 (by decide) (by decide)
    have e1 : typN ((1 : Nat) : Int) = 1 := rfl
    have e3 : typN ((3 : Nat) : Int) = 2 := rfl
    have e5 : typN ((5 : Nat) : Int) = 3 := rfl
    have e6 : typN ((6 : Nat) : Int) = 4 := rfl
    have e7 : typN ((7 : Nat) : Int) = 5 := rfl
    have e8 : typN ((8 : Nat) : Int) = 6 := rfl
    unfold numN
    rw [if_neg (by omega), if_neg (by omega), if_neg (by omega)]
set_option maxRecDepth 100000 in
theorem refNumN_any (t : Int) (w : World) : Calls Tryd.prog 20 #[.int .i64 t] w fun e w' => e = .returned (.int .i64 (numN t)) ∧ Below w.heap.size w w' := by
  have HB := Lib.hid (Below.refl w.heap.size w)
  cases q0 : (t != 0) with
  | false =>
    have HV := Lib.hid (num_miss (t := t) (.inl (by simpa using q0)))
    go_enter Tryd.func20, Tryd.ntmps20
    go_wp2_with (fail)
    go_loopw [3] (fun i wr => ∃ k : Nat, 1 ≤ k ∧ k ≤ 9 ∧ i = .int .i64 k ∧ Hid (Below w.heap.size w wr)) (fun i _ => 9 - (intOf i).toNat)
    case atStart => exact ⟨1, by decide, by decide, rfl, HB⟩
    case round =>
      obtain ⟨k, h1, h9, rfl, HR⟩ := hrel
      by_cases h8 : (k : Int) ≤ 8
      · go_wp2_with (fail)
        go_roundw
        case rel => exact ⟨k + 1, by omega, by omega, by go_num, HR⟩
        case measure => simp [intOf]; omega
      · go_wp2_with (fail)
        go_ret
        exact ⟨by rw [HV.out]; rfl, HR.out⟩
  | true =>
    have ht : t ≠ 0 := by simpa using q0
    have HT := Lib.hid ht
    clear ht
    have HC := Lib.hid (fun (n : Int) v => refTyp_any n v)
    go_enter Tryd.func20, Tryd.ntmps20
    go_wp2_with (fail)
    go_loopw [3] (fun i wr => ∃ k : Nat, 1 ≤ k ∧ k ≤ 9 ∧ i = .int .i64 k ∧ Hid (Below w.heap.size w wr) ∧ Hid (∀ j : Nat, 1 ≤ j → j < k → typN j ≠ t)) (fun i _ => 9 - (intOf i).toNat)
    case atStart => exact ⟨1, by decide, by decide, rfl, HB, Lib.hid (fun j h1 h2 => by omega)⟩
    case round =>
      obtain ⟨k, h1, h9, rfl, HR, HJ⟩ := hrel
      by_cases h8 : (k : Int) ≤ 8
      · go_wp2_with (fail)
        refine (HC.out (k : Int) wr).mono ?_; rintro e w1 ⟨rfl, hb⟩
        have HR1 := Lib.hid (HR.out.trans (hb.mono HR.out.size))
        clear hb
        cases q1 : (typN (k : Int) == t) with
        | true =>
          have HV := Lib.hid (num_hit HT.out h1 (by omega) (by simpa using q1))
          go_wp2_with (fail)
          go_ret
          exact ⟨by rw [HV.out]; rfl, HR1.out⟩
        | false =>
          have HJ1 := Lib.hid (show ∀ j : Nat, 1 ≤ j → j < k + 1 → typN j ≠ t from fun j a b => by
            by_cases hj : j = k
            · rw [hj]; simpa using q1
            · exact HJ.out j a (by omega))
          go_wp2_with (fail)
          go_roundw
          case rel => exact ⟨k + 1, by omega, by omega, by go_num, HR1, HJ1⟩
          case measure => simp [intOf]; omega
      · have HV := Lib.hid (num_miss (t := t) (.inr (fun j a b => HJ.out j a (by omega))))
        go_wp2_with (fail)
        go_ret
        exact ⟨by rw [HV.out]; rfl, HR.out⟩
end Go.Proofs.YtaachlijpgmjeaaDoor
