/- Two equal lists are equal: headgatekeep.Ints. -/
import Derived.Test.YtlcaokgdbocmiaaDevPair
import Derived.RegionTactic
import Derived.BigRegion
namespace Go.Proofs.Ytlcaokgdbocmiaa
open Go.RowKit
theorem ints_any (w : World) (A A' : Option Addr) (c c' : Nat) (ks : List Int) (h1 : Nums w A ks) (h2 : Nums w A' ks) (hm : ks.length * 8 ≤ 140737488355328) :
    Calls Try.prog 24 #[.slice A ks.length c, .slice A' ks.length c'] w fun e w' => e = .returned (.bool true) ∧ Below w.heap.size w w' := by
  have H1 := Lib.hid h1
  have H2 := Lib.hid h2
  clear h1 h2
  go_enter Try.func24, Try.ntmps24
  go_wp2_with (fail)
  go_loopw [5] (fun cv wr => ∃ i : Nat, cv = .int .i64 (i : Int) ∧ i ≤ ks.length ∧ Below w.heap.size w wr) (fun cv _ => ks.length - (intOf cv).toNat)
  case atStart => exact ⟨0, rfl, Nat.zero_le _, Below.refl _ _⟩
  case round =>
    obtain ⟨i, rfl, hi, hb⟩ := hrel
    have HB := Lib.hid hb
    clear hb
    by_cases hlt : i < ks.length
    · obtain ⟨b, o, v, rfl, hv, hc0⟩ := H1.out.at_ hlt
      obtain ⟨b', o', v', rfl, hv', hc0'⟩ := H2.out.at_ hlt
      obtain rfl : v = v' := Option.some.inj (hv.symm.trans hv')
      have hc1 := (HB.out.cell (World.block_lt_of_cell? _ _ hc0)).trans hc0
      have hc2 := (HB.out.cell (World.block_lt_of_cell? _ _ hc0')).trans hc0'
      clear hv hv' hc0 hc0'
      go_wp2_with (fail)
      go_region
      go_wp2_with (fail)
      exact ⟨⟨i + 1, by go_num, hlt, HB.out.drew⟩, by simp [intOf]; omega⟩
    · obtain rfl : i = ks.length := by omega
      go_wp2_with (fail)
      go_ret
      exact ⟨rfl, HB.out⟩
end Go.Proofs.Ytlcaokgdbocmiaa
