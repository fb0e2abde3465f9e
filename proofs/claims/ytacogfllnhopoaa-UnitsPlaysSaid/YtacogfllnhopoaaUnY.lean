/- Two lists of texts that are alike. -/
import Derived.Test.YtacogfllnhopoaaUnX
namespace Go.Proofs.Ytacogfllnhopoaa
open Go.RowKit Go.Maps
theorem row_text {w : World} {B c : Nat} {A : Option Addr} {hs : List ByteArray} (h : w.ownsRow B 9 1 (.slice A hs.length c) hs.length (hs.map .string)) {k : Nat} {x : ByteArray} (hx : hs[k]? = some x) : ∃ g, A = some ⟨g, 0, none⟩ ∧ w.cell? ⟨g, k, none⟩ = some (.string x) := by
  have hk : k < hs.length := (List.getElem?_eq_some_iff.1 hx).1
  rcases h.2 with ⟨_, h0⟩ | ⟨g, cap, cur, he, hb, hg, hnc, hm, hs', ht⟩
  · omega
  · cases he
    refine ⟨g, rfl, ?_⟩
    rw [Blk.cell (show Blk w g 9 cur from hg)]
    have := congrArg (fun z => z[k]?) ht
    simp only [List.getElem?_take] at this
    rw [if_pos (by omega)] at this
    rw [← Array.getElem?_toList, this, List.getElem?_map, hx]
    rfl
theorem texts_same (w : World) {B1 B2 c1 c2 : Nat} {A1 A2 : Option Addr} (hs : List ByteArray) (h1 : w.ownsRow B1 9 1 (.slice A1 hs.length c1) hs.length (hs.map .string)) (h2 : w.ownsRow B2 9 1 (.slice A2 hs.length c2) hs.length (hs.map .string)) (hl : hs.length ≤ 1000000) :
    Calls Try.prog 16 #[.slice A1 hs.length c1, .slice A2 hs.length c2] w fun e w' => e = .returned (.bool true) ∧ Below w.heap.size w w' := by
  have H1 := Lib.hid (fun k x (hx : hs[k]? = some x) => row_text h1 hx); have H2 := Lib.hid (fun k x (hx : hs[k]? = some x) => row_text h2 hx); have HL := Lib.hid hl
  clear h1 h2 hl
  have hnn : ((hs.length : Int) != (hs.length : Int)) = false := by simp
  go_enter Try.func16, Try.ntmps16
  go_wp2
  go_loopw [5] (fun i wr => ∃ (k : Nat), k ≤ hs.length ∧ i = .int .i64 (k : Int) ∧ Hid (Below w.heap.size w wr)) (fun i _ => hs.length - (intOf i).toNat)
  case atStart => exact ⟨0, by omega, rfl, Lib.hid (Below.refl _ _)⟩
  case round =>
    obtain ⟨k, hk, rfl, HB⟩ := hrel
    by_cases hlt : k < hs.length
    · have hki : (k : Int) < (hs.length : Int) := by omega
      obtain ⟨x, hx⟩ : ∃ x, hs[k]? = some x := ⟨_, List.getElem?_eq_getElem hlt⟩
      obtain ⟨g1, rfl, c1'⟩ := H1.out k x hx
      obtain ⟨g2, rfl, c2'⟩ := H2.out k x hx
      have d1 := (World.cell?_of_block (a := ⟨g1, k, none⟩) (HB.out.block g1 (World.block_lt_of_cell? w _ c1'))).trans c1'
      have d2 := (World.cell?_of_block (a := ⟨g2, k, none⟩) (HB.out.block g2 (World.block_lt_of_cell? w _ c2'))).trans c2'
      have hwr : IntKind.i64.wrap ((k : Int) + 1) = (k : Int) + 1 := IntWalk.i64_in _ (by have := HL.out; omega)
      have hee : (x.toList != x.toList) = false := by simp
      have HK := Lib.hid hlt
      clear hx c1' c2' hlt hk
      go_wp2
      go_region
      all_goals (
        go_wp2
        go_roundw
        case rel => exact ⟨k + 1, HK.out, by go_num, Lib.hid HB.out.drew⟩
        case measure => simp [intOf]; have := HK.out; omega)
    · obtain rfl : k = hs.length := by omega
      go_wp2
      go_ret
      exact ⟨rfl, HB.out⟩
end Go.Proofs.Ytacogfllnhopoaa
