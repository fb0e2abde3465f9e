/- The writes as a text, by the document's own words. -/
import Derived.Test.YtoejfkalgmdjcaaDoorFrameBytes
import Derived.Deep.Cut
import Derived.Deep.RegionHeld3
namespace Go.Proofs.YtoejfkalgmdjcaaDoor
open Go.RowKit
theorem refWrites_many (A : Option Addr) (c : Nat) (l : List Wr) (w : World) (h : 80 < l.length) :
    Calls Tryd.prog 17 #[.slice A l.length c] w fun e w' => e = .returned (.tuple #[.string ⟨#[]⟩, .int .i64 3]) ∧ w = w' := by
  have hi : (80 : Int) < l.length := by omega
  go_enter Tryd.func17, Tryd.ntmps17
  go_wp2
  go_ret2
  exact ⟨rfl, rfl⟩
/-- Of the first loop: the first k writes are right. -/
def R1At (w : World) (l : List Wr) (i : Value) (wr : World) : Prop := ∃ k : Nat, i = .int .i64 k ∧ k ≤ l.length ∧ (l.take k).all okW = true ∧ Below w.heap.size w wr
/-- Of the second loop: the first k writes are written. -/
def R2At (w : World) (l : List Wr) (v i : Value) (wr : World) : Prop :=
  ∃ k g cap : Nat, i = .int .i64 k ∧ k ≤ l.length ∧ v = .slice (some ⟨g, 0, none⟩) (accW l k).size cap ∧ OwnB wr w.heap.size g cap (accW l k) ∧ Below w.heap.size w wr
set_option maxRecDepth 100000 in
set_option maxHeartbeats 600000 in
theorem refWrites_in (A : Option Addr) (c : Nat) (l : List Wr) (w : World) (hl : Wrs w A l) (h : l.length ≤ 80) :
    Calls Tryd.prog 17 #[.slice A l.length c] w fun e w' => e = .returned (wroteV l) ∧ Below w.heap.size w w' := by
  have hi : ¬ (80 : Int) < l.length := by omega
  have HL := Lib.hid hl; clear hl
  go_enter Tryd.func17, Tryd.ntmps17
  go_wp2_with (fail)
  go_loopw [4] (fun i wr => R1At w l i wr) (fun i _ => l.length - (intOf i).toNat)
  case atStart => exact ⟨0, rfl, Nat.zero_le _, rfl, Below.refl _ _⟩
  case round =>
    obtain ⟨k, rfl, hk, hall, hbl⟩ := hrel
    have HBL := Lib.hid hbl; clear hbl
    have HAL := Lib.hid hall; clear hall
    by_cases hlt : k < l.length
    · obtain ⟨b, o, i, s, rfl, hat, c1, c2⟩ := (HL.out.below HBL.out).at_ hlt
      have HAT := Lib.hid hat; clear hat
      have hki : (k : Int) < l.length := by omega
      by_cases hgood : 0 ≤ i ∧ i < 8192 ∧ s.size = 512
      · obtain ⟨h0, h1, h2⟩ := hgood
        have HN := Lib.hid (all_next HAL.out HAT.out (decide_eq_true ⟨h0, h1, h2⟩))
        have hh2 : ¬ i < 0 := by omega
        have hh3 : ¬ (8192 : Int) ≤ i := by omega
        have hh4 : (s.size : Int) = 512 := by omega
        go_wp2_with (fail)
        exact ⟨⟨k + 1, by go_num, by omega, HN.out, HBL.out⟩, by simp [intOf]; omega⟩
      · have HNO := Lib.hid (all_bad HAT.out (decide_eq_false hgood))
        by_cases hh2 : i < 0
        · go_wp2
          go_ret2
          exact ⟨by rw [wroteV_bad h HNO.out]; rfl, HBL.out⟩
        · by_cases hh3 : (8192 : Int) ≤ i
          · go_wp2
            go_ret2
            exact ⟨by rw [wroteV_bad h HNO.out]; rfl, HBL.out⟩
          · have hh4 : ¬ (s.size : Int) = 512 := by omega
            go_wp2
            go_ret2
            exact ⟨by rw [wroteV_bad h HNO.out]; rfl, HBL.out⟩
    · obtain rfl : k = l.length := by omega
      have hall := HAL.out
      rw [List.take_length] at hall
      have HALL := Lib.hid hall; clear hall
      go_wp2_with (fail)
      refine (refPutBig_any l.length 4 _ (by omega)).mono ?_; rintro e w1 ⟨rfl, hb1⟩
      have H1 := Lib.hid (HBL.out.trans (hb1.mono HBL.out.size)); clear hb1
      have hcv := Lib.run_convert_string_bytes (P := Tryd.prog) w1 9 53 5 (putHi l.length 4) Tryd.underlying9 Tryd.underlying53 Tryd.underlying5
      have HOW := Lib.hid (own_conv w1 (putHi l.length 4) w.heap.size H1.out.size)
      have HBW := Lib.hid (H1.out.trans ((bytesWorld_below w1 (putHi l.length 4)).mono H1.out.size))
      go_wp2_with (fail)
      clear hcv
      go_loopw [5, 6] (fun v i wr => R2At w l v i wr) (fun _ i _ => l.length - (intOf i).toNat)
      case atStart =>
        have e : accW l 0 = putHi l.length 4 := by unfold accW; rw [List.take_zero]; exact app_nil _
        exact ⟨0, w1.heap.size, _, rfl, Nat.zero_le _, by rw [e], by rw [e]; exact HOW.out, HBW.out⟩
      case round =>
        obtain ⟨k, g, cap, rfl, hk, rfl, hown, hbl⟩ := hrel
        have HO := Lib.hid hown; clear hown
        have HB2 := Lib.hid hbl; clear hbl
        by_cases hlt : k < l.length
        · obtain ⟨b, o, i, s, rfl, hat, c1, c2⟩ := (HL.out.below HB2.out).at_ hlt
          have HAT := Lib.hid hat; clear hat
          have hki : (k : Int) < l.length := by omega
          obtain ⟨g0, g1, g2⟩ := all_mem HALL.out HAT.out
          dsimp only at g0 g1 g2
          obtain ⟨n, rfl⟩ := Int.eq_ofNat_of_zero_le g0
          have hsz := acc_size l k (take_all HALL.out k)
          have q4 := putHi4 n
          have hnext := acc_next l k _ HAT.out
          have HNX := Lib.hid hnext; clear hnext
          have lbB := World.block_lt_of_cell? _ _ c1
          have lbB2 := World.block_lt_of_cell? _ _ c2
          have g1i : (n : Int) < 8192 := g1
          have hcvw : IntKind.u64.wrap (n : Int) = (n : Int) := by rw [IntKind.wrap_u64]; omega
          have hkw : IntKind.i64.wrap (k : Int) = (k : Int) := by rw [IntKind.wrap_i64]; omega
          have g2n : s.size = 512 := g2
          clear g1 g2
          have lb : b < w.heap.size := by obtain ⟨b', o', i', s', hA, _, z1, _⟩ := HL.out.at_ hlt; cases hA; exact World.block_lt_of_cell? _ _ z1
          have hs1 : (accW l k).size + (putHi n 4).size ≤ 100000000 := by omega
          have hs2 : (accW l k ++ putHi n 4).size + s.size ≤ 100000000 := by rw [ByteArray.size_append]; omega
          go_upto_region 12 with (fail)
          go_region_held3 (fun v => v.cell? ⟨b, o + k * 2, none⟩ = some (.int .i64 n) ∧ v.cell? ⟨b, o + k * 2 + 1, none⟩ = some (.string s)) (first | exact ⟨c1, c2⟩ | exact ⟨d1, d2⟩ | exact ⟨e1, e2⟩ | exact ⟨f1, f2⟩) (first
            | (go_at_call 24; refine (refPutBig_any n 4 _ (by omega)).mono ?_; rintro e w3 ⟨rfl, hb3⟩
               have d1 := (hb3.cell (p := ⟨b, o + k * 2, none⟩) lbB).trans c1
               have d2 := (hb3.cell (p := ⟨b, o + k * 2 + 1, none⟩) lbB2).trans c2
               have T3 := Lib.hid (HO.out.drew.below hb3)
               have U3 := Lib.hid (HB2.out.drew.trans (hb3.mono HB2.out.drew.size)))
            | (refine step_str rfl (.tmp 50) (.tmp 57) rfl w.heap.size g cap (accW l k) (putHi n 4) rfl T3.out rfl hs1 U3.out.size ?_
               intro g4 c4 w4 ho4 hb4
               have e1 := (hb4.cell (p := ⟨b, o + k * 2, none⟩) lb).trans d1
               have e2 := (hb4.cell (p := ⟨b, o + k * 2 + 1, none⟩) lb).trans d2
               have T4 := Lib.hid ho4
               have U4 := Lib.hid (U3.out.trans hb4)
               clear ho4 hb4)
            | (refine step_str rfl (.tmp 58) (.tmp 63) rfl w.heap.size g4 c4 (accW l k ++ putHi n 4) s rfl T4.out rfl hs2 U4.out.size ?_
               intro g5 c5 w5 ho5 hb5
               have f1 := (hb5.cell (p := ⟨b, o + k * 2, none⟩) lb).trans e1
               have f2 := (hb5.cell (p := ⟨b, o + k * 2 + 1, none⟩) lb).trans e2
               have T5 := Lib.hid ho5
               have U5 := Lib.hid (U4.out.trans hb5)
               clear ho5 hb5)
            | fail)
          all_goals (go_wp2_with (fail); exact ⟨⟨k + 1, g5, c5, by go_num, by omega, by rw [← HNX.out, show (accW l k ++ putHi ((n : Int), s).1.toNat 4 ++ ((n : Int), s).2).size = (accW l k).size + 4 + 512 from by rw [ByteArray.size_append, ByteArray.size_append]; show (accW l k).size + (putHi n 4).size + s.size = _; rw [q4, g2n]], by rw [← HNX.out]; exact T5.out, U5.out⟩, by simp [intOf]; omega⟩)
        · obtain rfl : k = l.length := by omega
          have hacc : accW l l.length = textW l := by unfold accW textW; rw [List.take_length]
          have hcv2 := bytes_str (cap := cap) HO.out.at_
          have HC := Lib.hid hacc; clear hacc
          go_wp2
          go_ret2
          exact ⟨by rw [wroteV_ok h HALL.out, ← HC.out]; rfl, HB2.out⟩
theorem refWrites_any (A : Option Addr) (c : Nat) (l : List Wr) (w : World) (hl : Wrs w A l) :
    Calls Tryd.prog 17 #[.slice A l.length c] w fun e w' => e = .returned (wroteV l) ∧ Below w.heap.size w w' := by
  by_cases h : 80 < l.length
  · rw [wroteV_many h]
    exact (refWrites_many A c l w h).mono fun e w' ⟨he, hw⟩ => ⟨he, by rw [← hw]; exact Below.refl _ _⟩
  · exact refWrites_in A c l w hl (by omega)
end Go.Proofs.YtoejfkalgmdjcaaDoor
