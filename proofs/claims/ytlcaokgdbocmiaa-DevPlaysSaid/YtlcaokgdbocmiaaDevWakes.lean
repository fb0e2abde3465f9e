/- wakes: what each statement asks besides. -/
import Derived.Test.YtlcaokgdbocmiaaDevDuo
namespace Go.Proofs.Ytlcaokgdbocmiaa
open Go.RowKit
theorem blk_eq (b : UInt8) : bytesS 512 b = ⟨Array.replicate 512 b⟩ := rfl
theorem new_due (n : Nat) : (St.new n).due = false := rfl
theorem new_why (n : Nat) (i k : Int) (h : 0 ≤ i ∧ 0 ≤ k ∧ i + k ≤ n) : (St.new n).why n i k = 0 := why_ok (by omega) rfl
def wk1 : St := (St.new 4).oped.hold (1 + 0) (bytesS 512 97)
theorem wk_wr : (St.new 4).wr 1 (bytesS 512 97) 0 1 = (wk1, true) := by
  rw [wr_go (new_due 4), sec_whole (bytesS_size 512 97)]
  rfl
theorem wk_seen : catS (part wk1.seen 1 1) = bytesS 512 97 := by
  have : wk1.seen = (St.new 4).seen.set 1 (bytesS 512 97) := seen_hold _ _ _
  rw [this]
  exact catS_one _
theorem wk_torn : catS (part (wk1.crash []).seen 1 1) = bytesS 512 0 := by
  have : (wk1.crash []).seen = (St.new 4).safe.set 1 (mixS 0 (bytesS 512 97) (bytesS 512 0)) := rfl
  rw [this, mix_none (bytesS_size 512 0)]
  exact catS_one _
theorem wakes_any (w : World) : Calls Try.prog 31 #[] w fun e w' => e = .returned (.bool true) ∧ Below w.heap.size w w' := by
  have hB : w.heap.size ≤ w.heap.size := Nat.le_refl _
  go_enter Try.func31, Try.ntmps31
  go_wp2_with (fail)
  refine (d_new hB framed_no (Duo.start w) 4 (by omega) (by omega)).mono ?_
  rintro e w1 ⟨p, rfl, h1⟩
  have H1 := Lib.hid h1
  clear h1
  go_wp2_with (fail)
  refine (block_any 97 w1).mono ?_
  rintro e w2 ⟨rfl, hb2⟩
  have H2 := Lib.hid (H1.out.more hB (framed_dv _ _ _) framed_no hb2)
  clear hb2
  have HW := d_write hB framed_no H2.out 1 1 (bytesS 512 97) (bytesS_size 512 97) (new_why 4 1 1 (by omega)) (by decide)
  rw [wk_wr] at HW
  have HW := Lib.hid HW
  go_wp2_with (fail)
  refine HW.out.mono ?_
  rintro e w3 ⟨rfl, h3⟩
  have H3 := Lib.hid h3
  clear h3 HW H2 H1
  go_wp2_with (fail)
  have HR := d_read hB framed_no H3.out 1 1 (why_ok (by omega) rfl)
  rw [wk_seen] at HR
  refine HR.mono ?_
  rintro e w4 ⟨rfl, h4⟩
  have H4 := Lib.hid h4
  clear h4 HR H3
  go_wp2_with (fail)
  refine (d_crash hB framed_no H4.out (Below.refl _ _) (by decide) none 0 [] (nums_nil _) (fun _ a ha => by cases ha) (by decide)).mono ?_
  rintro e w5 ⟨rfl, h5⟩
  have H5 := Lib.hid h5
  clear h5 H4
  go_wp2_with (fail)
  have HR := d_read hB framed_no H5.out 1 1 (why_ok (by omega) rfl)
  rw [wk_torn] at HR
  refine HR.mono ?_
  rintro e w6 ⟨rfl, h6⟩
  have H6 := Lib.hid h6
  clear h6 HR H5
  go_wp2_with (fail)
  refine (block_any 97 w6).mono ?_
  rintro e w7 ⟨rfl, hb7⟩
  have H7 := Lib.hid (H6.out.more hB (framed_dv _ _ _) framed_no hb7)
  clear hb7 H6
  go_wp2_with (fail)
  refine (zeros_any 512 (by omega) w7).mono ?_
  rintro e w8 ⟨rfl, hb8⟩
  have H8 := Lib.hid (H7.out.more hB (framed_dv _ _ _) framed_no hb8)
  clear hb8 H7
  go_wp2_with (fail)
  refine (d_ops H8.out).mono ?_
  rintro e w9 ⟨rfl, rfl⟩
  go_wp2_with (fail)
  refine (d_held H8.out).mono ?_
  rintro e w9 ⟨rfl, rfl⟩
  go_wp2_with (fail)
  go_ret
  obtain ⟨F, G, hd⟩ := H8.out
  exact ⟨rfl, hd.below⟩
end Go.Proofs.Ytlcaokgdbocmiaa
