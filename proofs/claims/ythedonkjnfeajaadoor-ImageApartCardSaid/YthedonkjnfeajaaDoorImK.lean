/- The statements' first call; tables in boxes. -/
import Derived.Test.YthedonkjnfeajaaDoorImZ
namespace Go.Proofs.YthedonkjnfeajaaDoor
open Go.RowKit
theorem good_zero : GoodP tZ := ⟨⟨Nat.zero_le _, fun x hx => (by cases hx), fun x hx => (by cases hx), List.Pairwise.nil⟩, .inl ⟨rfl, rfl⟩⟩
theorem u_zero : TlU tZ := ⟨by decide, by decide, fun x hx => (by cases hx)⟩
theorem goodB_zero : goodB tZ = true := goodB_iff.2 good_zero
theorem body_zero : bodyL tZ = [72, 71, 82, 84, 0, 0, 0, 0, 0, 0, 0, 0] := by decide +kernel
theorem enc_zero : encS tZ = baL (imgL tZ) ∧ encC tZ = 0 := by
  unfold encS encC
  rw [if_pos goodB_zero, if_pos goodB_zero]
  exact ⟨rfl, rfl⟩
theorem img_zero_size : (baL (imgL tZ)).size = 16 := by
  rw [baL_size]
  unfold imgL
  rw [List.length_append, dig_len, body_zero]
  rfl
theorem img_zero_head : (baL (imgL tZ)).extract 0 12 = ⟨#[72, 71, 82, 84, 0, 0, 0, 0, 0, 0, 0, 0]⟩ := by
  apply lst_inj
  rw [ext_lst, lst_baL]
  unfold imgL
  rw [body_zero]
  rfl
/-- What Decode makes of an image. -/
theorem dec_img {t : Tl} (hg : GoodP t) (hu : TlU t) : decT (baL (imgL t)) = t ∧ decC (baL (imgL t)) = 0 := by
  have hb : imB (baL (imgL t)) = true := imB_iff.2 ⟨t, hg, hu, lst_baL _⟩
  unfold decT decC
  rw [if_pos hb, if_pos hb]
  exact ⟨imB_read hg hu (lst_baL _), rfl⟩
/-- A table in a box. -/
structure TBx (v : World) (b : Nat) (A : Option Addr) (c : Nat) (t : Tl) : Prop where
  bx : Blk v b 27 (tlC A c t)
  rg : Rgs v A t.rs
theorem TBx.below {v v' : World} {b : Nat} {A : Option Addr} {c : Nat} {t : Tl} (h : TBx v b A c t) (hb : Below v.heap.size v v') : TBx v' b A c t := ⟨h.bx.below hb h.bx.lt, h.rg.below hb⟩
theorem TBx.first (w : World) (A : Option Addr) (c : Nat) (t : Tl) (hl : Rgs w A t.rs) : TBx (w.alloc (.cells (tlC A c t) 27)) w.heap.size A c t :=
  ⟨Blk.new w _ _, hl.below ((Below.refl w.heap.size w).alloc (Nat.le_refl _) _)⟩
theorem bel_alloc (w : World) (o : Obj) : Below w.heap.size w (w.alloc o) := (Below.refl w.heap.size w).alloc (Nat.le_refl _) o
set_option maxRecDepth 100000 in
set_option maxHeartbeats 4000000 in
theorem img_wakes (w : World) (ht : Tab w) : Calls Tryd.prog 9 #[] w fun e w' => e = .returned (.bool true) ∧ Below w.heap.size w w' := by
  have HT := Lib.hid ht
  have HE := Lib.hid (enc_zero)
  have HZ := Lib.hid (Nat.le_of_eq img_zero_size)
  have hz := img_zero_size
  have hh := img_zero_head
  have HD := Lib.hid (dec_img good_zero u_zero)
  clear ht
  go_enter Tryd.func9, Tryd.ntmps9
  go_wp2_with (fail)
  refine (encode_any none 0 tZ w (Rgs.nil _ _) (Nat.zero_le _) u_zero HT.out).mono ?_; rintro e w1 ⟨rfl, hb⟩
  rw [HE.out.1, HE.out.2]
  have HB1 := Lib.hid hb; have HT1 := Lib.hid (HT.out.below hb)
  clear hb
  generalize baL (imgL tZ) = s at *
  go_wp2_with (fail)
  refine (decode_any s w1 (Nat.le_trans HZ.out (by decide)) HT1.out).mono ?_; rintro e w2 ⟨A, c, rfl, ho, hb⟩
  rw [HD.out.1, HD.out.2]
  have HB2 := Lib.hid (HB1.out.trans (hb.mono HB1.out.size))
  clear ho hb
  have hzz : (12 : Int) ≤ s.size := by omega
  have hsI : ((s.size : Int) == 16) = true := by rw [hz]; rfl
  have heq : ((s.extract 0 12).toList == [72, 71, 82, 84, 0, 0, 0, 0, 0, 0, 0, 0]) = true := by rw [hh, ByteArray.toList_eq]; rfl
  have HB3 := Lib.hid (HB2.out.trans ((bel_alloc w2 (.cells (tlC A c tZ) 27)).mono HB2.out.size))
  clear hh hz
  go_wp2_with (fail)
  go_ret
  exact ⟨rfl, HB3.out⟩
end Go.Proofs.YthedonkjnfeajaaDoor
