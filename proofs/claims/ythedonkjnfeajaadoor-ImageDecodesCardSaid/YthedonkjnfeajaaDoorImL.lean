/- What a text is read as: the two ways alike. -/
import Derived.Test.YthedonkjnfeajaaDoorImK
import Derived.Test.YthedonkjnfeajaaDoorImQ
namespace Go.Proofs.YthedonkjnfeajaaDoor
open Go.RowKit
theorem decT_len (s : ByteArray) : (decT s).rs.length ≤ 255 := by
  unfold decT
  split
  · show (rdS _ _).1.length ≤ _
    rw [rdS_len]
    have := numL_lt 1 ((lst s).drop 11)
    omega
  · exact Nat.zero_le _
set_option maxRecDepth 100000 in
set_option maxHeartbeats 4000000 in
theorem decodes_any (s : ByteArray) (w : World) (_hs : s.size ≤ maxLen) (ht : Tab w) : Calls Tryd.prog 4 #[.string s] w fun e w' => e = .returned (.bool true) ∧ Below w.heap.size w w' := by
  have HT := Lib.hid ht
  clear ht
  by_cases g : 5000 < s.size
  · have i1 : (5000 : Int) < s.size := by omega
    clear g
    go_enter Tryd.func4, Tryd.ntmps4
    go_wp2_with (fail)
    refine (img_wakes _ HT.out).mono ?_; rintro e w1 ⟨rfl, hb⟩
    have HB1 := Lib.hid hb
    clear hb
    go_wp2_with (fail)
    go_ret
    exact ⟨rfl, HB1.out⟩
  · have i1 : ¬ (5000 : Int) < s.size := by omega
    have HZ := Lib.hid (show s.size ≤ 100000 by omega)
    have HD := Lib.hid (fun v (hv : Tab v) => decode_any s v HZ.out hv)
    have HR := Lib.hid (fun v => refDecode_any s v HZ.out)
    have HN := Lib.hid (Nat.le_trans (decT_len s) (by decide) : (decT s).rs.length ≤ 100000)
    generalize decT s = t at *
    generalize decC s = d at *
    have hdd : (d == d) = true := by simp
    clear g
    go_enter Tryd.func4, Tryd.ntmps4
    go_wp2_with (fail)
    refine (HD.out _ HT.out).mono ?_; rintro e w1 ⟨A1, n1, rfl, ho, hb⟩
    have HX := Lib.hid (TBx.first w1 A1 n1 t ho.rgs)
    have hb2 := hb.trans ((bel_alloc w1 (.cells (tlC A1 n1 t) 27)).mono hb.size)
    have HB2 := Lib.hid hb2; have HT2 := Lib.hid (HT.out.below hb2)
    clear hb hb2 ho
    go_upto_region 4 with (fail)
    change Code.wp _ _ _ _ (w1.alloc (.cells (tlC A1 n1 t) 27))
    generalize hw2 : w1.alloc (.cells (tlC A1 n1 t) 27) = w2 at *
    clear hw2
    obtain ⟨p, hp⟩ : ∃ p, p = w1.heap.size := ⟨_, rfl⟩
    rw [← hp] at HX; rw [← hp]; clear hp
    go_wp2_with (fail)
    refine (HR.out w2).mono ?_; rintro e w3 ⟨A2, n2, rfl, ho, hb⟩
    have HY := Lib.hid (TBx.first w3 A2 n2 t ho.rgs)
    have hb3 := hb.trans ((bel_alloc w3 (.cells (tlC A2 n2 t) 27)).mono hb.size)
    have HX3 := Lib.hid (HX.out.below hb3)
    have HB3 := Lib.hid (HB2.out.trans (hb3.mono HB2.out.size)); have HT3 := Lib.hid (HT2.out.below hb3)
    clear hb hb3 ho HX HB2 HT2
    go_upto_region 5 with (fail)
    change Code.wp _ _ _ _ (w3.alloc (.cells (tlC A2 n2 t) 27))
    generalize hw4 : w3.alloc (.cells (tlC A2 n2 t) 27) = w4 at *
    clear hw4
    obtain ⟨q, hq⟩ : ∃ q, q = w3.heap.size := ⟨_, rfl⟩
    rw [← hq] at HY; rw [← hq]; clear hq
    have c0 : w4.cell? ⟨p, 0, none⟩ = some (.slice A1 t.rs.length n1) := HX3.out.bx.cell 0
    have c1 : w4.cell? ⟨p, 1, none⟩ = some (.int .i64 t.ty) := HX3.out.bx.cell 1
    have c2 : w4.cell? ⟨p, 2, none⟩ = some (.string t.ho) := HX3.out.bx.cell 2
    have c3 : w4.cell? ⟨p, 3, none⟩ = some (.int .u32 t.ge) := HX3.out.bx.cell 3
    have c4 : w4.cell? ⟨p, 4, none⟩ = some (.bool t.ap) := HX3.out.bx.cell 4
    have d0 : w4.cell? ⟨q, 0, none⟩ = some (.slice A2 t.rs.length n2) := HY.out.bx.cell 0
    have d1 : w4.cell? ⟨q, 1, none⟩ = some (.int .i64 t.ty) := HY.out.bx.cell 1
    have d2 : w4.cell? ⟨q, 2, none⟩ = some (.string t.ho) := HY.out.bx.cell 2
    have d3 : w4.cell? ⟨q, 3, none⟩ = some (.int .u32 t.ge) := HY.out.bx.cell 3
    have d4 : w4.cell? ⟨q, 4, none⟩ = some (.bool t.ap) := HY.out.bx.cell 4
    go_wp2_with (fail)
    refine (tables_same A1 A2 n1 n2 t _ HX3.out.rg HY.out.rg HN.out).mono ?_; rintro e w5 ⟨rfl, hb⟩
    have HB5 := Lib.hid (HB3.out.trans (hb.mono HB3.out.size)); have HT5 := Lib.hid (HT3.out.below hb)
    clear hb
    go_wp2_with (fail)
    refine (img_wakes _ HT5.out).mono ?_; rintro e w6 ⟨rfl, hb⟩
    have HB6 := Lib.hid (HB5.out.trans (hb.mono HB5.out.size))
    clear hb
    go_wp2_with (fail)
    go_ret
    exact ⟨rfl, HB6.out⟩
end Go.Proofs.YthedonkjnfeajaaDoor
