/- The document's preempt: who stays, who is struck. -/
import Derived.Test.YtgekadfkokkapaaDoorPk21
namespace Go.Proofs.YtgekadfkokkapaaDoor
open Go.RowKit
theorem own_put2 {n0 nb : Nat} {v : World} {Ua : Option Addr} {Uk i j : Nat} {U : List Rg} {cs : Array Value} {x y : Value} (h : Own v n0 Ua Uk U) (hb : Blk v nb 27 cs) : Own ((v.setCell ⟨nb, i, none⟩ x).setCell ⟨nb, j, none⟩ y) n0 Ua Uk U := by
  have hap : (Value.slice Ua U.length Uk).ownBlock ≠ some nb := own_apart h.1 hb (by decide)
  exact ⟨own_keep h.1 fun g hg => (Below.heap_setCell _ _ _ g (fun e => hap (hg.trans (congrArg some e)))).trans (Below.heap_setCell v _ _ g (fun e => hap (hg.trans (congrArg some e)))), h.2⟩
theorem far7 {nb : Nat} {v : World} {T : TypeId} {cs : Array Value} {x0 x1 x2 x3 x4 x5 x6 : Value} (h : Blk v nb T cs) : Blk (((((((v.setCell ⟨nb + 1 + 1, 0, none⟩ x0).setCell ⟨nb + 1 + 1, 1, none⟩ x1).setCell ⟨nb + 1 + 1, 2, none⟩ x2).setCell ⟨nb + 1 + 1, 3, none⟩ x3).setCell ⟨nb + 1 + 1, 4, none⟩ x4).setCell ⟨nb + 1 + 1, 5, none⟩ x5).setCell ⟨nb + 1 + 1, 6, none⟩ x6) nb T cs :=
  ((((((h.far (p := ⟨nb + 1 + 1, 0, none⟩) (by show nb ≠ nb + 1 + 1; omega) x0).far (p := ⟨nb + 1 + 1, 1, none⟩) (by show nb ≠ nb + 1 + 1; omega) x1).far (p := ⟨nb + 1 + 1, 2, none⟩) (by show nb ≠ nb + 1 + 1; omega) x2).far (p := ⟨nb + 1 + 1, 3, none⟩) (by show nb ≠ nb + 1 + 1; omega) x3).far (p := ⟨nb + 1 + 1, 4, none⟩) (by show nb ≠ nb + 1 + 1; omega) x4).far (p := ⟨nb + 1 + 1, 5, none⟩) (by show nb ≠ nb + 1 + 1; omega) x5).far (p := ⟨nb + 1 + 1, 6, none⟩) (by show nb ≠ nb + 1 + 1; omega) x6
set_option maxRecDepth 100000 in
set_option maxHeartbeats 4000000 in
theorem refPre_da0 (n0 : Nat) (A : Option Addr) (c : Nat) (t : Tl) (m : Cm) (w : World) (ho : Own w n0 A c t.rs) (hn : n0 ≤ w.heap.size) (hm : t.rs.length ≤ 200) (hty : typeB m.ty = true) (h5 : (4 : Int) < t.ty) (z0 : (m.ot == 0) = true) (eU : (((t.rs.filter (strB true m)).length : Int) == 0) = true) :
    Calls Tryd.prog 43 #[tlV A c t, cmV m] w (RdOut n0 w (holdT ({ t with rs := t.rs.filter (fun r => !strB true m r), ge := incG t.ge }) m) (evsOf 2 ⟨#[]⟩ (t.rs.filter (strB true m))) (1)) := by
  have R0 := Lib.hid (RdAt.from w A c t m ho hn)
  have HM := Lib.hid (show t.rs.length ≤ maxLen by unfold maxLen; omega)
  have HM2 := Lib.hid hm
  have hnt := not_true
  have hnf := not_false
  obtain ⟨nb, hnb⟩ : ∃ nb, nb = w.heap.size := ⟨_, rfl⟩
  have HTy := Lib.hid hty
  clear ho hn hm hty
  go_enter Tryd.func43, Tryd.ntmps43
  go_upto_region 1 with (fail)
  change Code.wp _ _ _ _ (((w.alloc (.cells (tlC A c t) 27)).alloc (.cells (cmC m) 37)).alloc (.cells tdZ 43))
  generalize ((w.alloc (.cells (tlC A c t) 27)).alloc (.cells (cmC m) 37)).alloc (.cells tdZ 43) = v0 at *
  rw [← hnb] at R0 ⊢
  clear hnb
  have c0 : v0.cell? ⟨nb, 0, none⟩ = some (.slice A t.rs.length c) := R0.out.box.cell 0
  have c1 : v0.cell? ⟨nb, 1, none⟩ = some (.int .i64 t.ty) := R0.out.box.cell 1
  have c2 : v0.cell? ⟨nb, 2, none⟩ = some (.string t.ho) := R0.out.box.cell 2
  have c3 : v0.cell? ⟨nb, 3, none⟩ = some (.int .u32 t.ge) := R0.out.box.cell 3
  have c4 : v0.cell? ⟨nb, 4, none⟩ = some (.bool t.ap) := R0.out.box.cell 4
  have m10 : v0.cell? ⟨nb + 1, 10, none⟩ = some (.int .u64 m.ot) := R0.out.cmd.cell 10
  go_upto_region 2 with (fail)
  obtain ⟨C, hC0, hCl, hCi, hCm⟩ := class_of v0 (fun v => RdAt n0 nb w v A c t m) (fun v hb => R0.out.below hb)
  have HC0 := Lib.hid hC0; have HL := Lib.hid hCl; have HCm := Lib.hid hCm
  clear hC0 hCl hCi hCm m10
  clear c0 c1 c2 c3 c4
  refine wp_region_class C (by kernel_rfl) (by kernel_rfl) HC0.out ?_
  go_big_quiet_want
  go_big_quiet_op
  first | go_big_quiet_on | (refine ⟨_, fun _ _ => rfl, ?_⟩; go_big_quiet_on)
  go_big_quiet_want
  go_big_quiet_op
  first | go_big_quiet_on | (refine ⟨_, fun _ _ => rfl, ?_⟩; go_big_quiet_on)
  go_big_quiet_skip
  go_big_quiet_skip
  go_big_quiet_skip
  go_big_quiet_skip
  go_big_quiet_skip
  go_big_quiet_skip
  go_big_quiet_skip
  go_big_quiet_skip
  go_big_quiet_skip
  go_big_quiet_skip
  go_big_quiet_skip
  go_big_quiet_skip
  go_big_quiet_skip
  go_big_quiet_skip
  go_big_quiet_want
  go_big_quiet_op
  first | go_big_quiet_on | (refine ⟨_, fun _ _ => rfl, ?_⟩; go_big_quiet_on)
  go_big_quiet_want
  go_big_quiet_op
  first | go_big_quiet_on | (refine ⟨_, fun _ _ => rfl, ?_⟩; go_big_quiet_on)
  intro v1 hC1
  have R1 := Lib.hid (HL.out v1 hC1)
  clear hC1 HC0 HL HCm R0
  have m10 : v1.cell? ⟨nb + 1, 10, none⟩ = some (.int .u64 m.ot) := R1.out.cmd.cell 10
  obtain ⟨q, hq⟩ : ∃ q, q = strB true m := ⟨_, rfl⟩
  have HQ := Lib.hid hq
  clear hq
  go_wp2_with (fail)
  go_loopw [7, 8, 9] (fun s7 s8 i wr => ∃ (k : Nat) (Sa : Option Addr) (Sk : Nat) (Ua : Option Addr) (Uk : Nat), k ≤ t.rs.length ∧ i = .int .i64 k ∧ s7 = .slice Sa ((t.rs.take k).filter (fun r => !q r)).length Sk ∧ s8 = .slice Ua ((t.rs.take k).filter q).length Uk ∧ Hid (PrI n0 nb w wr A c t m Sa Sk ((t.rs.take k).filter (fun r => !q r)) Ua Uk ((t.rs.take k).filter q))) (fun _ _ i _ => t.rs.length - (intOf i).toNat)
  case atStart => exact ⟨0, none, 0, none, 0, Nat.zero_le _, rfl, rfl, rfl, Lib.hid (PrI.first R1.out)⟩
  case round =>
    clear R1 m10
    obtain ⟨k, Sa, Sk, Ua, Uk, hk, rfl, rfl, rfl, HR⟩ := hrel
    have c0 : wr.cell? ⟨nb, 0, none⟩ = some (.slice A t.rs.length c) := HR.out.r.box.cell 0
    by_cases hlt : k < t.rs.length
    · have hltI : (k : Int) < t.rs.length := by omega
      obtain ⟨b, o, x, rfl, hx, hz, d0, d1⟩ := HR.out.r.own.rgs.at_ hlt
      have m2 : wr.cell? ⟨nb + 1, 2, none⟩ = some (.string m.ho) := HR.out.r.cmd.cell 2
      have m10 : wr.cell? ⟨nb + 1, 10, none⟩ = some (.int .u64 m.ot) := HR.out.r.cmd.cell 10
      have F1 := Lib.hid (filter_take q t.rs k x hx)
      have F2 := Lib.hid (filter_take (fun r => !q r) t.rs k x hx)
      have HLs : Hid (((t.rs.take k).filter (fun r => !q r)).length ≤ 1000 ∧ ((t.rs.take k).filter q).length ≤ 1000) := by
        have a1 := List.length_filter_le q (t.rs.take k)
        have a2 := List.length_filter_le (fun r => !q r) (t.rs.take k)
        have a3 : (t.rs.take k).length ≤ k := by rw [List.length_take]; exact Nat.min_le_left _ _
        have a4 := HM2.out
        exact Lib.hid ⟨by omega, by omega⟩
      have HZ := Lib.hid hz
      have hm2 := HM2.out
      clear hx hz
      cases e1 : (x.h.toList == m.ho.toList) with
      | true =>
        have e2 : (x.h.toList != m.ho.toList) = false := by simp [bne, e1]
        have hqx : strB true m x = false := by show (!eqS x.h m.ho && _) = false; rw [show eqS x.h m.ho = true from e1]; rfl
        have HQx := Lib.hid (show q x = false by rw [HQ.out]; exact hqx)
        have G1 := Lib.hid (show (t.rs.take (k + 1)).filter q = (t.rs.take k).filter q by rw [F1.out, HQx.out]; simp)
        have G2 := Lib.hid (show (t.rs.take (k + 1)).filter (fun r => !q r) = (t.rs.take k).filter (fun r => !q r) ++ [x] by rw [F2.out, HQx.out]; simp)
        clear F1 F2 hqx
        generalize (t.rs.take k).filter q = U at *
        generalize (t.rs.take k).filter (fun r => !q r) = S at *
        go_upto_region 9 with (fail)
        go_quiet (fail)
        have HD := Lib.hid (HR.out.below (below_drewN (Below.refl _ _) nq))
        have g0 : (wr.drewN nq).cell? ⟨nb, 0, none⟩ = some (.slice (some ⟨b, o, none⟩) t.rs.length c) := c0
        have g1 : (wr.drewN nq).cell? ⟨b, o + k * 2, none⟩ = some (.string x.h) := d0
        have g2 : (wr.drewN nq).cell? ⟨b, o + k * 2 + 1, none⟩ = some (.int .u64 x.k) := d1
        clear c0 d0 d1 m2 m10 HR
        generalize wr.drewN nq = wd at *
        have HOA := Lib.hid (HD.out.below ((Below.refl wd.heap.size wd).alloc (Nat.le_refl _) (.cells (regC x) 57)))
        go_wp2_with (at_builtin; refine wpList_append_one rfl (.tmp 83) (.tmp 89) rfl n0 Sa Sk S rfl HOA.out.s wd.heap.size x rfl HZ.out (Blk.new wd 57 _) (by have := HLs.out; omega) HOA.out.r.lt ?_; intro A3 cc w3 hn3 hg3 hb3; have H3 := Lib.hid (HOA.out.stay hn3 hg3 hb3); clear hn3 hg3 hb3)
        go_roundw
        case rel => exact ⟨k + 1, A3, cc, Ua, Uk, by omega, by go_num, by rw [G2.out]; simp, by rw [G1.out], Lib.hid (by rw [G1.out, G2.out]; exact H3.out)⟩
        case measure => simp [intOf]; omega
      | false =>
        have e2 : (x.h.toList != m.ho.toList) = true := by simp [bne, e1]
        have hqx : strB true m x = true := by show (!eqS x.h m.ho && _) = true; rw [show eqS x.h m.ho = false from e1]; rfl
        have HQx := Lib.hid (show q x = true by rw [HQ.out]; exact hqx)
        have G1 := Lib.hid (show (t.rs.take (k + 1)).filter q = (t.rs.take k).filter q ++ [x] by rw [F1.out, HQx.out]; simp)
        have G2 := Lib.hid (show (t.rs.take (k + 1)).filter (fun r => !q r) = (t.rs.take k).filter (fun r => !q r) by rw [F2.out, HQx.out]; simp)
        clear F1 F2 hqx
        generalize (t.rs.take k).filter q = U at *
        generalize (t.rs.take k).filter (fun r => !q r) = S at *
        go_upto_region 9 with (fail)
        go_quiet (fail)
        have HD := Lib.hid (HR.out.below (below_drewN (Below.refl _ _) nq))
        have g0 : (wr.drewN nq).cell? ⟨nb, 0, none⟩ = some (.slice (some ⟨b, o, none⟩) t.rs.length c) := c0
        have g1 : (wr.drewN nq).cell? ⟨b, o + k * 2, none⟩ = some (.string x.h) := d0
        have g2 : (wr.drewN nq).cell? ⟨b, o + k * 2 + 1, none⟩ = some (.int .u64 x.k) := d1
        clear c0 d0 d1 m2 m10 HR
        generalize wr.drewN nq = wd at *
        have HOA := Lib.hid (HD.out.below ((Below.refl wd.heap.size wd).alloc (Nat.le_refl _) (.cells (regC x) 57)))
        go_wp2_with (at_builtin; refine wpList_append_one rfl (.tmp 75) (.tmp 81) rfl n0 Ua Uk U rfl HOA.out.u wd.heap.size x rfl HZ.out (Blk.new wd 57 _) (by have := HLs.out; omega) HOA.out.r.lt ?_; intro A3 cc w3 hn3 hg3 hb3; have H3 := Lib.hid (HOA.out.struck hn3 hg3 hb3); clear hn3 hg3 hb3)
        go_roundw
        case rel => exact ⟨k + 1, Sa, Sk, A3, cc, by omega, by go_num, by rw [G2.out], by rw [G1.out]; simp, Lib.hid (by rw [G1.out, G2.out]; exact H3.out)⟩
        case measure => simp [intOf]; omega
    · obtain rfl : k = t.rs.length := by omega
      simp only [List.take_length] at HR ⊢
      obtain ⟨U, hU⟩ : ∃ U, U = t.rs.filter q := ⟨_, rfl⟩
      obtain ⟨S, hS⟩ : ∃ S, S = t.rs.filter (fun r => !q r) := ⟨_, rfl⟩
      rw [← hU, ← hS] at HR ⊢
      have HUq := Lib.hid (hU.trans (by rw [HQ.out])); have HSq := Lib.hid (hS.trans (by rw [HQ.out]))
      have eU' : ((U.length : Int) == 0) = true := by rw [hU, HQ.out]; exact eU
      have hUl : U.length ≤ 200 := by rw [hU]; exact Nat.le_trans (List.length_filter_le _ _) HM2.out
      clear hU hS eU
      have c0 : wr.cell? ⟨nb, 0, none⟩ = some (.slice A t.rs.length c) := HR.out.r.box.cell 0
      have c3 : wr.cell? ⟨nb, 3, none⟩ = some (.int .u32 t.ge) := HR.out.r.box.cell 3
      have f0 : wr.frozen? ⟨nb, 0, none⟩ = false := HR.out.r.box.free 0
      have f3 : wr.frozen? ⟨nb, 3, none⟩ = false := HR.out.r.box.free 3
      have hig : IntKind.u32.wrap (t.ge + 1) = incG t.ge := rfl
      have R6 := Lib.hid ((HR.out.r.rows (.inr (Below.refl _ _)) HR.out.s).put 3 (.int .u32 (incG t.ge)) (t' := { t with rs := S, ge := incG t.ge }) rfl rfl)
      have HU6 := Lib.hid (own_put2 (i := 0) (j := 3) (x := .slice Sa S.length Sk) (y := .int .u32 (incG t.ge)) HR.out.u HR.out.r.box)
      go_upto_region 16 with (fail)
      generalize (wr.setCell ⟨nb, 0, none⟩ (.slice Sa S.length Sk)).setCell ⟨nb, 3, none⟩ (.int .u32 (incG t.ge)) = v6 at *
      clear c0 c3 f0 f3 hig HR eU'
      have m11 : v6.cell? ⟨nb + 1, 11, none⟩ = some (.int .i64 m.ty) := R6.out.cmd.cell 11
      have m2 : v6.cell? ⟨nb + 1, 2, none⟩ = some (.string m.ho) := R6.out.cmd.cell 2
      have HH := Lib.hid (fun v => refHold_any m.ty m.ho v HTy.out)
      obtain ⟨hx, hhx⟩ : ∃ hx, hx = (if shB m.ty then ⟨#[]⟩ else m.ho) := ⟨_, rfl⟩
      rw [← hhx] at HH
      have HX := Lib.hid hhx
      clear hhx
      go_wp2_with (fail)
      refine (HH.out _).mono ?_; rintro e v7 ⟨rfl, hb⟩
      have R7 := Lib.hid (R6.out.below hb); have HU7 := Lib.hid (HU6.out.below hb)
      have c1 : v7.cell? ⟨nb, 1, none⟩ = some (.int .i64 t.ty) := R7.out.box.cell 1
      have c2 : v7.cell? ⟨nb, 2, none⟩ = some (.string t.ho) := R7.out.box.cell 2
      have f1 : v7.frozen? ⟨nb, 1, none⟩ = false := R7.out.box.free 1
      have f2 : v7.frozen? ⟨nb, 2, none⟩ = false := R7.out.box.free 2
      clear m11 m2 hb R6 HU6
      go_upto_region 18 with (fail)
      have R8 := Lib.hid ((R7.out.put 1 (.int .i64 m.ty) (t' := { t with rs := S, ge := incG t.ge, ty := m.ty }) rfl rfl).put 2 (.string hx) (t' := holdT { t with rs := S, ge := incG t.ge } m) (by rw [HX.out]; rfl) rfl)
      have HU8 := Lib.hid (own_put2 (i := 1) (j := 2) (x := .int .i64 m.ty) (y := .string hx) HU7.out R7.out.box)
      generalize (v7.setCell ⟨nb, 1, none⟩ (.int .i64 m.ty)).setCell ⟨nb, 2, none⟩ (.string hx) = v8 at *
      clear c1 c2 f1 f2 R7 HU7
      obtain ⟨TT, hTT⟩ : ∃ x, x = holdT { t with rs := S, ge := incG t.ge } m := ⟨_, rfl⟩
      rw [← hTT] at R8
      have HTT := Lib.hid hTT
      clear hTT
      have HR8d := Lib.hid (R8.out.below (Below.refl _ _).drew)
      have HU8d := Lib.hid (HU8.out.below (Below.refl _ _).drew)
      have HCL := Lib.hid (fun v (hv : RdAt n0 nb w v Sa Sk TT m) => (⟨hv.box.cell 0, hv.box.cell 1, hv.box.cell 2, hv.box.cell 3, hv.box.cell 4⟩ : v.cell? ⟨nb, 0, none⟩ = some (.slice Sa TT.rs.length Sk) ∧ v.cell? ⟨nb, 1, none⟩ = some (.int .i64 TT.ty) ∧ v.cell? ⟨nb, 2, none⟩ = some (.string TT.ho) ∧ v.cell? ⟨nb, 3, none⟩ = some (.int .u32 TT.ge) ∧ v.cell? ⟨nb, 4, none⟩ = some (.bool TT.ap)))
      have d0 := HCL.out _ HR8d.out
      refine wp_region_noPanic ?_
      go_region_held (fun v => v.cell? ⟨nb, 0, none⟩ = some (.slice Sa TT.rs.length Sk) ∧ v.cell? ⟨nb, 1, none⟩ = some (.int .i64 TT.ty) ∧ v.cell? ⟨nb, 2, none⟩ = some (.string TT.ho) ∧ v.cell? ⟨nb, 3, none⟩ = some (.int .u32 TT.ge) ∧ v.cell? ⟨nb, 4, none⟩ = some (.bool TT.ap)) (first | with_reducible exact e2 | with_reducible exact e1 | with_reducible exact d0) (first
        | (go_at_call 42; refine (events_any Ua Uk U ⟨#[]⟩ 2 _ HU8d.out.rgs (by omega)).mono ?_; rintro e v9 ⟨B, kk, rfl, he, hb⟩; have R9 := Lib.hid (HR8d.out.below hb); have HE9 := Lib.hid (OwnE.base he HR8d.out.lt); have e1 := HCL.out _ R9.out; have b2 := far7 (x0 := .slice Sa TT.rs.length Sk) (x1 := .int .i64 TT.ty) (x2 := .string TT.ho) (x3 := .int .u32 TT.ge) (x4 := .bool TT.ap) (x5 := .slice B (evsOf 2 ⟨#[]⟩ U).length kk) (x6 := .int .i64 1) R9.out.box; have e2 := (⟨b2.cell 0, b2.cell 1, b2.cell 2, b2.cell 3, b2.cell 4⟩ : (((((((v9.setCell ⟨nb + 1 + 1, 0, none⟩ (.slice Sa TT.rs.length Sk)).setCell ⟨nb + 1 + 1, 1, none⟩ (.int .i64 TT.ty)).setCell ⟨nb + 1 + 1, 2, none⟩ (.string TT.ho)).setCell ⟨nb + 1 + 1, 3, none⟩ (.int .u32 TT.ge)).setCell ⟨nb + 1 + 1, 4, none⟩ (.bool TT.ap)).setCell ⟨nb + 1 + 1, 5, none⟩ (.slice B (evsOf 2 ⟨#[]⟩ U).length kk)).setCell ⟨nb + 1 + 1, 6, none⟩ (.int .i64 1)).cell? ⟨nb, 0, none⟩ = some (.slice Sa TT.rs.length Sk) ∧ (((((((v9.setCell ⟨nb + 1 + 1, 0, none⟩ (.slice Sa TT.rs.length Sk)).setCell ⟨nb + 1 + 1, 1, none⟩ (.int .i64 TT.ty)).setCell ⟨nb + 1 + 1, 2, none⟩ (.string TT.ho)).setCell ⟨nb + 1 + 1, 3, none⟩ (.int .u32 TT.ge)).setCell ⟨nb + 1 + 1, 4, none⟩ (.bool TT.ap)).setCell ⟨nb + 1 + 1, 5, none⟩ (.slice B (evsOf 2 ⟨#[]⟩ U).length kk)).setCell ⟨nb + 1 + 1, 6, none⟩ (.int .i64 1)).cell? ⟨nb, 1, none⟩ = some (.int .i64 TT.ty) ∧ (((((((v9.setCell ⟨nb + 1 + 1, 0, none⟩ (.slice Sa TT.rs.length Sk)).setCell ⟨nb + 1 + 1, 1, none⟩ (.int .i64 TT.ty)).setCell ⟨nb + 1 + 1, 2, none⟩ (.string TT.ho)).setCell ⟨nb + 1 + 1, 3, none⟩ (.int .u32 TT.ge)).setCell ⟨nb + 1 + 1, 4, none⟩ (.bool TT.ap)).setCell ⟨nb + 1 + 1, 5, none⟩ (.slice B (evsOf 2 ⟨#[]⟩ U).length kk)).setCell ⟨nb + 1 + 1, 6, none⟩ (.int .i64 1)).cell? ⟨nb, 2, none⟩ = some (.string TT.ho) ∧ (((((((v9.setCell ⟨nb + 1 + 1, 0, none⟩ (.slice Sa TT.rs.length Sk)).setCell ⟨nb + 1 + 1, 1, none⟩ (.int .i64 TT.ty)).setCell ⟨nb + 1 + 1, 2, none⟩ (.string TT.ho)).setCell ⟨nb + 1 + 1, 3, none⟩ (.int .u32 TT.ge)).setCell ⟨nb + 1 + 1, 4, none⟩ (.bool TT.ap)).setCell ⟨nb + 1 + 1, 5, none⟩ (.slice B (evsOf 2 ⟨#[]⟩ U).length kk)).setCell ⟨nb + 1 + 1, 6, none⟩ (.int .i64 1)).cell? ⟨nb, 3, none⟩ = some (.int .u32 TT.ge) ∧ (((((((v9.setCell ⟨nb + 1 + 1, 0, none⟩ (.slice Sa TT.rs.length Sk)).setCell ⟨nb + 1 + 1, 1, none⟩ (.int .i64 TT.ty)).setCell ⟨nb + 1 + 1, 2, none⟩ (.string TT.ho)).setCell ⟨nb + 1 + 1, 3, none⟩ (.int .u32 TT.ge)).setCell ⟨nb + 1 + 1, 4, none⟩ (.bool TT.ap)).setCell ⟨nb + 1 + 1, 5, none⟩ (.slice B (evsOf 2 ⟨#[]⟩ U).length kk)).setCell ⟨nb + 1 + 1, 6, none⟩ (.int .i64 1)).cell? ⟨nb, 4, none⟩ = some (.bool TT.ap)); clear b2; have r0 : v9.cell? ⟨nb + 1 + 1, 0, none⟩ = some (.slice none 0 0) := R9.out.res.cell 0; have q0 : v9.frozen? ⟨nb + 1 + 1, 0, none⟩ = false := R9.out.res.free 0; have r1 : v9.cell? ⟨nb + 1 + 1, 1, none⟩ = some (.int .i64 0) := R9.out.res.cell 1; have q1 : v9.frozen? ⟨nb + 1 + 1, 1, none⟩ = false := R9.out.res.free 1; have r2 : v9.cell? ⟨nb + 1 + 1, 2, none⟩ = some (.string ⟨#[]⟩) := R9.out.res.cell 2; have q2 : v9.frozen? ⟨nb + 1 + 1, 2, none⟩ = false := R9.out.res.free 2; have r3 : v9.cell? ⟨nb + 1 + 1, 3, none⟩ = some (.int .u32 0) := R9.out.res.cell 3; have q3 : v9.frozen? ⟨nb + 1 + 1, 3, none⟩ = false := R9.out.res.free 3; have r4 : v9.cell? ⟨nb + 1 + 1, 4, none⟩ = some (.bool false) := R9.out.res.cell 4; have q4 : v9.frozen? ⟨nb + 1 + 1, 4, none⟩ = false := R9.out.res.free 4; have r5 : v9.cell? ⟨nb + 1 + 1, 5, none⟩ = some (.slice none 0 0) := R9.out.res.cell 5; have q5 : v9.frozen? ⟨nb + 1 + 1, 5, none⟩ = false := R9.out.res.free 5; have r6 : v9.cell? ⟨nb + 1 + 1, 6, none⟩ = some (.int .i64 0) := R9.out.res.cell 6; have q6 : v9.frozen? ⟨nb + 1 + 1, 6, none⟩ = false := R9.out.res.free 6; clear he hb))
      all_goals (refine NoPanic.normal ?_)
      obtain ⟨es5, hes⟩ : ∃ x, x = evsOf 2 ⟨#[]⟩ U := ⟨_, rfl⟩
      rw [← hes] at HE9 ⊢
      have HES := Lib.hid hes
      clear hes e1 e2 d0
      go_wp2_with (fail)
      obtain ⟨hK, hO, hB⟩ := td_put R9.out HE9.out (1) _ rfl
      refine bodyPost_ret_by (results_cell_row rfl _ _ (nb + 1 + 1) 43 (tdC Sa Sk TT B kk es5 1) (0, 0) _ rfl hK Tryd.underlying43 rfl size43) rfl ?_
      have hT : TT = holdT ({ t with rs := t.rs.filter (fun r => !strB true m r), ge := incG t.ge }) m := by rw [HTT.out, HSq.out]
      have hE : es5 = evsOf 2 ⟨#[]⟩ (t.rs.filter (strB true m)) := by rw [HES.out, HUq.out]
      subst hT hE
      exact ⟨Sa, Sk, B, kk, rfl, hO.1, hO.2, hB⟩
set_option maxRecDepth 100000 in
set_option maxHeartbeats 4000000 in
theorem refPre_da1 (n0 : Nat) (A : Option Addr) (c : Nat) (t : Tl) (m : Cm) (w : World) (ho : Own w n0 A c t.rs) (hn : n0 ≤ w.heap.size) (hm : t.rs.length ≤ 200) (hty : typeB m.ty = true) (h5 : (4 : Int) < t.ty) (z0 : (m.ot == 0) = true) (eU : (((t.rs.filter (strB true m)).length : Int) == 0) = false) :
    Calls Tryd.prog 43 #[tlV A c t, cmV m] w (RdOut n0 w (holdT ({ t with rs := t.rs.filter (fun r => !strB true m r), ge := incG t.ge }) m) (evsOf 2 ⟨#[]⟩ (t.rs.filter (strB true m))) (1)) := by
  have R0 := Lib.hid (RdAt.from w A c t m ho hn)
  have HM := Lib.hid (show t.rs.length ≤ maxLen by unfold maxLen; omega)
  have HM2 := Lib.hid hm
  have hnt := not_true
  have hnf := not_false
  obtain ⟨nb, hnb⟩ : ∃ nb, nb = w.heap.size := ⟨_, rfl⟩
  have HTy := Lib.hid hty
  clear ho hn hm hty
  go_enter Tryd.func43, Tryd.ntmps43
  go_upto_region 1 with (fail)
  change Code.wp _ _ _ _ (((w.alloc (.cells (tlC A c t) 27)).alloc (.cells (cmC m) 37)).alloc (.cells tdZ 43))
  generalize ((w.alloc (.cells (tlC A c t) 27)).alloc (.cells (cmC m) 37)).alloc (.cells tdZ 43) = v0 at *
  rw [← hnb] at R0 ⊢
  clear hnb
  have c0 : v0.cell? ⟨nb, 0, none⟩ = some (.slice A t.rs.length c) := R0.out.box.cell 0
  have c1 : v0.cell? ⟨nb, 1, none⟩ = some (.int .i64 t.ty) := R0.out.box.cell 1
  have c2 : v0.cell? ⟨nb, 2, none⟩ = some (.string t.ho) := R0.out.box.cell 2
  have c3 : v0.cell? ⟨nb, 3, none⟩ = some (.int .u32 t.ge) := R0.out.box.cell 3
  have c4 : v0.cell? ⟨nb, 4, none⟩ = some (.bool t.ap) := R0.out.box.cell 4
  have m10 : v0.cell? ⟨nb + 1, 10, none⟩ = some (.int .u64 m.ot) := R0.out.cmd.cell 10
  go_upto_region 2 with (fail)
  obtain ⟨C, hC0, hCl, hCi, hCm⟩ := class_of v0 (fun v => RdAt n0 nb w v A c t m) (fun v hb => R0.out.below hb)
  have HC0 := Lib.hid hC0; have HL := Lib.hid hCl; have HCm := Lib.hid hCm
  clear hC0 hCl hCi hCm m10
  clear c0 c1 c2 c3 c4
  refine wp_region_class C (by kernel_rfl) (by kernel_rfl) HC0.out ?_
  go_big_quiet_want
  go_big_quiet_op
  first | go_big_quiet_on | (refine ⟨_, fun _ _ => rfl, ?_⟩; go_big_quiet_on)
  go_big_quiet_want
  go_big_quiet_op
  first | go_big_quiet_on | (refine ⟨_, fun _ _ => rfl, ?_⟩; go_big_quiet_on)
  go_big_quiet_skip
  go_big_quiet_skip
  go_big_quiet_skip
  go_big_quiet_skip
  go_big_quiet_skip
  go_big_quiet_skip
  go_big_quiet_skip
  go_big_quiet_skip
  go_big_quiet_skip
  go_big_quiet_skip
  go_big_quiet_skip
  go_big_quiet_skip
  go_big_quiet_skip
  go_big_quiet_skip
  go_big_quiet_want
  go_big_quiet_op
  first | go_big_quiet_on | (refine ⟨_, fun _ _ => rfl, ?_⟩; go_big_quiet_on)
  go_big_quiet_want
  go_big_quiet_op
  first | go_big_quiet_on | (refine ⟨_, fun _ _ => rfl, ?_⟩; go_big_quiet_on)
  intro v1 hC1
  have R1 := Lib.hid (HL.out v1 hC1)
  clear hC1 HC0 HL HCm R0
  have m10 : v1.cell? ⟨nb + 1, 10, none⟩ = some (.int .u64 m.ot) := R1.out.cmd.cell 10
  obtain ⟨q, hq⟩ : ∃ q, q = strB true m := ⟨_, rfl⟩
  have HQ := Lib.hid hq
  clear hq
  go_wp2_with (fail)
  go_loopw [7, 8, 9] (fun s7 s8 i wr => ∃ (k : Nat) (Sa : Option Addr) (Sk : Nat) (Ua : Option Addr) (Uk : Nat), k ≤ t.rs.length ∧ i = .int .i64 k ∧ s7 = .slice Sa ((t.rs.take k).filter (fun r => !q r)).length Sk ∧ s8 = .slice Ua ((t.rs.take k).filter q).length Uk ∧ Hid (PrI n0 nb w wr A c t m Sa Sk ((t.rs.take k).filter (fun r => !q r)) Ua Uk ((t.rs.take k).filter q))) (fun _ _ i _ => t.rs.length - (intOf i).toNat)
  case atStart => exact ⟨0, none, 0, none, 0, Nat.zero_le _, rfl, rfl, rfl, Lib.hid (PrI.first R1.out)⟩
  case round =>
    clear R1 m10
    obtain ⟨k, Sa, Sk, Ua, Uk, hk, rfl, rfl, rfl, HR⟩ := hrel
    have c0 : wr.cell? ⟨nb, 0, none⟩ = some (.slice A t.rs.length c) := HR.out.r.box.cell 0
    by_cases hlt : k < t.rs.length
    · have hltI : (k : Int) < t.rs.length := by omega
      obtain ⟨b, o, x, rfl, hx, hz, d0, d1⟩ := HR.out.r.own.rgs.at_ hlt
      have m2 : wr.cell? ⟨nb + 1, 2, none⟩ = some (.string m.ho) := HR.out.r.cmd.cell 2
      have m10 : wr.cell? ⟨nb + 1, 10, none⟩ = some (.int .u64 m.ot) := HR.out.r.cmd.cell 10
      have F1 := Lib.hid (filter_take q t.rs k x hx)
      have F2 := Lib.hid (filter_take (fun r => !q r) t.rs k x hx)
      have HLs : Hid (((t.rs.take k).filter (fun r => !q r)).length ≤ 1000 ∧ ((t.rs.take k).filter q).length ≤ 1000) := by
        have a1 := List.length_filter_le q (t.rs.take k)
        have a2 := List.length_filter_le (fun r => !q r) (t.rs.take k)
        have a3 : (t.rs.take k).length ≤ k := by rw [List.length_take]; exact Nat.min_le_left _ _
        have a4 := HM2.out
        exact Lib.hid ⟨by omega, by omega⟩
      have HZ := Lib.hid hz
      have hm2 := HM2.out
      clear hx hz
      cases e1 : (x.h.toList == m.ho.toList) with
      | true =>
        have e2 : (x.h.toList != m.ho.toList) = false := by simp [bne, e1]
        have hqx : strB true m x = false := by show (!eqS x.h m.ho && _) = false; rw [show eqS x.h m.ho = true from e1]; rfl
        have HQx := Lib.hid (show q x = false by rw [HQ.out]; exact hqx)
        have G1 := Lib.hid (show (t.rs.take (k + 1)).filter q = (t.rs.take k).filter q by rw [F1.out, HQx.out]; simp)
        have G2 := Lib.hid (show (t.rs.take (k + 1)).filter (fun r => !q r) = (t.rs.take k).filter (fun r => !q r) ++ [x] by rw [F2.out, HQx.out]; simp)
        clear F1 F2 hqx
        generalize (t.rs.take k).filter q = U at *
        generalize (t.rs.take k).filter (fun r => !q r) = S at *
        go_upto_region 9 with (fail)
        go_quiet (fail)
        have HD := Lib.hid (HR.out.below (below_drewN (Below.refl _ _) nq))
        have g0 : (wr.drewN nq).cell? ⟨nb, 0, none⟩ = some (.slice (some ⟨b, o, none⟩) t.rs.length c) := c0
        have g1 : (wr.drewN nq).cell? ⟨b, o + k * 2, none⟩ = some (.string x.h) := d0
        have g2 : (wr.drewN nq).cell? ⟨b, o + k * 2 + 1, none⟩ = some (.int .u64 x.k) := d1
        clear c0 d0 d1 m2 m10 HR
        generalize wr.drewN nq = wd at *
        have HOA := Lib.hid (HD.out.below ((Below.refl wd.heap.size wd).alloc (Nat.le_refl _) (.cells (regC x) 57)))
        go_wp2_with (at_builtin; refine wpList_append_one rfl (.tmp 83) (.tmp 89) rfl n0 Sa Sk S rfl HOA.out.s wd.heap.size x rfl HZ.out (Blk.new wd 57 _) (by have := HLs.out; omega) HOA.out.r.lt ?_; intro A3 cc w3 hn3 hg3 hb3; have H3 := Lib.hid (HOA.out.stay hn3 hg3 hb3); clear hn3 hg3 hb3)
        go_roundw
        case rel => exact ⟨k + 1, A3, cc, Ua, Uk, by omega, by go_num, by rw [G2.out]; simp, by rw [G1.out], Lib.hid (by rw [G1.out, G2.out]; exact H3.out)⟩
        case measure => simp [intOf]; omega
      | false =>
        have e2 : (x.h.toList != m.ho.toList) = true := by simp [bne, e1]
        have hqx : strB true m x = true := by show (!eqS x.h m.ho && _) = true; rw [show eqS x.h m.ho = false from e1]; rfl
        have HQx := Lib.hid (show q x = true by rw [HQ.out]; exact hqx)
        have G1 := Lib.hid (show (t.rs.take (k + 1)).filter q = (t.rs.take k).filter q ++ [x] by rw [F1.out, HQx.out]; simp)
        have G2 := Lib.hid (show (t.rs.take (k + 1)).filter (fun r => !q r) = (t.rs.take k).filter (fun r => !q r) by rw [F2.out, HQx.out]; simp)
        clear F1 F2 hqx
        generalize (t.rs.take k).filter q = U at *
        generalize (t.rs.take k).filter (fun r => !q r) = S at *
        go_upto_region 9 with (fail)
        go_quiet (fail)
        have HD := Lib.hid (HR.out.below (below_drewN (Below.refl _ _) nq))
        have g0 : (wr.drewN nq).cell? ⟨nb, 0, none⟩ = some (.slice (some ⟨b, o, none⟩) t.rs.length c) := c0
        have g1 : (wr.drewN nq).cell? ⟨b, o + k * 2, none⟩ = some (.string x.h) := d0
        have g2 : (wr.drewN nq).cell? ⟨b, o + k * 2 + 1, none⟩ = some (.int .u64 x.k) := d1
        clear c0 d0 d1 m2 m10 HR
        generalize wr.drewN nq = wd at *
        have HOA := Lib.hid (HD.out.below ((Below.refl wd.heap.size wd).alloc (Nat.le_refl _) (.cells (regC x) 57)))
        go_wp2_with (at_builtin; refine wpList_append_one rfl (.tmp 75) (.tmp 81) rfl n0 Ua Uk U rfl HOA.out.u wd.heap.size x rfl HZ.out (Blk.new wd 57 _) (by have := HLs.out; omega) HOA.out.r.lt ?_; intro A3 cc w3 hn3 hg3 hb3; have H3 := Lib.hid (HOA.out.struck hn3 hg3 hb3); clear hn3 hg3 hb3)
        go_roundw
        case rel => exact ⟨k + 1, Sa, Sk, A3, cc, by omega, by go_num, by rw [G2.out], by rw [G1.out]; simp, Lib.hid (by rw [G1.out, G2.out]; exact H3.out)⟩
        case measure => simp [intOf]; omega
    · obtain rfl : k = t.rs.length := by omega
      simp only [List.take_length] at HR ⊢
      obtain ⟨U, hU⟩ : ∃ U, U = t.rs.filter q := ⟨_, rfl⟩
      obtain ⟨S, hS⟩ : ∃ S, S = t.rs.filter (fun r => !q r) := ⟨_, rfl⟩
      rw [← hU, ← hS] at HR ⊢
      have HUq := Lib.hid (hU.trans (by rw [HQ.out])); have HSq := Lib.hid (hS.trans (by rw [HQ.out]))
      have eU' : ((U.length : Int) == 0) = false := by rw [hU, HQ.out]; exact eU
      have hUl : U.length ≤ 200 := by rw [hU]; exact Nat.le_trans (List.length_filter_le _ _) HM2.out
      clear hU hS eU
      have c0 : wr.cell? ⟨nb, 0, none⟩ = some (.slice A t.rs.length c) := HR.out.r.box.cell 0
      have c3 : wr.cell? ⟨nb, 3, none⟩ = some (.int .u32 t.ge) := HR.out.r.box.cell 3
      have f0 : wr.frozen? ⟨nb, 0, none⟩ = false := HR.out.r.box.free 0
      have f3 : wr.frozen? ⟨nb, 3, none⟩ = false := HR.out.r.box.free 3
      have hig : IntKind.u32.wrap (t.ge + 1) = incG t.ge := rfl
      have R6 := Lib.hid ((HR.out.r.rows (.inr (Below.refl _ _)) HR.out.s).put 3 (.int .u32 (incG t.ge)) (t' := { t with rs := S, ge := incG t.ge }) rfl rfl)
      have HU6 := Lib.hid (own_put2 (i := 0) (j := 3) (x := .slice Sa S.length Sk) (y := .int .u32 (incG t.ge)) HR.out.u HR.out.r.box)
      go_upto_region 16 with (fail)
      generalize (wr.setCell ⟨nb, 0, none⟩ (.slice Sa S.length Sk)).setCell ⟨nb, 3, none⟩ (.int .u32 (incG t.ge)) = v6 at *
      clear c0 c3 f0 f3 hig HR eU'
      have m11 : v6.cell? ⟨nb + 1, 11, none⟩ = some (.int .i64 m.ty) := R6.out.cmd.cell 11
      have m2 : v6.cell? ⟨nb + 1, 2, none⟩ = some (.string m.ho) := R6.out.cmd.cell 2
      have HH := Lib.hid (fun v => refHold_any m.ty m.ho v HTy.out)
      obtain ⟨hx, hhx⟩ : ∃ hx, hx = (if shB m.ty then ⟨#[]⟩ else m.ho) := ⟨_, rfl⟩
      rw [← hhx] at HH
      have HX := Lib.hid hhx
      clear hhx
      go_wp2_with (fail)
      refine (HH.out _).mono ?_; rintro e v7 ⟨rfl, hb⟩
      have R7 := Lib.hid (R6.out.below hb); have HU7 := Lib.hid (HU6.out.below hb)
      have c1 : v7.cell? ⟨nb, 1, none⟩ = some (.int .i64 t.ty) := R7.out.box.cell 1
      have c2 : v7.cell? ⟨nb, 2, none⟩ = some (.string t.ho) := R7.out.box.cell 2
      have f1 : v7.frozen? ⟨nb, 1, none⟩ = false := R7.out.box.free 1
      have f2 : v7.frozen? ⟨nb, 2, none⟩ = false := R7.out.box.free 2
      clear m11 m2 hb R6 HU6
      go_upto_region 18 with (fail)
      have R8 := Lib.hid ((R7.out.put 1 (.int .i64 m.ty) (t' := { t with rs := S, ge := incG t.ge, ty := m.ty }) rfl rfl).put 2 (.string hx) (t' := holdT { t with rs := S, ge := incG t.ge } m) (by rw [HX.out]; rfl) rfl)
      have HU8 := Lib.hid (own_put2 (i := 1) (j := 2) (x := .int .i64 m.ty) (y := .string hx) HU7.out R7.out.box)
      generalize (v7.setCell ⟨nb, 1, none⟩ (.int .i64 m.ty)).setCell ⟨nb, 2, none⟩ (.string hx) = v8 at *
      clear c1 c2 f1 f2 R7 HU7
      obtain ⟨TT, hTT⟩ : ∃ x, x = holdT { t with rs := S, ge := incG t.ge } m := ⟨_, rfl⟩
      rw [← hTT] at R8
      have HTT := Lib.hid hTT
      clear hTT
      have HR8d := Lib.hid (R8.out.below (Below.refl _ _).drew)
      have HU8d := Lib.hid (HU8.out.below (Below.refl _ _).drew)
      have HCL := Lib.hid (fun v (hv : RdAt n0 nb w v Sa Sk TT m) => (⟨hv.box.cell 0, hv.box.cell 1, hv.box.cell 2, hv.box.cell 3, hv.box.cell 4⟩ : v.cell? ⟨nb, 0, none⟩ = some (.slice Sa TT.rs.length Sk) ∧ v.cell? ⟨nb, 1, none⟩ = some (.int .i64 TT.ty) ∧ v.cell? ⟨nb, 2, none⟩ = some (.string TT.ho) ∧ v.cell? ⟨nb, 3, none⟩ = some (.int .u32 TT.ge) ∧ v.cell? ⟨nb, 4, none⟩ = some (.bool TT.ap)))
      have d0 := HCL.out _ HR8d.out
      refine wp_region_noPanic ?_
      go_region_held (fun v => v.cell? ⟨nb, 0, none⟩ = some (.slice Sa TT.rs.length Sk) ∧ v.cell? ⟨nb, 1, none⟩ = some (.int .i64 TT.ty) ∧ v.cell? ⟨nb, 2, none⟩ = some (.string TT.ho) ∧ v.cell? ⟨nb, 3, none⟩ = some (.int .u32 TT.ge) ∧ v.cell? ⟨nb, 4, none⟩ = some (.bool TT.ap)) (first | with_reducible exact e2 | with_reducible exact e1 | with_reducible exact d0) (first
        | (go_at_call 42; refine (events_any Ua Uk U ⟨#[]⟩ 2 _ HU8d.out.rgs (by omega)).mono ?_; rintro e v9 ⟨B, kk, rfl, he, hb⟩; have R9 := Lib.hid (HR8d.out.below hb); have HE9 := Lib.hid (OwnE.base he HR8d.out.lt); have e1 := HCL.out _ R9.out; have b2 := far7 (x0 := .slice Sa TT.rs.length Sk) (x1 := .int .i64 TT.ty) (x2 := .string TT.ho) (x3 := .int .u32 TT.ge) (x4 := .bool TT.ap) (x5 := .slice B (evsOf 2 ⟨#[]⟩ U).length kk) (x6 := .int .i64 1) R9.out.box; have e2 := (⟨b2.cell 0, b2.cell 1, b2.cell 2, b2.cell 3, b2.cell 4⟩ : (((((((v9.setCell ⟨nb + 1 + 1, 0, none⟩ (.slice Sa TT.rs.length Sk)).setCell ⟨nb + 1 + 1, 1, none⟩ (.int .i64 TT.ty)).setCell ⟨nb + 1 + 1, 2, none⟩ (.string TT.ho)).setCell ⟨nb + 1 + 1, 3, none⟩ (.int .u32 TT.ge)).setCell ⟨nb + 1 + 1, 4, none⟩ (.bool TT.ap)).setCell ⟨nb + 1 + 1, 5, none⟩ (.slice B (evsOf 2 ⟨#[]⟩ U).length kk)).setCell ⟨nb + 1 + 1, 6, none⟩ (.int .i64 1)).cell? ⟨nb, 0, none⟩ = some (.slice Sa TT.rs.length Sk) ∧ (((((((v9.setCell ⟨nb + 1 + 1, 0, none⟩ (.slice Sa TT.rs.length Sk)).setCell ⟨nb + 1 + 1, 1, none⟩ (.int .i64 TT.ty)).setCell ⟨nb + 1 + 1, 2, none⟩ (.string TT.ho)).setCell ⟨nb + 1 + 1, 3, none⟩ (.int .u32 TT.ge)).setCell ⟨nb + 1 + 1, 4, none⟩ (.bool TT.ap)).setCell ⟨nb + 1 + 1, 5, none⟩ (.slice B (evsOf 2 ⟨#[]⟩ U).length kk)).setCell ⟨nb + 1 + 1, 6, none⟩ (.int .i64 1)).cell? ⟨nb, 1, none⟩ = some (.int .i64 TT.ty) ∧ (((((((v9.setCell ⟨nb + 1 + 1, 0, none⟩ (.slice Sa TT.rs.length Sk)).setCell ⟨nb + 1 + 1, 1, none⟩ (.int .i64 TT.ty)).setCell ⟨nb + 1 + 1, 2, none⟩ (.string TT.ho)).setCell ⟨nb + 1 + 1, 3, none⟩ (.int .u32 TT.ge)).setCell ⟨nb + 1 + 1, 4, none⟩ (.bool TT.ap)).setCell ⟨nb + 1 + 1, 5, none⟩ (.slice B (evsOf 2 ⟨#[]⟩ U).length kk)).setCell ⟨nb + 1 + 1, 6, none⟩ (.int .i64 1)).cell? ⟨nb, 2, none⟩ = some (.string TT.ho) ∧ (((((((v9.setCell ⟨nb + 1 + 1, 0, none⟩ (.slice Sa TT.rs.length Sk)).setCell ⟨nb + 1 + 1, 1, none⟩ (.int .i64 TT.ty)).setCell ⟨nb + 1 + 1, 2, none⟩ (.string TT.ho)).setCell ⟨nb + 1 + 1, 3, none⟩ (.int .u32 TT.ge)).setCell ⟨nb + 1 + 1, 4, none⟩ (.bool TT.ap)).setCell ⟨nb + 1 + 1, 5, none⟩ (.slice B (evsOf 2 ⟨#[]⟩ U).length kk)).setCell ⟨nb + 1 + 1, 6, none⟩ (.int .i64 1)).cell? ⟨nb, 3, none⟩ = some (.int .u32 TT.ge) ∧ (((((((v9.setCell ⟨nb + 1 + 1, 0, none⟩ (.slice Sa TT.rs.length Sk)).setCell ⟨nb + 1 + 1, 1, none⟩ (.int .i64 TT.ty)).setCell ⟨nb + 1 + 1, 2, none⟩ (.string TT.ho)).setCell ⟨nb + 1 + 1, 3, none⟩ (.int .u32 TT.ge)).setCell ⟨nb + 1 + 1, 4, none⟩ (.bool TT.ap)).setCell ⟨nb + 1 + 1, 5, none⟩ (.slice B (evsOf 2 ⟨#[]⟩ U).length kk)).setCell ⟨nb + 1 + 1, 6, none⟩ (.int .i64 1)).cell? ⟨nb, 4, none⟩ = some (.bool TT.ap)); clear b2; have r0 : v9.cell? ⟨nb + 1 + 1, 0, none⟩ = some (.slice none 0 0) := R9.out.res.cell 0; have q0 : v9.frozen? ⟨nb + 1 + 1, 0, none⟩ = false := R9.out.res.free 0; have r1 : v9.cell? ⟨nb + 1 + 1, 1, none⟩ = some (.int .i64 0) := R9.out.res.cell 1; have q1 : v9.frozen? ⟨nb + 1 + 1, 1, none⟩ = false := R9.out.res.free 1; have r2 : v9.cell? ⟨nb + 1 + 1, 2, none⟩ = some (.string ⟨#[]⟩) := R9.out.res.cell 2; have q2 : v9.frozen? ⟨nb + 1 + 1, 2, none⟩ = false := R9.out.res.free 2; have r3 : v9.cell? ⟨nb + 1 + 1, 3, none⟩ = some (.int .u32 0) := R9.out.res.cell 3; have q3 : v9.frozen? ⟨nb + 1 + 1, 3, none⟩ = false := R9.out.res.free 3; have r4 : v9.cell? ⟨nb + 1 + 1, 4, none⟩ = some (.bool false) := R9.out.res.cell 4; have q4 : v9.frozen? ⟨nb + 1 + 1, 4, none⟩ = false := R9.out.res.free 4; have r5 : v9.cell? ⟨nb + 1 + 1, 5, none⟩ = some (.slice none 0 0) := R9.out.res.cell 5; have q5 : v9.frozen? ⟨nb + 1 + 1, 5, none⟩ = false := R9.out.res.free 5; have r6 : v9.cell? ⟨nb + 1 + 1, 6, none⟩ = some (.int .i64 0) := R9.out.res.cell 6; have q6 : v9.frozen? ⟨nb + 1 + 1, 6, none⟩ = false := R9.out.res.free 6; clear he hb))
      all_goals (refine NoPanic.normal ?_)
      obtain ⟨es5, hes⟩ : ∃ x, x = evsOf 2 ⟨#[]⟩ U := ⟨_, rfl⟩
      rw [← hes] at HE9 ⊢
      have HES := Lib.hid hes
      clear hes e1 e2 d0
      go_wp2_with (fail)
      obtain ⟨hK, hO, hB⟩ := td_put R9.out HE9.out (1) _ rfl
      refine bodyPost_ret_by (results_cell_row rfl _ _ (nb + 1 + 1) 43 (tdC Sa Sk TT B kk es5 1) (0, 0) _ rfl hK Tryd.underlying43 rfl size43) rfl ?_
      have hT : TT = holdT ({ t with rs := t.rs.filter (fun r => !strB true m r), ge := incG t.ge }) m := by rw [HTT.out, HSq.out]
      have hE : es5 = evsOf 2 ⟨#[]⟩ (t.rs.filter (strB true m)) := by rw [HES.out, HUq.out]
      subst hT hE
      exact ⟨Sa, Sk, B, kk, rfl, hO.1, hO.2, hB⟩
set_option maxRecDepth 100000 in
set_option maxHeartbeats 4000000 in
theorem refPre_dy0 (n0 : Nat) (A : Option Addr) (c : Nat) (t : Tl) (m : Cm) (w : World) (ho : Own w n0 A c t.rs) (hn : n0 ≤ w.heap.size) (hm : t.rs.length ≤ 200) (hty : typeB m.ty = true) (h5 : ¬ (4 : Int) < t.ty) (halo : aloB t.ty = true) (hkq : (keyR t.rs t.ho == m.ot) = true) (z0 : (m.ot == 0) = false) (eU : (((t.rs.filter (strB false m)).length : Int) == 0) = true) :
    Calls Tryd.prog 43 #[tlV A c t, cmV m] w (RdOut n0 w (holdT ({ t with rs := t.rs.filter (fun r => !strB false m r), ge := incG t.ge }) m) (evsOf 2 ⟨#[]⟩ (t.rs.filter (strB false m))) (1)) := by
  have R0 := Lib.hid (RdAt.from w A c t m ho hn)
  have HM := Lib.hid (show t.rs.length ≤ maxLen by unfold maxLen; omega)
  have HM2 := Lib.hid hm
  have hnt := not_true
  have hnf := not_false
  obtain ⟨nb, hnb⟩ : ∃ nb, nb = w.heap.size := ⟨_, rfl⟩
  have HTy := Lib.hid hty
  clear ho hn hm hty
  go_enter Tryd.func43, Tryd.ntmps43
  go_upto_region 1 with (fail)
  change Code.wp _ _ _ _ (((w.alloc (.cells (tlC A c t) 27)).alloc (.cells (cmC m) 37)).alloc (.cells tdZ 43))
  generalize ((w.alloc (.cells (tlC A c t) 27)).alloc (.cells (cmC m) 37)).alloc (.cells tdZ 43) = v0 at *
  rw [← hnb] at R0 ⊢
  clear hnb
  have c0 : v0.cell? ⟨nb, 0, none⟩ = some (.slice A t.rs.length c) := R0.out.box.cell 0
  have c1 : v0.cell? ⟨nb, 1, none⟩ = some (.int .i64 t.ty) := R0.out.box.cell 1
  have c2 : v0.cell? ⟨nb, 2, none⟩ = some (.string t.ho) := R0.out.box.cell 2
  have c3 : v0.cell? ⟨nb, 3, none⟩ = some (.int .u32 t.ge) := R0.out.box.cell 3
  have c4 : v0.cell? ⟨nb, 4, none⟩ = some (.bool t.ap) := R0.out.box.cell 4
  have m10 : v0.cell? ⟨nb + 1, 10, none⟩ = some (.int .u64 m.ot) := R0.out.cmd.cell 10
  go_upto_region 2 with (fail)
  obtain ⟨C, hC0, hCl, hCi, hCm⟩ := class_of v0 (fun v => RdAt n0 nb w v A c t m) (fun v hb => R0.out.below hb)
  have HC0 := Lib.hid hC0; have HL := Lib.hid hCl; have HCm := Lib.hid hCm
  clear hC0 hCl hCi hCm m10
  clear c0 c1 c2 c3 c4
  have HA := Lib.hid (fun u => alone_any t.ty u)
  rw [halo] at HA
  have HK := Lib.hid (fun v (hv : C v) => refKey_any A c t t.ho v (HL.out v hv).own.rgs HM.out)
  refine wp_region_class C (by kernel_rfl) (by kernel_rfl) HC0.out ?_
  go_big_quiet_want
  go_big_quiet_op
  first | go_big_quiet_on | (refine ⟨_, fun _ _ => rfl, ?_⟩; go_big_quiet_on)
  go_big_quiet_want
  go_big_quiet_op
  first | go_big_quiet_on | (refine ⟨_, fun _ _ => rfl, ?_⟩; go_big_quiet_on)
  go_big_quiet_want
  go_big_quiet_op
  first | go_big_quiet_on | (refine ⟨_, fun _ _ => rfl, ?_⟩; go_big_quiet_on)
  go_big_quiet_want
  go_big_quiet_op
  first | go_big_quiet_on | (refine ⟨_, fun _ _ => rfl, ?_⟩; go_big_quiet_on)
  go_big_quiet_want
  refine quiet_run (v := .int .i64 t.ty) (fun v hv => by have h := HL.out v hv; have c0 : v.cell? ⟨nb, 0, none⟩ = some (.slice A t.rs.length c) := h.box.cell 0; have c1 : v.cell? ⟨nb, 1, none⟩ = some (.int .i64 t.ty) := h.box.cell 1; have c2 : v.cell? ⟨nb, 2, none⟩ = some (.string t.ho) := h.box.cell 2; have c3 : v.cell? ⟨nb, 3, none⟩ = some (.int .u32 t.ge) := h.box.cell 3; have c4 : v.cell? ⟨nb, 4, none⟩ = some (.bool t.ap) := h.box.cell 4; have m10 : v.cell? ⟨nb + 1, 10, none⟩ = some (.int .u64 m.ot) := h.cmd.cell 10; go_simp) ?_
  simp only [Act.put, List.setIfInBounds_toArray, List.set_cons_zero, List.set_cons_succ]
  go_big_quiet_on
  go_big_quiet_want
  refine quiet_call (f := 32) (args := #[.int .i64 t.ty]) (fun v _ => by go_simp) (fun v hv => (HA.out v).mono (fun e w' h => ⟨h.1, h.2 ▸ hv⟩)) ?_
  simp only [Act.put, List.setIfInBounds_toArray, List.set_cons_zero, List.set_cons_succ]
  go_big_quiet_on
  go_big_quiet_want
  go_big_quiet_op
  first | go_big_quiet_on | (refine ⟨_, fun _ _ => rfl, ?_⟩; go_big_quiet_on)
  go_big_quiet_want
  refine quiet_run (v := tlV A c t) (fun v hv => by have h := HL.out v hv; have c0 : v.cell? ⟨nb, 0, none⟩ = some (.slice A t.rs.length c) := h.box.cell 0; have c1 : v.cell? ⟨nb, 1, none⟩ = some (.int .i64 t.ty) := h.box.cell 1; have c2 : v.cell? ⟨nb, 2, none⟩ = some (.string t.ho) := h.box.cell 2; have c3 : v.cell? ⟨nb, 3, none⟩ = some (.int .u32 t.ge) := h.box.cell 3; have c4 : v.cell? ⟨nb, 4, none⟩ = some (.bool t.ap) := h.box.cell 4; have m10 : v.cell? ⟨nb + 1, 10, none⟩ = some (.int .u64 m.ot) := h.cmd.cell 10; go_simp) ?_
  simp only [Act.put, List.setIfInBounds_toArray, List.set_cons_zero, List.set_cons_succ]
  go_big_quiet_on
  go_big_quiet_want
  go_big_quiet_op
  first | go_big_quiet_on | (refine ⟨_, fun _ _ => rfl, ?_⟩; go_big_quiet_on)
  go_big_quiet_want
  go_big_quiet_op
  first | go_big_quiet_on | (refine ⟨_, fun _ _ => rfl, ?_⟩; go_big_quiet_on)
  go_big_quiet_want
  refine quiet_run (v := .string t.ho) (fun v hv => by have h := HL.out v hv; have c0 : v.cell? ⟨nb, 0, none⟩ = some (.slice A t.rs.length c) := h.box.cell 0; have c1 : v.cell? ⟨nb, 1, none⟩ = some (.int .i64 t.ty) := h.box.cell 1; have c2 : v.cell? ⟨nb, 2, none⟩ = some (.string t.ho) := h.box.cell 2; have c3 : v.cell? ⟨nb, 3, none⟩ = some (.int .u32 t.ge) := h.box.cell 3; have c4 : v.cell? ⟨nb, 4, none⟩ = some (.bool t.ap) := h.box.cell 4; have m10 : v.cell? ⟨nb + 1, 10, none⟩ = some (.int .u64 m.ot) := h.cmd.cell 10; go_simp) ?_
  simp only [Act.put, List.setIfInBounds_toArray, List.set_cons_zero, List.set_cons_succ]
  go_big_quiet_on
  go_big_quiet_want
  refine quiet_call (f := 17) (args := #[tlV A c t, .string t.ho]) (fun v _ => by go_simp) (fun v hv => (HK.out v hv).mono (fun e w' h => ⟨h.1, HCm.out v w' hv h.2⟩)) ?_
  simp only [Act.put, List.setIfInBounds_toArray, List.set_cons_zero, List.set_cons_succ]
  go_big_quiet_on
  go_big_quiet_want
  go_big_quiet_op
  first | go_big_quiet_on | (refine ⟨_, fun _ _ => rfl, ?_⟩; go_big_quiet_on)
  go_big_quiet_want
  refine quiet_run (v := .int .u64 m.ot) (fun v hv => by have h := HL.out v hv; have c0 : v.cell? ⟨nb, 0, none⟩ = some (.slice A t.rs.length c) := h.box.cell 0; have c1 : v.cell? ⟨nb, 1, none⟩ = some (.int .i64 t.ty) := h.box.cell 1; have c2 : v.cell? ⟨nb, 2, none⟩ = some (.string t.ho) := h.box.cell 2; have c3 : v.cell? ⟨nb, 3, none⟩ = some (.int .u32 t.ge) := h.box.cell 3; have c4 : v.cell? ⟨nb, 4, none⟩ = some (.bool t.ap) := h.box.cell 4; have m10 : v.cell? ⟨nb + 1, 10, none⟩ = some (.int .u64 m.ot) := h.cmd.cell 10; go_simp) ?_
  simp only [Act.put, List.setIfInBounds_toArray, List.set_cons_zero, List.set_cons_succ]
  go_big_quiet_on
  go_big_quiet_want
  go_big_quiet_op
  first | go_big_quiet_on | (refine ⟨_, fun _ _ => rfl, ?_⟩; go_big_quiet_on)
  go_big_quiet_want
  go_big_quiet_op
  first | go_big_quiet_on | (refine ⟨_, fun _ _ => rfl, ?_⟩; go_big_quiet_on)
  go_big_quiet_want
  go_big_quiet_op
  first | go_big_quiet_on | (refine ⟨_, fun _ _ => rfl, ?_⟩; go_big_quiet_on)
  go_big_quiet_want
  go_big_quiet_op
  first | go_big_quiet_on | (refine ⟨_, fun _ _ => rfl, ?_⟩; go_big_quiet_on)
  intro v1 hC1
  have R1 := Lib.hid (HL.out v1 hC1)
  clear hC1 HC0 HL HCm R0
  have m10 : v1.cell? ⟨nb + 1, 10, none⟩ = some (.int .u64 m.ot) := R1.out.cmd.cell 10
  obtain ⟨q, hq⟩ : ∃ q, q = strB false m := ⟨_, rfl⟩
  have HQ := Lib.hid hq
  clear hq
  go_wp2_with (fail)
  go_loopw [7, 8, 9] (fun s7 s8 i wr => ∃ (k : Nat) (Sa : Option Addr) (Sk : Nat) (Ua : Option Addr) (Uk : Nat), k ≤ t.rs.length ∧ i = .int .i64 k ∧ s7 = .slice Sa ((t.rs.take k).filter (fun r => !q r)).length Sk ∧ s8 = .slice Ua ((t.rs.take k).filter q).length Uk ∧ Hid (PrI n0 nb w wr A c t m Sa Sk ((t.rs.take k).filter (fun r => !q r)) Ua Uk ((t.rs.take k).filter q))) (fun _ _ i _ => t.rs.length - (intOf i).toNat)
  case atStart => exact ⟨0, none, 0, none, 0, Nat.zero_le _, rfl, rfl, rfl, Lib.hid (PrI.first R1.out)⟩
  case round =>
    clear R1 m10
    obtain ⟨k, Sa, Sk, Ua, Uk, hk, rfl, rfl, rfl, HR⟩ := hrel
    have c0 : wr.cell? ⟨nb, 0, none⟩ = some (.slice A t.rs.length c) := HR.out.r.box.cell 0
    by_cases hlt : k < t.rs.length
    · have hltI : (k : Int) < t.rs.length := by omega
      obtain ⟨b, o, x, rfl, hx, hz, d0, d1⟩ := HR.out.r.own.rgs.at_ hlt
      have m2 : wr.cell? ⟨nb + 1, 2, none⟩ = some (.string m.ho) := HR.out.r.cmd.cell 2
      have m10 : wr.cell? ⟨nb + 1, 10, none⟩ = some (.int .u64 m.ot) := HR.out.r.cmd.cell 10
      have F1 := Lib.hid (filter_take q t.rs k x hx)
      have F2 := Lib.hid (filter_take (fun r => !q r) t.rs k x hx)
      have HLs : Hid (((t.rs.take k).filter (fun r => !q r)).length ≤ 1000 ∧ ((t.rs.take k).filter q).length ≤ 1000) := by
        have a1 := List.length_filter_le q (t.rs.take k)
        have a2 := List.length_filter_le (fun r => !q r) (t.rs.take k)
        have a3 : (t.rs.take k).length ≤ k := by rw [List.length_take]; exact Nat.min_le_left _ _
        have a4 := HM2.out
        exact Lib.hid ⟨by omega, by omega⟩
      have HZ := Lib.hid hz
      have hm2 := HM2.out
      clear hx hz
      cases e1 : (x.h.toList == m.ho.toList) with
      | true =>
        have e2 : (x.h.toList != m.ho.toList) = false := by simp [bne, e1]
        have hqx : strB false m x = false := by show (!eqS x.h m.ho && _) = false; rw [show eqS x.h m.ho = true from e1]; rfl
        have HQx := Lib.hid (show q x = false by rw [HQ.out]; exact hqx)
        have G1 := Lib.hid (show (t.rs.take (k + 1)).filter q = (t.rs.take k).filter q by rw [F1.out, HQx.out]; simp)
        have G2 := Lib.hid (show (t.rs.take (k + 1)).filter (fun r => !q r) = (t.rs.take k).filter (fun r => !q r) ++ [x] by rw [F2.out, HQx.out]; simp)
        clear F1 F2 hqx
        generalize (t.rs.take k).filter q = U at *
        generalize (t.rs.take k).filter (fun r => !q r) = S at *
        go_upto_region 9 with (fail)
        go_quiet (fail)
        have HD := Lib.hid (HR.out.below (below_drewN (Below.refl _ _) nq))
        have g0 : (wr.drewN nq).cell? ⟨nb, 0, none⟩ = some (.slice (some ⟨b, o, none⟩) t.rs.length c) := c0
        have g1 : (wr.drewN nq).cell? ⟨b, o + k * 2, none⟩ = some (.string x.h) := d0
        have g2 : (wr.drewN nq).cell? ⟨b, o + k * 2 + 1, none⟩ = some (.int .u64 x.k) := d1
        clear c0 d0 d1 m2 m10 HR
        generalize wr.drewN nq = wd at *
        have HOA := Lib.hid (HD.out.below ((Below.refl wd.heap.size wd).alloc (Nat.le_refl _) (.cells (regC x) 57)))
        go_wp2_with (at_builtin; refine wpList_append_one rfl (.tmp 83) (.tmp 89) rfl n0 Sa Sk S rfl HOA.out.s wd.heap.size x rfl HZ.out (Blk.new wd 57 _) (by have := HLs.out; omega) HOA.out.r.lt ?_; intro A3 cc w3 hn3 hg3 hb3; have H3 := Lib.hid (HOA.out.stay hn3 hg3 hb3); clear hn3 hg3 hb3)
        go_roundw
        case rel => exact ⟨k + 1, A3, cc, Ua, Uk, by omega, by go_num, by rw [G2.out]; simp, by rw [G1.out], Lib.hid (by rw [G1.out, G2.out]; exact H3.out)⟩
        case measure => simp [intOf]; omega
      | false =>
        have e2 : (x.h.toList != m.ho.toList) = true := by simp [bne, e1]
        cases e3 : (x.k == m.ot) with
        | true =>
          have hqx : strB false m x = true := by
            have e4 : x.k = m.ot := by simpa using e3
            show (!eqS x.h m.ho && (false || decide (x.k = m.ot))) = true; rw [show eqS x.h m.ho = false from e1, decide_eq_true e4]; rfl
          have HQx := Lib.hid (show q x = true by rw [HQ.out]; exact hqx)
          have G1 := Lib.hid (show (t.rs.take (k + 1)).filter q = (t.rs.take k).filter q ++ [x] by rw [F1.out, HQx.out]; simp)
          have G2 := Lib.hid (show (t.rs.take (k + 1)).filter (fun r => !q r) = (t.rs.take k).filter (fun r => !q r) by rw [F2.out, HQx.out]; simp)
          clear F1 F2 hqx
          generalize (t.rs.take k).filter q = U at *
          generalize (t.rs.take k).filter (fun r => !q r) = S at *
          go_upto_region 9 with (fail)
          go_quiet (fail)
          have HD := Lib.hid (HR.out.below (below_drewN (Below.refl _ _) nq))
          have g0 : (wr.drewN nq).cell? ⟨nb, 0, none⟩ = some (.slice (some ⟨b, o, none⟩) t.rs.length c) := c0
          have g1 : (wr.drewN nq).cell? ⟨b, o + k * 2, none⟩ = some (.string x.h) := d0
          have g2 : (wr.drewN nq).cell? ⟨b, o + k * 2 + 1, none⟩ = some (.int .u64 x.k) := d1
          clear c0 d0 d1 m2 m10 HR
          generalize wr.drewN nq = wd at *
          have HOA := Lib.hid (HD.out.below ((Below.refl wd.heap.size wd).alloc (Nat.le_refl _) (.cells (regC x) 57)))
          go_wp2_with (at_builtin; refine wpList_append_one rfl (.tmp 75) (.tmp 81) rfl n0 Ua Uk U rfl HOA.out.u wd.heap.size x rfl HZ.out (Blk.new wd 57 _) (by have := HLs.out; omega) HOA.out.r.lt ?_; intro A3 cc w3 hn3 hg3 hb3; have H3 := Lib.hid (HOA.out.struck hn3 hg3 hb3); clear hn3 hg3 hb3)
          go_roundw
          case rel => exact ⟨k + 1, Sa, Sk, A3, cc, by omega, by go_num, by rw [G2.out], by rw [G1.out]; simp, Lib.hid (by rw [G1.out, G2.out]; exact H3.out)⟩
          case measure => simp [intOf]; omega
        | false =>
          have hqx : strB false m x = false := by
            have e4 : ¬ x.k = m.ot := by simpa using e3
            show (!eqS x.h m.ho && (false || decide (x.k = m.ot))) = false; rw [show eqS x.h m.ho = false from e1, decide_eq_false e4]; rfl
          have HQx := Lib.hid (show q x = false by rw [HQ.out]; exact hqx)
          have G1 := Lib.hid (show (t.rs.take (k + 1)).filter q = (t.rs.take k).filter q by rw [F1.out, HQx.out]; simp)
          have G2 := Lib.hid (show (t.rs.take (k + 1)).filter (fun r => !q r) = (t.rs.take k).filter (fun r => !q r) ++ [x] by rw [F2.out, HQx.out]; simp)
          clear F1 F2 hqx
          generalize (t.rs.take k).filter q = U at *
          generalize (t.rs.take k).filter (fun r => !q r) = S at *
          go_upto_region 9 with (fail)
          go_quiet (fail)
          have HD := Lib.hid (HR.out.below (below_drewN (Below.refl _ _) nq))
          have g0 : (wr.drewN nq).cell? ⟨nb, 0, none⟩ = some (.slice (some ⟨b, o, none⟩) t.rs.length c) := c0
          have g1 : (wr.drewN nq).cell? ⟨b, o + k * 2, none⟩ = some (.string x.h) := d0
          have g2 : (wr.drewN nq).cell? ⟨b, o + k * 2 + 1, none⟩ = some (.int .u64 x.k) := d1
          clear c0 d0 d1 m2 m10 HR
          generalize wr.drewN nq = wd at *
          have HOA := Lib.hid (HD.out.below ((Below.refl wd.heap.size wd).alloc (Nat.le_refl _) (.cells (regC x) 57)))
          go_wp2_with (at_builtin; refine wpList_append_one rfl (.tmp 83) (.tmp 89) rfl n0 Sa Sk S rfl HOA.out.s wd.heap.size x rfl HZ.out (Blk.new wd 57 _) (by have := HLs.out; omega) HOA.out.r.lt ?_; intro A3 cc w3 hn3 hg3 hb3; have H3 := Lib.hid (HOA.out.stay hn3 hg3 hb3); clear hn3 hg3 hb3)
          go_roundw
          case rel => exact ⟨k + 1, A3, cc, Ua, Uk, by omega, by go_num, by rw [G2.out]; simp, by rw [G1.out], Lib.hid (by rw [G1.out, G2.out]; exact H3.out)⟩
          case measure => simp [intOf]; omega
    · obtain rfl : k = t.rs.length := by omega
      simp only [List.take_length] at HR ⊢
      obtain ⟨U, hU⟩ : ∃ U, U = t.rs.filter q := ⟨_, rfl⟩
      obtain ⟨S, hS⟩ : ∃ S, S = t.rs.filter (fun r => !q r) := ⟨_, rfl⟩
      rw [← hU, ← hS] at HR ⊢
      have HUq := Lib.hid (hU.trans (by rw [HQ.out])); have HSq := Lib.hid (hS.trans (by rw [HQ.out]))
      have eU' : ((U.length : Int) == 0) = true := by rw [hU, HQ.out]; exact eU
      have hUl : U.length ≤ 200 := by rw [hU]; exact Nat.le_trans (List.length_filter_le _ _) HM2.out
      clear hU hS eU
      have c0 : wr.cell? ⟨nb, 0, none⟩ = some (.slice A t.rs.length c) := HR.out.r.box.cell 0
      have c3 : wr.cell? ⟨nb, 3, none⟩ = some (.int .u32 t.ge) := HR.out.r.box.cell 3
      have f0 : wr.frozen? ⟨nb, 0, none⟩ = false := HR.out.r.box.free 0
      have f3 : wr.frozen? ⟨nb, 3, none⟩ = false := HR.out.r.box.free 3
      have hig : IntKind.u32.wrap (t.ge + 1) = incG t.ge := rfl
      have R6 := Lib.hid ((HR.out.r.rows (.inr (Below.refl _ _)) HR.out.s).put 3 (.int .u32 (incG t.ge)) (t' := { t with rs := S, ge := incG t.ge }) rfl rfl)
      have HU6 := Lib.hid (own_put2 (i := 0) (j := 3) (x := .slice Sa S.length Sk) (y := .int .u32 (incG t.ge)) HR.out.u HR.out.r.box)
      go_upto_region 16 with (fail)
      generalize (wr.setCell ⟨nb, 0, none⟩ (.slice Sa S.length Sk)).setCell ⟨nb, 3, none⟩ (.int .u32 (incG t.ge)) = v6 at *
      clear c0 c3 f0 f3 hig HR eU'
      have m11 : v6.cell? ⟨nb + 1, 11, none⟩ = some (.int .i64 m.ty) := R6.out.cmd.cell 11
      have m2 : v6.cell? ⟨nb + 1, 2, none⟩ = some (.string m.ho) := R6.out.cmd.cell 2
      have HH := Lib.hid (fun v => refHold_any m.ty m.ho v HTy.out)
      obtain ⟨hx, hhx⟩ : ∃ hx, hx = (if shB m.ty then ⟨#[]⟩ else m.ho) := ⟨_, rfl⟩
      rw [← hhx] at HH
      have HX := Lib.hid hhx
      clear hhx
      go_wp2_with (fail)
      refine (HH.out _).mono ?_; rintro e v7 ⟨rfl, hb⟩
      have R7 := Lib.hid (R6.out.below hb); have HU7 := Lib.hid (HU6.out.below hb)
      have c1 : v7.cell? ⟨nb, 1, none⟩ = some (.int .i64 t.ty) := R7.out.box.cell 1
      have c2 : v7.cell? ⟨nb, 2, none⟩ = some (.string t.ho) := R7.out.box.cell 2
      have f1 : v7.frozen? ⟨nb, 1, none⟩ = false := R7.out.box.free 1
      have f2 : v7.frozen? ⟨nb, 2, none⟩ = false := R7.out.box.free 2
      clear m11 m2 hb R6 HU6
      go_upto_region 18 with (fail)
      have R8 := Lib.hid ((R7.out.put 1 (.int .i64 m.ty) (t' := { t with rs := S, ge := incG t.ge, ty := m.ty }) rfl rfl).put 2 (.string hx) (t' := holdT { t with rs := S, ge := incG t.ge } m) (by rw [HX.out]; rfl) rfl)
      have HU8 := Lib.hid (own_put2 (i := 1) (j := 2) (x := .int .i64 m.ty) (y := .string hx) HU7.out R7.out.box)
      generalize (v7.setCell ⟨nb, 1, none⟩ (.int .i64 m.ty)).setCell ⟨nb, 2, none⟩ (.string hx) = v8 at *
      clear c1 c2 f1 f2 R7 HU7
      obtain ⟨TT, hTT⟩ : ∃ x, x = holdT { t with rs := S, ge := incG t.ge } m := ⟨_, rfl⟩
      rw [← hTT] at R8
      have HTT := Lib.hid hTT
      clear hTT
      have HR8d := Lib.hid (R8.out.below (Below.refl _ _).drew)
      have HU8d := Lib.hid (HU8.out.below (Below.refl _ _).drew)
      have HCL := Lib.hid (fun v (hv : RdAt n0 nb w v Sa Sk TT m) => (⟨hv.box.cell 0, hv.box.cell 1, hv.box.cell 2, hv.box.cell 3, hv.box.cell 4⟩ : v.cell? ⟨nb, 0, none⟩ = some (.slice Sa TT.rs.length Sk) ∧ v.cell? ⟨nb, 1, none⟩ = some (.int .i64 TT.ty) ∧ v.cell? ⟨nb, 2, none⟩ = some (.string TT.ho) ∧ v.cell? ⟨nb, 3, none⟩ = some (.int .u32 TT.ge) ∧ v.cell? ⟨nb, 4, none⟩ = some (.bool TT.ap)))
      have d0 := HCL.out _ HR8d.out
      refine wp_region_noPanic ?_
      go_region_held (fun v => v.cell? ⟨nb, 0, none⟩ = some (.slice Sa TT.rs.length Sk) ∧ v.cell? ⟨nb, 1, none⟩ = some (.int .i64 TT.ty) ∧ v.cell? ⟨nb, 2, none⟩ = some (.string TT.ho) ∧ v.cell? ⟨nb, 3, none⟩ = some (.int .u32 TT.ge) ∧ v.cell? ⟨nb, 4, none⟩ = some (.bool TT.ap)) (first | with_reducible exact e2 | with_reducible exact e1 | with_reducible exact d0) (first
        | (go_at_call 42; refine (events_any Ua Uk U ⟨#[]⟩ 2 _ HU8d.out.rgs (by omega)).mono ?_; rintro e v9 ⟨B, kk, rfl, he, hb⟩; have R9 := Lib.hid (HR8d.out.below hb); have HE9 := Lib.hid (OwnE.base he HR8d.out.lt); have e1 := HCL.out _ R9.out; have b2 := far7 (x0 := .slice Sa TT.rs.length Sk) (x1 := .int .i64 TT.ty) (x2 := .string TT.ho) (x3 := .int .u32 TT.ge) (x4 := .bool TT.ap) (x5 := .slice B (evsOf 2 ⟨#[]⟩ U).length kk) (x6 := .int .i64 1) R9.out.box; have e2 := (⟨b2.cell 0, b2.cell 1, b2.cell 2, b2.cell 3, b2.cell 4⟩ : (((((((v9.setCell ⟨nb + 1 + 1, 0, none⟩ (.slice Sa TT.rs.length Sk)).setCell ⟨nb + 1 + 1, 1, none⟩ (.int .i64 TT.ty)).setCell ⟨nb + 1 + 1, 2, none⟩ (.string TT.ho)).setCell ⟨nb + 1 + 1, 3, none⟩ (.int .u32 TT.ge)).setCell ⟨nb + 1 + 1, 4, none⟩ (.bool TT.ap)).setCell ⟨nb + 1 + 1, 5, none⟩ (.slice B (evsOf 2 ⟨#[]⟩ U).length kk)).setCell ⟨nb + 1 + 1, 6, none⟩ (.int .i64 1)).cell? ⟨nb, 0, none⟩ = some (.slice Sa TT.rs.length Sk) ∧ (((((((v9.setCell ⟨nb + 1 + 1, 0, none⟩ (.slice Sa TT.rs.length Sk)).setCell ⟨nb + 1 + 1, 1, none⟩ (.int .i64 TT.ty)).setCell ⟨nb + 1 + 1, 2, none⟩ (.string TT.ho)).setCell ⟨nb + 1 + 1, 3, none⟩ (.int .u32 TT.ge)).setCell ⟨nb + 1 + 1, 4, none⟩ (.bool TT.ap)).setCell ⟨nb + 1 + 1, 5, none⟩ (.slice B (evsOf 2 ⟨#[]⟩ U).length kk)).setCell ⟨nb + 1 + 1, 6, none⟩ (.int .i64 1)).cell? ⟨nb, 1, none⟩ = some (.int .i64 TT.ty) ∧ (((((((v9.setCell ⟨nb + 1 + 1, 0, none⟩ (.slice Sa TT.rs.length Sk)).setCell ⟨nb + 1 + 1, 1, none⟩ (.int .i64 TT.ty)).setCell ⟨nb + 1 + 1, 2, none⟩ (.string TT.ho)).setCell ⟨nb + 1 + 1, 3, none⟩ (.int .u32 TT.ge)).setCell ⟨nb + 1 + 1, 4, none⟩ (.bool TT.ap)).setCell ⟨nb + 1 + 1, 5, none⟩ (.slice B (evsOf 2 ⟨#[]⟩ U).length kk)).setCell ⟨nb + 1 + 1, 6, none⟩ (.int .i64 1)).cell? ⟨nb, 2, none⟩ = some (.string TT.ho) ∧ (((((((v9.setCell ⟨nb + 1 + 1, 0, none⟩ (.slice Sa TT.rs.length Sk)).setCell ⟨nb + 1 + 1, 1, none⟩ (.int .i64 TT.ty)).setCell ⟨nb + 1 + 1, 2, none⟩ (.string TT.ho)).setCell ⟨nb + 1 + 1, 3, none⟩ (.int .u32 TT.ge)).setCell ⟨nb + 1 + 1, 4, none⟩ (.bool TT.ap)).setCell ⟨nb + 1 + 1, 5, none⟩ (.slice B (evsOf 2 ⟨#[]⟩ U).length kk)).setCell ⟨nb + 1 + 1, 6, none⟩ (.int .i64 1)).cell? ⟨nb, 3, none⟩ = some (.int .u32 TT.ge) ∧ (((((((v9.setCell ⟨nb + 1 + 1, 0, none⟩ (.slice Sa TT.rs.length Sk)).setCell ⟨nb + 1 + 1, 1, none⟩ (.int .i64 TT.ty)).setCell ⟨nb + 1 + 1, 2, none⟩ (.string TT.ho)).setCell ⟨nb + 1 + 1, 3, none⟩ (.int .u32 TT.ge)).setCell ⟨nb + 1 + 1, 4, none⟩ (.bool TT.ap)).setCell ⟨nb + 1 + 1, 5, none⟩ (.slice B (evsOf 2 ⟨#[]⟩ U).length kk)).setCell ⟨nb + 1 + 1, 6, none⟩ (.int .i64 1)).cell? ⟨nb, 4, none⟩ = some (.bool TT.ap)); clear b2; have r0 : v9.cell? ⟨nb + 1 + 1, 0, none⟩ = some (.slice none 0 0) := R9.out.res.cell 0; have q0 : v9.frozen? ⟨nb + 1 + 1, 0, none⟩ = false := R9.out.res.free 0; have r1 : v9.cell? ⟨nb + 1 + 1, 1, none⟩ = some (.int .i64 0) := R9.out.res.cell 1; have q1 : v9.frozen? ⟨nb + 1 + 1, 1, none⟩ = false := R9.out.res.free 1; have r2 : v9.cell? ⟨nb + 1 + 1, 2, none⟩ = some (.string ⟨#[]⟩) := R9.out.res.cell 2; have q2 : v9.frozen? ⟨nb + 1 + 1, 2, none⟩ = false := R9.out.res.free 2; have r3 : v9.cell? ⟨nb + 1 + 1, 3, none⟩ = some (.int .u32 0) := R9.out.res.cell 3; have q3 : v9.frozen? ⟨nb + 1 + 1, 3, none⟩ = false := R9.out.res.free 3; have r4 : v9.cell? ⟨nb + 1 + 1, 4, none⟩ = some (.bool false) := R9.out.res.cell 4; have q4 : v9.frozen? ⟨nb + 1 + 1, 4, none⟩ = false := R9.out.res.free 4; have r5 : v9.cell? ⟨nb + 1 + 1, 5, none⟩ = some (.slice none 0 0) := R9.out.res.cell 5; have q5 : v9.frozen? ⟨nb + 1 + 1, 5, none⟩ = false := R9.out.res.free 5; have r6 : v9.cell? ⟨nb + 1 + 1, 6, none⟩ = some (.int .i64 0) := R9.out.res.cell 6; have q6 : v9.frozen? ⟨nb + 1 + 1, 6, none⟩ = false := R9.out.res.free 6; clear he hb))
      all_goals (refine NoPanic.normal ?_)
      obtain ⟨es5, hes⟩ : ∃ x, x = evsOf 2 ⟨#[]⟩ U := ⟨_, rfl⟩
      rw [← hes] at HE9 ⊢
      have HES := Lib.hid hes
      clear hes e1 e2 d0
      go_wp2_with (fail)
      obtain ⟨hK, hO, hB⟩ := td_put R9.out HE9.out (1) _ rfl
      refine bodyPost_ret_by (results_cell_row rfl _ _ (nb + 1 + 1) 43 (tdC Sa Sk TT B kk es5 1) (0, 0) _ rfl hK Tryd.underlying43 rfl size43) rfl ?_
      have hT : TT = holdT ({ t with rs := t.rs.filter (fun r => !strB false m r), ge := incG t.ge }) m := by rw [HTT.out, HSq.out]
      have hE : es5 = evsOf 2 ⟨#[]⟩ (t.rs.filter (strB false m)) := by rw [HES.out, HUq.out]
      subst hT hE
      exact ⟨Sa, Sk, B, kk, rfl, hO.1, hO.2, hB⟩
set_option maxRecDepth 100000 in
set_option maxHeartbeats 4000000 in
theorem refPre_dy1 (n0 : Nat) (A : Option Addr) (c : Nat) (t : Tl) (m : Cm) (w : World) (ho : Own w n0 A c t.rs) (hn : n0 ≤ w.heap.size) (hm : t.rs.length ≤ 200) (hty : typeB m.ty = true) (h5 : ¬ (4 : Int) < t.ty) (halo : aloB t.ty = true) (hkq : (keyR t.rs t.ho == m.ot) = true) (z0 : (m.ot == 0) = false) (eU : (((t.rs.filter (strB false m)).length : Int) == 0) = false) :
    Calls Tryd.prog 43 #[tlV A c t, cmV m] w (RdOut n0 w (holdT ({ t with rs := t.rs.filter (fun r => !strB false m r), ge := incG t.ge }) m) (evsOf 2 ⟨#[]⟩ (t.rs.filter (strB false m))) (1)) := by
  have R0 := Lib.hid (RdAt.from w A c t m ho hn)
  have HM := Lib.hid (show t.rs.length ≤ maxLen by unfold maxLen; omega)
  have HM2 := Lib.hid hm
  have hnt := not_true
  have hnf := not_false
  obtain ⟨nb, hnb⟩ : ∃ nb, nb = w.heap.size := ⟨_, rfl⟩
  have HTy := Lib.hid hty
  clear ho hn hm hty
  go_enter Tryd.func43, Tryd.ntmps43
  go_upto_region 1 with (fail)
  change Code.wp _ _ _ _ (((w.alloc (.cells (tlC A c t) 27)).alloc (.cells (cmC m) 37)).alloc (.cells tdZ 43))
  generalize ((w.alloc (.cells (tlC A c t) 27)).alloc (.cells (cmC m) 37)).alloc (.cells tdZ 43) = v0 at *
  rw [← hnb] at R0 ⊢
  clear hnb
  have c0 : v0.cell? ⟨nb, 0, none⟩ = some (.slice A t.rs.length c) := R0.out.box.cell 0
  have c1 : v0.cell? ⟨nb, 1, none⟩ = some (.int .i64 t.ty) := R0.out.box.cell 1
  have c2 : v0.cell? ⟨nb, 2, none⟩ = some (.string t.ho) := R0.out.box.cell 2
  have c3 : v0.cell? ⟨nb, 3, none⟩ = some (.int .u32 t.ge) := R0.out.box.cell 3
  have c4 : v0.cell? ⟨nb, 4, none⟩ = some (.bool t.ap) := R0.out.box.cell 4
  have m10 : v0.cell? ⟨nb + 1, 10, none⟩ = some (.int .u64 m.ot) := R0.out.cmd.cell 10
  go_upto_region 2 with (fail)
  obtain ⟨C, hC0, hCl, hCi, hCm⟩ := class_of v0 (fun v => RdAt n0 nb w v A c t m) (fun v hb => R0.out.below hb)
  have HC0 := Lib.hid hC0; have HL := Lib.hid hCl; have HCm := Lib.hid hCm
  clear hC0 hCl hCi hCm m10
  clear c0 c1 c2 c3 c4
  have HA := Lib.hid (fun u => alone_any t.ty u)
  rw [halo] at HA
  have HK := Lib.hid (fun v (hv : C v) => refKey_any A c t t.ho v (HL.out v hv).own.rgs HM.out)
  refine wp_region_class C (by kernel_rfl) (by kernel_rfl) HC0.out ?_
  go_big_quiet_want
  go_big_quiet_op
  first | go_big_quiet_on | (refine ⟨_, fun _ _ => rfl, ?_⟩; go_big_quiet_on)
  go_big_quiet_want
  go_big_quiet_op
  first | go_big_quiet_on | (refine ⟨_, fun _ _ => rfl, ?_⟩; go_big_quiet_on)
  go_big_quiet_want
  go_big_quiet_op
  first | go_big_quiet_on | (refine ⟨_, fun _ _ => rfl, ?_⟩; go_big_quiet_on)
  go_big_quiet_want
  go_big_quiet_op
  first | go_big_quiet_on | (refine ⟨_, fun _ _ => rfl, ?_⟩; go_big_quiet_on)
  go_big_quiet_want
  refine quiet_run (v := .int .i64 t.ty) (fun v hv => by have h := HL.out v hv; have c0 : v.cell? ⟨nb, 0, none⟩ = some (.slice A t.rs.length c) := h.box.cell 0; have c1 : v.cell? ⟨nb, 1, none⟩ = some (.int .i64 t.ty) := h.box.cell 1; have c2 : v.cell? ⟨nb, 2, none⟩ = some (.string t.ho) := h.box.cell 2; have c3 : v.cell? ⟨nb, 3, none⟩ = some (.int .u32 t.ge) := h.box.cell 3; have c4 : v.cell? ⟨nb, 4, none⟩ = some (.bool t.ap) := h.box.cell 4; have m10 : v.cell? ⟨nb + 1, 10, none⟩ = some (.int .u64 m.ot) := h.cmd.cell 10; go_simp) ?_
  simp only [Act.put, List.setIfInBounds_toArray, List.set_cons_zero, List.set_cons_succ]
  go_big_quiet_on
  go_big_quiet_want
  refine quiet_call (f := 32) (args := #[.int .i64 t.ty]) (fun v _ => by go_simp) (fun v hv => (HA.out v).mono (fun e w' h => ⟨h.1, h.2 ▸ hv⟩)) ?_
  simp only [Act.put, List.setIfInBounds_toArray, List.set_cons_zero, List.set_cons_succ]
  go_big_quiet_on
  go_big_quiet_want
  go_big_quiet_op
  first | go_big_quiet_on | (refine ⟨_, fun _ _ => rfl, ?_⟩; go_big_quiet_on)
  go_big_quiet_want
  refine quiet_run (v := tlV A c t) (fun v hv => by have h := HL.out v hv; have c0 : v.cell? ⟨nb, 0, none⟩ = some (.slice A t.rs.length c) := h.box.cell 0; have c1 : v.cell? ⟨nb, 1, none⟩ = some (.int .i64 t.ty) := h.box.cell 1; have c2 : v.cell? ⟨nb, 2, none⟩ = some (.string t.ho) := h.box.cell 2; have c3 : v.cell? ⟨nb, 3, none⟩ = some (.int .u32 t.ge) := h.box.cell 3; have c4 : v.cell? ⟨nb, 4, none⟩ = some (.bool t.ap) := h.box.cell 4; have m10 : v.cell? ⟨nb + 1, 10, none⟩ = some (.int .u64 m.ot) := h.cmd.cell 10; go_simp) ?_
  simp only [Act.put, List.setIfInBounds_toArray, List.set_cons_zero, List.set_cons_succ]
  go_big_quiet_on
  go_big_quiet_want
  go_big_quiet_op
  first | go_big_quiet_on | (refine ⟨_, fun _ _ => rfl, ?_⟩; go_big_quiet_on)
  go_big_quiet_want
  go_big_quiet_op
  first | go_big_quiet_on | (refine ⟨_, fun _ _ => rfl, ?_⟩; go_big_quiet_on)
  go_big_quiet_want
  refine quiet_run (v := .string t.ho) (fun v hv => by have h := HL.out v hv; have c0 : v.cell? ⟨nb, 0, none⟩ = some (.slice A t.rs.length c) := h.box.cell 0; have c1 : v.cell? ⟨nb, 1, none⟩ = some (.int .i64 t.ty) := h.box.cell 1; have c2 : v.cell? ⟨nb, 2, none⟩ = some (.string t.ho) := h.box.cell 2; have c3 : v.cell? ⟨nb, 3, none⟩ = some (.int .u32 t.ge) := h.box.cell 3; have c4 : v.cell? ⟨nb, 4, none⟩ = some (.bool t.ap) := h.box.cell 4; have m10 : v.cell? ⟨nb + 1, 10, none⟩ = some (.int .u64 m.ot) := h.cmd.cell 10; go_simp) ?_
  simp only [Act.put, List.setIfInBounds_toArray, List.set_cons_zero, List.set_cons_succ]
  go_big_quiet_on
  go_big_quiet_want
  refine quiet_call (f := 17) (args := #[tlV A c t, .string t.ho]) (fun v _ => by go_simp) (fun v hv => (HK.out v hv).mono (fun e w' h => ⟨h.1, HCm.out v w' hv h.2⟩)) ?_
  simp only [Act.put, List.setIfInBounds_toArray, List.set_cons_zero, List.set_cons_succ]
  go_big_quiet_on
  go_big_quiet_want
  go_big_quiet_op
  first | go_big_quiet_on | (refine ⟨_, fun _ _ => rfl, ?_⟩; go_big_quiet_on)
  go_big_quiet_want
  refine quiet_run (v := .int .u64 m.ot) (fun v hv => by have h := HL.out v hv; have c0 : v.cell? ⟨nb, 0, none⟩ = some (.slice A t.rs.length c) := h.box.cell 0; have c1 : v.cell? ⟨nb, 1, none⟩ = some (.int .i64 t.ty) := h.box.cell 1; have c2 : v.cell? ⟨nb, 2, none⟩ = some (.string t.ho) := h.box.cell 2; have c3 : v.cell? ⟨nb, 3, none⟩ = some (.int .u32 t.ge) := h.box.cell 3; have c4 : v.cell? ⟨nb, 4, none⟩ = some (.bool t.ap) := h.box.cell 4; have m10 : v.cell? ⟨nb + 1, 10, none⟩ = some (.int .u64 m.ot) := h.cmd.cell 10; go_simp) ?_
  simp only [Act.put, List.setIfInBounds_toArray, List.set_cons_zero, List.set_cons_succ]
  go_big_quiet_on
  go_big_quiet_want
  go_big_quiet_op
  first | go_big_quiet_on | (refine ⟨_, fun _ _ => rfl, ?_⟩; go_big_quiet_on)
  go_big_quiet_want
  go_big_quiet_op
  first | go_big_quiet_on | (refine ⟨_, fun _ _ => rfl, ?_⟩; go_big_quiet_on)
  go_big_quiet_want
  go_big_quiet_op
  first | go_big_quiet_on | (refine ⟨_, fun _ _ => rfl, ?_⟩; go_big_quiet_on)
  go_big_quiet_want
  go_big_quiet_op
  first | go_big_quiet_on | (refine ⟨_, fun _ _ => rfl, ?_⟩; go_big_quiet_on)
  intro v1 hC1
  have R1 := Lib.hid (HL.out v1 hC1)
  clear hC1 HC0 HL HCm R0
  have m10 : v1.cell? ⟨nb + 1, 10, none⟩ = some (.int .u64 m.ot) := R1.out.cmd.cell 10
  obtain ⟨q, hq⟩ : ∃ q, q = strB false m := ⟨_, rfl⟩
  have HQ := Lib.hid hq
  clear hq
  go_wp2_with (fail)
  go_loopw [7, 8, 9] (fun s7 s8 i wr => ∃ (k : Nat) (Sa : Option Addr) (Sk : Nat) (Ua : Option Addr) (Uk : Nat), k ≤ t.rs.length ∧ i = .int .i64 k ∧ s7 = .slice Sa ((t.rs.take k).filter (fun r => !q r)).length Sk ∧ s8 = .slice Ua ((t.rs.take k).filter q).length Uk ∧ Hid (PrI n0 nb w wr A c t m Sa Sk ((t.rs.take k).filter (fun r => !q r)) Ua Uk ((t.rs.take k).filter q))) (fun _ _ i _ => t.rs.length - (intOf i).toNat)
  case atStart => exact ⟨0, none, 0, none, 0, Nat.zero_le _, rfl, rfl, rfl, Lib.hid (PrI.first R1.out)⟩
  case round =>
    clear R1 m10
    obtain ⟨k, Sa, Sk, Ua, Uk, hk, rfl, rfl, rfl, HR⟩ := hrel
    have c0 : wr.cell? ⟨nb, 0, none⟩ = some (.slice A t.rs.length c) := HR.out.r.box.cell 0
    by_cases hlt : k < t.rs.length
    · have hltI : (k : Int) < t.rs.length := by omega
      obtain ⟨b, o, x, rfl, hx, hz, d0, d1⟩ := HR.out.r.own.rgs.at_ hlt
      have m2 : wr.cell? ⟨nb + 1, 2, none⟩ = some (.string m.ho) := HR.out.r.cmd.cell 2
      have m10 : wr.cell? ⟨nb + 1, 10, none⟩ = some (.int .u64 m.ot) := HR.out.r.cmd.cell 10
      have F1 := Lib.hid (filter_take q t.rs k x hx)
      have F2 := Lib.hid (filter_take (fun r => !q r) t.rs k x hx)
      have HLs : Hid (((t.rs.take k).filter (fun r => !q r)).length ≤ 1000 ∧ ((t.rs.take k).filter q).length ≤ 1000) := by
        have a1 := List.length_filter_le q (t.rs.take k)
        have a2 := List.length_filter_le (fun r => !q r) (t.rs.take k)
        have a3 : (t.rs.take k).length ≤ k := by rw [List.length_take]; exact Nat.min_le_left _ _
        have a4 := HM2.out
        exact Lib.hid ⟨by omega, by omega⟩
      have HZ := Lib.hid hz
      have hm2 := HM2.out
      clear hx hz
      cases e1 : (x.h.toList == m.ho.toList) with
      | true =>
        have e2 : (x.h.toList != m.ho.toList) = false := by simp [bne, e1]
        have hqx : strB false m x = false := by show (!eqS x.h m.ho && _) = false; rw [show eqS x.h m.ho = true from e1]; rfl
        have HQx := Lib.hid (show q x = false by rw [HQ.out]; exact hqx)
        have G1 := Lib.hid (show (t.rs.take (k + 1)).filter q = (t.rs.take k).filter q by rw [F1.out, HQx.out]; simp)
        have G2 := Lib.hid (show (t.rs.take (k + 1)).filter (fun r => !q r) = (t.rs.take k).filter (fun r => !q r) ++ [x] by rw [F2.out, HQx.out]; simp)
        clear F1 F2 hqx
        generalize (t.rs.take k).filter q = U at *
        generalize (t.rs.take k).filter (fun r => !q r) = S at *
        go_upto_region 9 with (fail)
        go_quiet (fail)
        have HD := Lib.hid (HR.out.below (below_drewN (Below.refl _ _) nq))
        have g0 : (wr.drewN nq).cell? ⟨nb, 0, none⟩ = some (.slice (some ⟨b, o, none⟩) t.rs.length c) := c0
        have g1 : (wr.drewN nq).cell? ⟨b, o + k * 2, none⟩ = some (.string x.h) := d0
        have g2 : (wr.drewN nq).cell? ⟨b, o + k * 2 + 1, none⟩ = some (.int .u64 x.k) := d1
        clear c0 d0 d1 m2 m10 HR
        generalize wr.drewN nq = wd at *
        have HOA := Lib.hid (HD.out.below ((Below.refl wd.heap.size wd).alloc (Nat.le_refl _) (.cells (regC x) 57)))
        go_wp2_with (at_builtin; refine wpList_append_one rfl (.tmp 83) (.tmp 89) rfl n0 Sa Sk S rfl HOA.out.s wd.heap.size x rfl HZ.out (Blk.new wd 57 _) (by have := HLs.out; omega) HOA.out.r.lt ?_; intro A3 cc w3 hn3 hg3 hb3; have H3 := Lib.hid (HOA.out.stay hn3 hg3 hb3); clear hn3 hg3 hb3)
        go_roundw
        case rel => exact ⟨k + 1, A3, cc, Ua, Uk, by omega, by go_num, by rw [G2.out]; simp, by rw [G1.out], Lib.hid (by rw [G1.out, G2.out]; exact H3.out)⟩
        case measure => simp [intOf]; omega
      | false =>
        have e2 : (x.h.toList != m.ho.toList) = true := by simp [bne, e1]
        cases e3 : (x.k == m.ot) with
        | true =>
          have hqx : strB false m x = true := by
            have e4 : x.k = m.ot := by simpa using e3
            show (!eqS x.h m.ho && (false || decide (x.k = m.ot))) = true; rw [show eqS x.h m.ho = false from e1, decide_eq_true e4]; rfl
          have HQx := Lib.hid (show q x = true by rw [HQ.out]; exact hqx)
          have G1 := Lib.hid (show (t.rs.take (k + 1)).filter q = (t.rs.take k).filter q ++ [x] by rw [F1.out, HQx.out]; simp)
          have G2 := Lib.hid (show (t.rs.take (k + 1)).filter (fun r => !q r) = (t.rs.take k).filter (fun r => !q r) by rw [F2.out, HQx.out]; simp)
          clear F1 F2 hqx
          generalize (t.rs.take k).filter q = U at *
          generalize (t.rs.take k).filter (fun r => !q r) = S at *
          go_upto_region 9 with (fail)
          go_quiet (fail)
          have HD := Lib.hid (HR.out.below (below_drewN (Below.refl _ _) nq))
          have g0 : (wr.drewN nq).cell? ⟨nb, 0, none⟩ = some (.slice (some ⟨b, o, none⟩) t.rs.length c) := c0
          have g1 : (wr.drewN nq).cell? ⟨b, o + k * 2, none⟩ = some (.string x.h) := d0
          have g2 : (wr.drewN nq).cell? ⟨b, o + k * 2 + 1, none⟩ = some (.int .u64 x.k) := d1
          clear c0 d0 d1 m2 m10 HR
          generalize wr.drewN nq = wd at *
          have HOA := Lib.hid (HD.out.below ((Below.refl wd.heap.size wd).alloc (Nat.le_refl _) (.cells (regC x) 57)))
          go_wp2_with (at_builtin; refine wpList_append_one rfl (.tmp 75) (.tmp 81) rfl n0 Ua Uk U rfl HOA.out.u wd.heap.size x rfl HZ.out (Blk.new wd 57 _) (by have := HLs.out; omega) HOA.out.r.lt ?_; intro A3 cc w3 hn3 hg3 hb3; have H3 := Lib.hid (HOA.out.struck hn3 hg3 hb3); clear hn3 hg3 hb3)
          go_roundw
          case rel => exact ⟨k + 1, Sa, Sk, A3, cc, by omega, by go_num, by rw [G2.out], by rw [G1.out]; simp, Lib.hid (by rw [G1.out, G2.out]; exact H3.out)⟩
          case measure => simp [intOf]; omega
        | false =>
          have hqx : strB false m x = false := by
            have e4 : ¬ x.k = m.ot := by simpa using e3
            show (!eqS x.h m.ho && (false || decide (x.k = m.ot))) = false; rw [show eqS x.h m.ho = false from e1, decide_eq_false e4]; rfl
          have HQx := Lib.hid (show q x = false by rw [HQ.out]; exact hqx)
          have G1 := Lib.hid (show (t.rs.take (k + 1)).filter q = (t.rs.take k).filter q by rw [F1.out, HQx.out]; simp)
          have G2 := Lib.hid (show (t.rs.take (k + 1)).filter (fun r => !q r) = (t.rs.take k).filter (fun r => !q r) ++ [x] by rw [F2.out, HQx.out]; simp)
          clear F1 F2 hqx
          generalize (t.rs.take k).filter q = U at *
          generalize (t.rs.take k).filter (fun r => !q r) = S at *
          go_upto_region 9 with (fail)
          go_quiet (fail)
          have HD := Lib.hid (HR.out.below (below_drewN (Below.refl _ _) nq))
          have g0 : (wr.drewN nq).cell? ⟨nb, 0, none⟩ = some (.slice (some ⟨b, o, none⟩) t.rs.length c) := c0
          have g1 : (wr.drewN nq).cell? ⟨b, o + k * 2, none⟩ = some (.string x.h) := d0
          have g2 : (wr.drewN nq).cell? ⟨b, o + k * 2 + 1, none⟩ = some (.int .u64 x.k) := d1
          clear c0 d0 d1 m2 m10 HR
          generalize wr.drewN nq = wd at *
          have HOA := Lib.hid (HD.out.below ((Below.refl wd.heap.size wd).alloc (Nat.le_refl _) (.cells (regC x) 57)))
          go_wp2_with (at_builtin; refine wpList_append_one rfl (.tmp 83) (.tmp 89) rfl n0 Sa Sk S rfl HOA.out.s wd.heap.size x rfl HZ.out (Blk.new wd 57 _) (by have := HLs.out; omega) HOA.out.r.lt ?_; intro A3 cc w3 hn3 hg3 hb3; have H3 := Lib.hid (HOA.out.stay hn3 hg3 hb3); clear hn3 hg3 hb3)
          go_roundw
          case rel => exact ⟨k + 1, A3, cc, Ua, Uk, by omega, by go_num, by rw [G2.out]; simp, by rw [G1.out], Lib.hid (by rw [G1.out, G2.out]; exact H3.out)⟩
          case measure => simp [intOf]; omega
    · obtain rfl : k = t.rs.length := by omega
      simp only [List.take_length] at HR ⊢
      obtain ⟨U, hU⟩ : ∃ U, U = t.rs.filter q := ⟨_, rfl⟩
      obtain ⟨S, hS⟩ : ∃ S, S = t.rs.filter (fun r => !q r) := ⟨_, rfl⟩
      rw [← hU, ← hS] at HR ⊢
      have HUq := Lib.hid (hU.trans (by rw [HQ.out])); have HSq := Lib.hid (hS.trans (by rw [HQ.out]))
      have eU' : ((U.length : Int) == 0) = false := by rw [hU, HQ.out]; exact eU
      have hUl : U.length ≤ 200 := by rw [hU]; exact Nat.le_trans (List.length_filter_le _ _) HM2.out
      clear hU hS eU
      have c0 : wr.cell? ⟨nb, 0, none⟩ = some (.slice A t.rs.length c) := HR.out.r.box.cell 0
      have c3 : wr.cell? ⟨nb, 3, none⟩ = some (.int .u32 t.ge) := HR.out.r.box.cell 3
      have f0 : wr.frozen? ⟨nb, 0, none⟩ = false := HR.out.r.box.free 0
      have f3 : wr.frozen? ⟨nb, 3, none⟩ = false := HR.out.r.box.free 3
      have hig : IntKind.u32.wrap (t.ge + 1) = incG t.ge := rfl
      have R6 := Lib.hid ((HR.out.r.rows (.inr (Below.refl _ _)) HR.out.s).put 3 (.int .u32 (incG t.ge)) (t' := { t with rs := S, ge := incG t.ge }) rfl rfl)
      have HU6 := Lib.hid (own_put2 (i := 0) (j := 3) (x := .slice Sa S.length Sk) (y := .int .u32 (incG t.ge)) HR.out.u HR.out.r.box)
      go_upto_region 16 with (fail)
      generalize (wr.setCell ⟨nb, 0, none⟩ (.slice Sa S.length Sk)).setCell ⟨nb, 3, none⟩ (.int .u32 (incG t.ge)) = v6 at *
      clear c0 c3 f0 f3 hig HR eU'
      have m11 : v6.cell? ⟨nb + 1, 11, none⟩ = some (.int .i64 m.ty) := R6.out.cmd.cell 11
      have m2 : v6.cell? ⟨nb + 1, 2, none⟩ = some (.string m.ho) := R6.out.cmd.cell 2
      have HH := Lib.hid (fun v => refHold_any m.ty m.ho v HTy.out)
      obtain ⟨hx, hhx⟩ : ∃ hx, hx = (if shB m.ty then ⟨#[]⟩ else m.ho) := ⟨_, rfl⟩
      rw [← hhx] at HH
      have HX := Lib.hid hhx
      clear hhx
      go_wp2_with (fail)
      refine (HH.out _).mono ?_; rintro e v7 ⟨rfl, hb⟩
      have R7 := Lib.hid (R6.out.below hb); have HU7 := Lib.hid (HU6.out.below hb)
      have c1 : v7.cell? ⟨nb, 1, none⟩ = some (.int .i64 t.ty) := R7.out.box.cell 1
      have c2 : v7.cell? ⟨nb, 2, none⟩ = some (.string t.ho) := R7.out.box.cell 2
      have f1 : v7.frozen? ⟨nb, 1, none⟩ = false := R7.out.box.free 1
      have f2 : v7.frozen? ⟨nb, 2, none⟩ = false := R7.out.box.free 2
      clear m11 m2 hb R6 HU6
      go_upto_region 18 with (fail)
      have R8 := Lib.hid ((R7.out.put 1 (.int .i64 m.ty) (t' := { t with rs := S, ge := incG t.ge, ty := m.ty }) rfl rfl).put 2 (.string hx) (t' := holdT { t with rs := S, ge := incG t.ge } m) (by rw [HX.out]; rfl) rfl)
      have HU8 := Lib.hid (own_put2 (i := 1) (j := 2) (x := .int .i64 m.ty) (y := .string hx) HU7.out R7.out.box)
      generalize (v7.setCell ⟨nb, 1, none⟩ (.int .i64 m.ty)).setCell ⟨nb, 2, none⟩ (.string hx) = v8 at *
      clear c1 c2 f1 f2 R7 HU7
      obtain ⟨TT, hTT⟩ : ∃ x, x = holdT { t with rs := S, ge := incG t.ge } m := ⟨_, rfl⟩
      rw [← hTT] at R8
      have HTT := Lib.hid hTT
      clear hTT
      have HR8d := Lib.hid (R8.out.below (Below.refl _ _).drew)
      have HU8d := Lib.hid (HU8.out.below (Below.refl _ _).drew)
      have HCL := Lib.hid (fun v (hv : RdAt n0 nb w v Sa Sk TT m) => (⟨hv.box.cell 0, hv.box.cell 1, hv.box.cell 2, hv.box.cell 3, hv.box.cell 4⟩ : v.cell? ⟨nb, 0, none⟩ = some (.slice Sa TT.rs.length Sk) ∧ v.cell? ⟨nb, 1, none⟩ = some (.int .i64 TT.ty) ∧ v.cell? ⟨nb, 2, none⟩ = some (.string TT.ho) ∧ v.cell? ⟨nb, 3, none⟩ = some (.int .u32 TT.ge) ∧ v.cell? ⟨nb, 4, none⟩ = some (.bool TT.ap)))
      have d0 := HCL.out _ HR8d.out
      refine wp_region_noPanic ?_
      go_region_held (fun v => v.cell? ⟨nb, 0, none⟩ = some (.slice Sa TT.rs.length Sk) ∧ v.cell? ⟨nb, 1, none⟩ = some (.int .i64 TT.ty) ∧ v.cell? ⟨nb, 2, none⟩ = some (.string TT.ho) ∧ v.cell? ⟨nb, 3, none⟩ = some (.int .u32 TT.ge) ∧ v.cell? ⟨nb, 4, none⟩ = some (.bool TT.ap)) (first | with_reducible exact e2 | with_reducible exact e1 | with_reducible exact d0) (first
        | (go_at_call 42; refine (events_any Ua Uk U ⟨#[]⟩ 2 _ HU8d.out.rgs (by omega)).mono ?_; rintro e v9 ⟨B, kk, rfl, he, hb⟩; have R9 := Lib.hid (HR8d.out.below hb); have HE9 := Lib.hid (OwnE.base he HR8d.out.lt); have e1 := HCL.out _ R9.out; have b2 := far7 (x0 := .slice Sa TT.rs.length Sk) (x1 := .int .i64 TT.ty) (x2 := .string TT.ho) (x3 := .int .u32 TT.ge) (x4 := .bool TT.ap) (x5 := .slice B (evsOf 2 ⟨#[]⟩ U).length kk) (x6 := .int .i64 1) R9.out.box; have e2 := (⟨b2.cell 0, b2.cell 1, b2.cell 2, b2.cell 3, b2.cell 4⟩ : (((((((v9.setCell ⟨nb + 1 + 1, 0, none⟩ (.slice Sa TT.rs.length Sk)).setCell ⟨nb + 1 + 1, 1, none⟩ (.int .i64 TT.ty)).setCell ⟨nb + 1 + 1, 2, none⟩ (.string TT.ho)).setCell ⟨nb + 1 + 1, 3, none⟩ (.int .u32 TT.ge)).setCell ⟨nb + 1 + 1, 4, none⟩ (.bool TT.ap)).setCell ⟨nb + 1 + 1, 5, none⟩ (.slice B (evsOf 2 ⟨#[]⟩ U).length kk)).setCell ⟨nb + 1 + 1, 6, none⟩ (.int .i64 1)).cell? ⟨nb, 0, none⟩ = some (.slice Sa TT.rs.length Sk) ∧ (((((((v9.setCell ⟨nb + 1 + 1, 0, none⟩ (.slice Sa TT.rs.length Sk)).setCell ⟨nb + 1 + 1, 1, none⟩ (.int .i64 TT.ty)).setCell ⟨nb + 1 + 1, 2, none⟩ (.string TT.ho)).setCell ⟨nb + 1 + 1, 3, none⟩ (.int .u32 TT.ge)).setCell ⟨nb + 1 + 1, 4, none⟩ (.bool TT.ap)).setCell ⟨nb + 1 + 1, 5, none⟩ (.slice B (evsOf 2 ⟨#[]⟩ U).length kk)).setCell ⟨nb + 1 + 1, 6, none⟩ (.int .i64 1)).cell? ⟨nb, 1, none⟩ = some (.int .i64 TT.ty) ∧ (((((((v9.setCell ⟨nb + 1 + 1, 0, none⟩ (.slice Sa TT.rs.length Sk)).setCell ⟨nb + 1 + 1, 1, none⟩ (.int .i64 TT.ty)).setCell ⟨nb + 1 + 1, 2, none⟩ (.string TT.ho)).setCell ⟨nb + 1 + 1, 3, none⟩ (.int .u32 TT.ge)).setCell ⟨nb + 1 + 1, 4, none⟩ (.bool TT.ap)).setCell ⟨nb + 1 + 1, 5, none⟩ (.slice B (evsOf 2 ⟨#[]⟩ U).length kk)).setCell ⟨nb + 1 + 1, 6, none⟩ (.int .i64 1)).cell? ⟨nb, 2, none⟩ = some (.string TT.ho) ∧ (((((((v9.setCell ⟨nb + 1 + 1, 0, none⟩ (.slice Sa TT.rs.length Sk)).setCell ⟨nb + 1 + 1, 1, none⟩ (.int .i64 TT.ty)).setCell ⟨nb + 1 + 1, 2, none⟩ (.string TT.ho)).setCell ⟨nb + 1 + 1, 3, none⟩ (.int .u32 TT.ge)).setCell ⟨nb + 1 + 1, 4, none⟩ (.bool TT.ap)).setCell ⟨nb + 1 + 1, 5, none⟩ (.slice B (evsOf 2 ⟨#[]⟩ U).length kk)).setCell ⟨nb + 1 + 1, 6, none⟩ (.int .i64 1)).cell? ⟨nb, 3, none⟩ = some (.int .u32 TT.ge) ∧ (((((((v9.setCell ⟨nb + 1 + 1, 0, none⟩ (.slice Sa TT.rs.length Sk)).setCell ⟨nb + 1 + 1, 1, none⟩ (.int .i64 TT.ty)).setCell ⟨nb + 1 + 1, 2, none⟩ (.string TT.ho)).setCell ⟨nb + 1 + 1, 3, none⟩ (.int .u32 TT.ge)).setCell ⟨nb + 1 + 1, 4, none⟩ (.bool TT.ap)).setCell ⟨nb + 1 + 1, 5, none⟩ (.slice B (evsOf 2 ⟨#[]⟩ U).length kk)).setCell ⟨nb + 1 + 1, 6, none⟩ (.int .i64 1)).cell? ⟨nb, 4, none⟩ = some (.bool TT.ap)); clear b2; have r0 : v9.cell? ⟨nb + 1 + 1, 0, none⟩ = some (.slice none 0 0) := R9.out.res.cell 0; have q0 : v9.frozen? ⟨nb + 1 + 1, 0, none⟩ = false := R9.out.res.free 0; have r1 : v9.cell? ⟨nb + 1 + 1, 1, none⟩ = some (.int .i64 0) := R9.out.res.cell 1; have q1 : v9.frozen? ⟨nb + 1 + 1, 1, none⟩ = false := R9.out.res.free 1; have r2 : v9.cell? ⟨nb + 1 + 1, 2, none⟩ = some (.string ⟨#[]⟩) := R9.out.res.cell 2; have q2 : v9.frozen? ⟨nb + 1 + 1, 2, none⟩ = false := R9.out.res.free 2; have r3 : v9.cell? ⟨nb + 1 + 1, 3, none⟩ = some (.int .u32 0) := R9.out.res.cell 3; have q3 : v9.frozen? ⟨nb + 1 + 1, 3, none⟩ = false := R9.out.res.free 3; have r4 : v9.cell? ⟨nb + 1 + 1, 4, none⟩ = some (.bool false) := R9.out.res.cell 4; have q4 : v9.frozen? ⟨nb + 1 + 1, 4, none⟩ = false := R9.out.res.free 4; have r5 : v9.cell? ⟨nb + 1 + 1, 5, none⟩ = some (.slice none 0 0) := R9.out.res.cell 5; have q5 : v9.frozen? ⟨nb + 1 + 1, 5, none⟩ = false := R9.out.res.free 5; have r6 : v9.cell? ⟨nb + 1 + 1, 6, none⟩ = some (.int .i64 0) := R9.out.res.cell 6; have q6 : v9.frozen? ⟨nb + 1 + 1, 6, none⟩ = false := R9.out.res.free 6; clear he hb))
      all_goals (refine NoPanic.normal ?_)
      obtain ⟨es5, hes⟩ : ∃ x, x = evsOf 2 ⟨#[]⟩ U := ⟨_, rfl⟩
      rw [← hes] at HE9 ⊢
      have HES := Lib.hid hes
      clear hes e1 e2 d0
      go_wp2_with (fail)
      obtain ⟨hK, hO, hB⟩ := td_put R9.out HE9.out (1) _ rfl
      refine bodyPost_ret_by (results_cell_row rfl _ _ (nb + 1 + 1) 43 (tdC Sa Sk TT B kk es5 1) (0, 0) _ rfl hK Tryd.underlying43 rfl size43) rfl ?_
      have hT : TT = holdT ({ t with rs := t.rs.filter (fun r => !strB false m r), ge := incG t.ge }) m := by rw [HTT.out, HSq.out]
      have hE : es5 = evsOf 2 ⟨#[]⟩ (t.rs.filter (strB false m)) := by rw [HES.out, HUq.out]
      subst hT hE
      exact ⟨Sa, Sk, B, kk, rfl, hO.1, hO.2, hB⟩
set_option maxRecDepth 100000 in
set_option maxHeartbeats 4000000 in
theorem refPre_db1 (n0 : Nat) (A : Option Addr) (c : Nat) (t : Tl) (m : Cm) (w : World) (ho : Own w n0 A c t.rs) (hn : n0 ≤ w.heap.size) (hm : t.rs.length ≤ 200) (hty : typeB m.ty = true) (h5 : (4 : Int) < t.ty) (z0 : (m.ot == 0) = false) (halo : aloB t.ty = false) (eU : (((t.rs.filter (strB false m)).length : Int) == 0) = false) :
    Calls Tryd.prog 43 #[tlV A c t, cmV m] w (RdOut n0 w ({ t with rs := t.rs.filter (fun r => !strB false m r), ge := incG t.ge }) (evsOf 2 ⟨#[]⟩ (t.rs.filter (strB false m))) (1)) := by
  have R0 := Lib.hid (RdAt.from w A c t m ho hn)
  have HM := Lib.hid (show t.rs.length ≤ maxLen by unfold maxLen; omega)
  have HM2 := Lib.hid hm
  have hnt := not_true
  have hnf := not_false
  obtain ⟨nb, hnb⟩ : ∃ nb, nb = w.heap.size := ⟨_, rfl⟩
  have HTy := Lib.hid hty
  clear ho hn hm hty
  go_enter Tryd.func43, Tryd.ntmps43
  go_upto_region 1 with (fail)
  change Code.wp _ _ _ _ (((w.alloc (.cells (tlC A c t) 27)).alloc (.cells (cmC m) 37)).alloc (.cells tdZ 43))
  generalize ((w.alloc (.cells (tlC A c t) 27)).alloc (.cells (cmC m) 37)).alloc (.cells tdZ 43) = v0 at *
  rw [← hnb] at R0 ⊢
  clear hnb
  have c0 : v0.cell? ⟨nb, 0, none⟩ = some (.slice A t.rs.length c) := R0.out.box.cell 0
  have c1 : v0.cell? ⟨nb, 1, none⟩ = some (.int .i64 t.ty) := R0.out.box.cell 1
  have c2 : v0.cell? ⟨nb, 2, none⟩ = some (.string t.ho) := R0.out.box.cell 2
  have c3 : v0.cell? ⟨nb, 3, none⟩ = some (.int .u32 t.ge) := R0.out.box.cell 3
  have c4 : v0.cell? ⟨nb, 4, none⟩ = some (.bool t.ap) := R0.out.box.cell 4
  have m10 : v0.cell? ⟨nb + 1, 10, none⟩ = some (.int .u64 m.ot) := R0.out.cmd.cell 10
  go_upto_region 2 with (fail)
  obtain ⟨C, hC0, hCl, hCi, hCm⟩ := class_of v0 (fun v => RdAt n0 nb w v A c t m) (fun v hb => R0.out.below hb)
  have HC0 := Lib.hid hC0; have HL := Lib.hid hCl; have HCm := Lib.hid hCm
  clear hC0 hCl hCi hCm m10
  clear c0 c1 c2 c3 c4
  have HA := Lib.hid (fun u => alone_any t.ty u)
  rw [halo] at HA
  refine wp_region_class C (by kernel_rfl) (by kernel_rfl) HC0.out ?_
  go_big_quiet_want
  go_big_quiet_op
  first | go_big_quiet_on | (refine ⟨_, fun _ _ => rfl, ?_⟩; go_big_quiet_on)
  go_big_quiet_want
  go_big_quiet_op
  first | go_big_quiet_on | (refine ⟨_, fun _ _ => rfl, ?_⟩; go_big_quiet_on)
  go_big_quiet_want
  go_big_quiet_op
  first | go_big_quiet_on | (refine ⟨_, fun _ _ => rfl, ?_⟩; go_big_quiet_on)
  go_big_quiet_want
  go_big_quiet_op
  first | go_big_quiet_on | (refine ⟨_, fun _ _ => rfl, ?_⟩; go_big_quiet_on)
  go_big_quiet_want
  refine quiet_run (v := .int .i64 t.ty) (fun v hv => by have h := HL.out v hv; have c0 : v.cell? ⟨nb, 0, none⟩ = some (.slice A t.rs.length c) := h.box.cell 0; have c1 : v.cell? ⟨nb, 1, none⟩ = some (.int .i64 t.ty) := h.box.cell 1; have c2 : v.cell? ⟨nb, 2, none⟩ = some (.string t.ho) := h.box.cell 2; have c3 : v.cell? ⟨nb, 3, none⟩ = some (.int .u32 t.ge) := h.box.cell 3; have c4 : v.cell? ⟨nb, 4, none⟩ = some (.bool t.ap) := h.box.cell 4; have m10 : v.cell? ⟨nb + 1, 10, none⟩ = some (.int .u64 m.ot) := h.cmd.cell 10; go_simp) ?_
  simp only [Act.put, List.setIfInBounds_toArray, List.set_cons_zero, List.set_cons_succ]
  go_big_quiet_on
  go_big_quiet_want
  refine quiet_call (f := 32) (args := #[.int .i64 t.ty]) (fun v _ => by go_simp) (fun v hv => (HA.out v).mono (fun e w' h => ⟨h.1, h.2 ▸ hv⟩)) ?_
  simp only [Act.put, List.setIfInBounds_toArray, List.set_cons_zero, List.set_cons_succ]
  go_big_quiet_on
  go_big_quiet_want
  go_big_quiet_op
  first | go_big_quiet_on | (refine ⟨_, fun _ _ => rfl, ?_⟩; go_big_quiet_on)
  go_big_quiet_skip
  go_big_quiet_skip
  go_big_quiet_skip
  go_big_quiet_skip
  go_big_quiet_skip
  go_big_quiet_skip
  go_big_quiet_skip
  go_big_quiet_skip
  go_big_quiet_want
  go_big_quiet_op
  first | go_big_quiet_on | (refine ⟨_, fun _ _ => rfl, ?_⟩; go_big_quiet_on)
  go_big_quiet_want
  go_big_quiet_op
  first | go_big_quiet_on | (refine ⟨_, fun _ _ => rfl, ?_⟩; go_big_quiet_on)
  go_big_quiet_want
  go_big_quiet_op
  first | go_big_quiet_on | (refine ⟨_, fun _ _ => rfl, ?_⟩; go_big_quiet_on)
  intro v1 hC1
  have R1 := Lib.hid (HL.out v1 hC1)
  clear hC1 HC0 HL HCm R0
  have m10 : v1.cell? ⟨nb + 1, 10, none⟩ = some (.int .u64 m.ot) := R1.out.cmd.cell 10
  obtain ⟨q, hq⟩ : ∃ q, q = strB false m := ⟨_, rfl⟩
  have HQ := Lib.hid hq
  clear hq
  go_wp2_with (fail)
  go_loopw [7, 8, 9] (fun s7 s8 i wr => ∃ (k : Nat) (Sa : Option Addr) (Sk : Nat) (Ua : Option Addr) (Uk : Nat), k ≤ t.rs.length ∧ i = .int .i64 k ∧ s7 = .slice Sa ((t.rs.take k).filter (fun r => !q r)).length Sk ∧ s8 = .slice Ua ((t.rs.take k).filter q).length Uk ∧ Hid (PrI n0 nb w wr A c t m Sa Sk ((t.rs.take k).filter (fun r => !q r)) Ua Uk ((t.rs.take k).filter q))) (fun _ _ i _ => t.rs.length - (intOf i).toNat)
  case atStart => exact ⟨0, none, 0, none, 0, Nat.zero_le _, rfl, rfl, rfl, Lib.hid (PrI.first R1.out)⟩
  case round =>
    clear R1 m10
    obtain ⟨k, Sa, Sk, Ua, Uk, hk, rfl, rfl, rfl, HR⟩ := hrel
    have c0 : wr.cell? ⟨nb, 0, none⟩ = some (.slice A t.rs.length c) := HR.out.r.box.cell 0
    by_cases hlt : k < t.rs.length
    · have hltI : (k : Int) < t.rs.length := by omega
      obtain ⟨b, o, x, rfl, hx, hz, d0, d1⟩ := HR.out.r.own.rgs.at_ hlt
      have m2 : wr.cell? ⟨nb + 1, 2, none⟩ = some (.string m.ho) := HR.out.r.cmd.cell 2
      have m10 : wr.cell? ⟨nb + 1, 10, none⟩ = some (.int .u64 m.ot) := HR.out.r.cmd.cell 10
      have F1 := Lib.hid (filter_take q t.rs k x hx)
      have F2 := Lib.hid (filter_take (fun r => !q r) t.rs k x hx)
      have HLs : Hid (((t.rs.take k).filter (fun r => !q r)).length ≤ 1000 ∧ ((t.rs.take k).filter q).length ≤ 1000) := by
        have a1 := List.length_filter_le q (t.rs.take k)
        have a2 := List.length_filter_le (fun r => !q r) (t.rs.take k)
        have a3 : (t.rs.take k).length ≤ k := by rw [List.length_take]; exact Nat.min_le_left _ _
        have a4 := HM2.out
        exact Lib.hid ⟨by omega, by omega⟩
      have HZ := Lib.hid hz
      have hm2 := HM2.out
      clear hx hz
      cases e1 : (x.h.toList == m.ho.toList) with
      | true =>
        have e2 : (x.h.toList != m.ho.toList) = false := by simp [bne, e1]
        have hqx : strB false m x = false := by show (!eqS x.h m.ho && _) = false; rw [show eqS x.h m.ho = true from e1]; rfl
        have HQx := Lib.hid (show q x = false by rw [HQ.out]; exact hqx)
        have G1 := Lib.hid (show (t.rs.take (k + 1)).filter q = (t.rs.take k).filter q by rw [F1.out, HQx.out]; simp)
        have G2 := Lib.hid (show (t.rs.take (k + 1)).filter (fun r => !q r) = (t.rs.take k).filter (fun r => !q r) ++ [x] by rw [F2.out, HQx.out]; simp)
        clear F1 F2 hqx
        generalize (t.rs.take k).filter q = U at *
        generalize (t.rs.take k).filter (fun r => !q r) = S at *
        go_upto_region 9 with (fail)
        go_quiet (fail)
        have HD := Lib.hid (HR.out.below (below_drewN (Below.refl _ _) nq))
        have g0 : (wr.drewN nq).cell? ⟨nb, 0, none⟩ = some (.slice (some ⟨b, o, none⟩) t.rs.length c) := c0
        have g1 : (wr.drewN nq).cell? ⟨b, o + k * 2, none⟩ = some (.string x.h) := d0
        have g2 : (wr.drewN nq).cell? ⟨b, o + k * 2 + 1, none⟩ = some (.int .u64 x.k) := d1
        clear c0 d0 d1 m2 m10 HR
        generalize wr.drewN nq = wd at *
        have HOA := Lib.hid (HD.out.below ((Below.refl wd.heap.size wd).alloc (Nat.le_refl _) (.cells (regC x) 57)))
        go_wp2_with (at_builtin; refine wpList_append_one rfl (.tmp 83) (.tmp 89) rfl n0 Sa Sk S rfl HOA.out.s wd.heap.size x rfl HZ.out (Blk.new wd 57 _) (by have := HLs.out; omega) HOA.out.r.lt ?_; intro A3 cc w3 hn3 hg3 hb3; have H3 := Lib.hid (HOA.out.stay hn3 hg3 hb3); clear hn3 hg3 hb3)
        go_roundw
        case rel => exact ⟨k + 1, A3, cc, Ua, Uk, by omega, by go_num, by rw [G2.out]; simp, by rw [G1.out], Lib.hid (by rw [G1.out, G2.out]; exact H3.out)⟩
        case measure => simp [intOf]; omega
      | false =>
        have e2 : (x.h.toList != m.ho.toList) = true := by simp [bne, e1]
        cases e3 : (x.k == m.ot) with
        | true =>
          have hqx : strB false m x = true := by
            have e4 : x.k = m.ot := by simpa using e3
            show (!eqS x.h m.ho && (false || decide (x.k = m.ot))) = true; rw [show eqS x.h m.ho = false from e1, decide_eq_true e4]; rfl
          have HQx := Lib.hid (show q x = true by rw [HQ.out]; exact hqx)
          have G1 := Lib.hid (show (t.rs.take (k + 1)).filter q = (t.rs.take k).filter q ++ [x] by rw [F1.out, HQx.out]; simp)
          have G2 := Lib.hid (show (t.rs.take (k + 1)).filter (fun r => !q r) = (t.rs.take k).filter (fun r => !q r) by rw [F2.out, HQx.out]; simp)
          clear F1 F2 hqx
          generalize (t.rs.take k).filter q = U at *
          generalize (t.rs.take k).filter (fun r => !q r) = S at *
          go_upto_region 9 with (fail)
          go_quiet (fail)
          have HD := Lib.hid (HR.out.below (below_drewN (Below.refl _ _) nq))
          have g0 : (wr.drewN nq).cell? ⟨nb, 0, none⟩ = some (.slice (some ⟨b, o, none⟩) t.rs.length c) := c0
          have g1 : (wr.drewN nq).cell? ⟨b, o + k * 2, none⟩ = some (.string x.h) := d0
          have g2 : (wr.drewN nq).cell? ⟨b, o + k * 2 + 1, none⟩ = some (.int .u64 x.k) := d1
          clear c0 d0 d1 m2 m10 HR
          generalize wr.drewN nq = wd at *
          have HOA := Lib.hid (HD.out.below ((Below.refl wd.heap.size wd).alloc (Nat.le_refl _) (.cells (regC x) 57)))
          go_wp2_with (at_builtin; refine wpList_append_one rfl (.tmp 75) (.tmp 81) rfl n0 Ua Uk U rfl HOA.out.u wd.heap.size x rfl HZ.out (Blk.new wd 57 _) (by have := HLs.out; omega) HOA.out.r.lt ?_; intro A3 cc w3 hn3 hg3 hb3; have H3 := Lib.hid (HOA.out.struck hn3 hg3 hb3); clear hn3 hg3 hb3)
          go_roundw
          case rel => exact ⟨k + 1, Sa, Sk, A3, cc, by omega, by go_num, by rw [G2.out], by rw [G1.out]; simp, Lib.hid (by rw [G1.out, G2.out]; exact H3.out)⟩
          case measure => simp [intOf]; omega
        | false =>
          have hqx : strB false m x = false := by
            have e4 : ¬ x.k = m.ot := by simpa using e3
            show (!eqS x.h m.ho && (false || decide (x.k = m.ot))) = false; rw [show eqS x.h m.ho = false from e1, decide_eq_false e4]; rfl
          have HQx := Lib.hid (show q x = false by rw [HQ.out]; exact hqx)
          have G1 := Lib.hid (show (t.rs.take (k + 1)).filter q = (t.rs.take k).filter q by rw [F1.out, HQx.out]; simp)
          have G2 := Lib.hid (show (t.rs.take (k + 1)).filter (fun r => !q r) = (t.rs.take k).filter (fun r => !q r) ++ [x] by rw [F2.out, HQx.out]; simp)
          clear F1 F2 hqx
          generalize (t.rs.take k).filter q = U at *
          generalize (t.rs.take k).filter (fun r => !q r) = S at *
          go_upto_region 9 with (fail)
          go_quiet (fail)
          have HD := Lib.hid (HR.out.below (below_drewN (Below.refl _ _) nq))
          have g0 : (wr.drewN nq).cell? ⟨nb, 0, none⟩ = some (.slice (some ⟨b, o, none⟩) t.rs.length c) := c0
          have g1 : (wr.drewN nq).cell? ⟨b, o + k * 2, none⟩ = some (.string x.h) := d0
          have g2 : (wr.drewN nq).cell? ⟨b, o + k * 2 + 1, none⟩ = some (.int .u64 x.k) := d1
          clear c0 d0 d1 m2 m10 HR
          generalize wr.drewN nq = wd at *
          have HOA := Lib.hid (HD.out.below ((Below.refl wd.heap.size wd).alloc (Nat.le_refl _) (.cells (regC x) 57)))
          go_wp2_with (at_builtin; refine wpList_append_one rfl (.tmp 83) (.tmp 89) rfl n0 Sa Sk S rfl HOA.out.s wd.heap.size x rfl HZ.out (Blk.new wd 57 _) (by have := HLs.out; omega) HOA.out.r.lt ?_; intro A3 cc w3 hn3 hg3 hb3; have H3 := Lib.hid (HOA.out.stay hn3 hg3 hb3); clear hn3 hg3 hb3)
          go_roundw
          case rel => exact ⟨k + 1, A3, cc, Ua, Uk, by omega, by go_num, by rw [G2.out]; simp, by rw [G1.out], Lib.hid (by rw [G1.out, G2.out]; exact H3.out)⟩
          case measure => simp [intOf]; omega
    · obtain rfl : k = t.rs.length := by omega
      simp only [List.take_length] at HR ⊢
      obtain ⟨U, hU⟩ : ∃ U, U = t.rs.filter q := ⟨_, rfl⟩
      obtain ⟨S, hS⟩ : ∃ S, S = t.rs.filter (fun r => !q r) := ⟨_, rfl⟩
      rw [← hU, ← hS] at HR ⊢
      have HUq := Lib.hid (hU.trans (by rw [HQ.out])); have HSq := Lib.hid (hS.trans (by rw [HQ.out]))
      have eU' : ((U.length : Int) == 0) = false := by rw [hU, HQ.out]; exact eU
      have hUl : U.length ≤ 200 := by rw [hU]; exact Nat.le_trans (List.length_filter_le _ _) HM2.out
      clear hU hS eU
      have c0 : wr.cell? ⟨nb, 0, none⟩ = some (.slice A t.rs.length c) := HR.out.r.box.cell 0
      have c3 : wr.cell? ⟨nb, 3, none⟩ = some (.int .u32 t.ge) := HR.out.r.box.cell 3
      have f0 : wr.frozen? ⟨nb, 0, none⟩ = false := HR.out.r.box.free 0
      have f3 : wr.frozen? ⟨nb, 3, none⟩ = false := HR.out.r.box.free 3
      have hig : IntKind.u32.wrap (t.ge + 1) = incG t.ge := rfl
      have R6 := Lib.hid ((HR.out.r.rows (.inr (Below.refl _ _)) HR.out.s).put 3 (.int .u32 (incG t.ge)) (t' := { t with rs := S, ge := incG t.ge }) rfl rfl)
      have HU6 := Lib.hid (own_put2 (i := 0) (j := 3) (x := .slice Sa S.length Sk) (y := .int .u32 (incG t.ge)) HR.out.u HR.out.r.box)
      go_upto_region 16 with (fail)
      generalize (wr.setCell ⟨nb, 0, none⟩ (.slice Sa S.length Sk)).setCell ⟨nb, 3, none⟩ (.int .u32 (incG t.ge)) = v6 at *
      clear c0 c3 f0 f3 hig HR eU'
      go_upto_region 18 with (fail)
      have R8 := R6
      have HU8 := HU6
      clear R6 HU6
      obtain ⟨TT, hTT⟩ : ∃ x, x = { t with rs := S, ge := incG t.ge } := ⟨_, rfl⟩
      rw [← hTT] at R8
      have HTT := Lib.hid hTT
      clear hTT
      have HR8d := Lib.hid (R8.out.below (Below.refl _ _).drew)
      have HU8d := Lib.hid (HU8.out.below (Below.refl _ _).drew)
      have HCL := Lib.hid (fun v (hv : RdAt n0 nb w v Sa Sk TT m) => (⟨hv.box.cell 0, hv.box.cell 1, hv.box.cell 2, hv.box.cell 3, hv.box.cell 4⟩ : v.cell? ⟨nb, 0, none⟩ = some (.slice Sa TT.rs.length Sk) ∧ v.cell? ⟨nb, 1, none⟩ = some (.int .i64 TT.ty) ∧ v.cell? ⟨nb, 2, none⟩ = some (.string TT.ho) ∧ v.cell? ⟨nb, 3, none⟩ = some (.int .u32 TT.ge) ∧ v.cell? ⟨nb, 4, none⟩ = some (.bool TT.ap)))
      have d0 := HCL.out _ HR8d.out
      refine wp_region_noPanic ?_
      go_region_held (fun v => v.cell? ⟨nb, 0, none⟩ = some (.slice Sa TT.rs.length Sk) ∧ v.cell? ⟨nb, 1, none⟩ = some (.int .i64 TT.ty) ∧ v.cell? ⟨nb, 2, none⟩ = some (.string TT.ho) ∧ v.cell? ⟨nb, 3, none⟩ = some (.int .u32 TT.ge) ∧ v.cell? ⟨nb, 4, none⟩ = some (.bool TT.ap)) (first | with_reducible exact e2 | with_reducible exact e1 | with_reducible exact d0) (first
        | (go_at_call 42; refine (events_any Ua Uk U ⟨#[]⟩ 2 _ HU8d.out.rgs (by omega)).mono ?_; rintro e v9 ⟨B, kk, rfl, he, hb⟩; have R9 := Lib.hid (HR8d.out.below hb); have HE9 := Lib.hid (OwnE.base he HR8d.out.lt); have e1 := HCL.out _ R9.out; have b2 := far7 (x0 := .slice Sa TT.rs.length Sk) (x1 := .int .i64 TT.ty) (x2 := .string TT.ho) (x3 := .int .u32 TT.ge) (x4 := .bool TT.ap) (x5 := .slice B (evsOf 2 ⟨#[]⟩ U).length kk) (x6 := .int .i64 1) R9.out.box; have e2 := (⟨b2.cell 0, b2.cell 1, b2.cell 2, b2.cell 3, b2.cell 4⟩ : (((((((v9.setCell ⟨nb + 1 + 1, 0, none⟩ (.slice Sa TT.rs.length Sk)).setCell ⟨nb + 1 + 1, 1, none⟩ (.int .i64 TT.ty)).setCell ⟨nb + 1 + 1, 2, none⟩ (.string TT.ho)).setCell ⟨nb + 1 + 1, 3, none⟩ (.int .u32 TT.ge)).setCell ⟨nb + 1 + 1, 4, none⟩ (.bool TT.ap)).setCell ⟨nb + 1 + 1, 5, none⟩ (.slice B (evsOf 2 ⟨#[]⟩ U).length kk)).setCell ⟨nb + 1 + 1, 6, none⟩ (.int .i64 1)).cell? ⟨nb, 0, none⟩ = some (.slice Sa TT.rs.length Sk) ∧ (((((((v9.setCell ⟨nb + 1 + 1, 0, none⟩ (.slice Sa TT.rs.length Sk)).setCell ⟨nb + 1 + 1, 1, none⟩ (.int .i64 TT.ty)).setCell ⟨nb + 1 + 1, 2, none⟩ (.string TT.ho)).setCell ⟨nb + 1 + 1, 3, none⟩ (.int .u32 TT.ge)).setCell ⟨nb + 1 + 1, 4, none⟩ (.bool TT.ap)).setCell ⟨nb + 1 + 1, 5, none⟩ (.slice B (evsOf 2 ⟨#[]⟩ U).length kk)).setCell ⟨nb + 1 + 1, 6, none⟩ (.int .i64 1)).cell? ⟨nb, 1, none⟩ = some (.int .i64 TT.ty) ∧ (((((((v9.setCell ⟨nb + 1 + 1, 0, none⟩ (.slice Sa TT.rs.length Sk)).setCell ⟨nb + 1 + 1, 1, none⟩ (.int .i64 TT.ty)).setCell ⟨nb + 1 + 1, 2, none⟩ (.string TT.ho)).setCell ⟨nb + 1 + 1, 3, none⟩ (.int .u32 TT.ge)).setCell ⟨nb + 1 + 1, 4, none⟩ (.bool TT.ap)).setCell ⟨nb + 1 + 1, 5, none⟩ (.slice B (evsOf 2 ⟨#[]⟩ U).length kk)).setCell ⟨nb + 1 + 1, 6, none⟩ (.int .i64 1)).cell? ⟨nb, 2, none⟩ = some (.string TT.ho) ∧ (((((((v9.setCell ⟨nb + 1 + 1, 0, none⟩ (.slice Sa TT.rs.length Sk)).setCell ⟨nb + 1 + 1, 1, none⟩ (.int .i64 TT.ty)).setCell ⟨nb + 1 + 1, 2, none⟩ (.string TT.ho)).setCell ⟨nb + 1 + 1, 3, none⟩ (.int .u32 TT.ge)).setCell ⟨nb + 1 + 1, 4, none⟩ (.bool TT.ap)).setCell ⟨nb + 1 + 1, 5, none⟩ (.slice B (evsOf 2 ⟨#[]⟩ U).length kk)).setCell ⟨nb + 1 + 1, 6, none⟩ (.int .i64 1)).cell? ⟨nb, 3, none⟩ = some (.int .u32 TT.ge) ∧ (((((((v9.setCell ⟨nb + 1 + 1, 0, none⟩ (.slice Sa TT.rs.length Sk)).setCell ⟨nb + 1 + 1, 1, none⟩ (.int .i64 TT.ty)).setCell ⟨nb + 1 + 1, 2, none⟩ (.string TT.ho)).setCell ⟨nb + 1 + 1, 3, none⟩ (.int .u32 TT.ge)).setCell ⟨nb + 1 + 1, 4, none⟩ (.bool TT.ap)).setCell ⟨nb + 1 + 1, 5, none⟩ (.slice B (evsOf 2 ⟨#[]⟩ U).length kk)).setCell ⟨nb + 1 + 1, 6, none⟩ (.int .i64 1)).cell? ⟨nb, 4, none⟩ = some (.bool TT.ap)); clear b2; have r0 : v9.cell? ⟨nb + 1 + 1, 0, none⟩ = some (.slice none 0 0) := R9.out.res.cell 0; have q0 : v9.frozen? ⟨nb + 1 + 1, 0, none⟩ = false := R9.out.res.free 0; have r1 : v9.cell? ⟨nb + 1 + 1, 1, none⟩ = some (.int .i64 0) := R9.out.res.cell 1; have q1 : v9.frozen? ⟨nb + 1 + 1, 1, none⟩ = false := R9.out.res.free 1; have r2 : v9.cell? ⟨nb + 1 + 1, 2, none⟩ = some (.string ⟨#[]⟩) := R9.out.res.cell 2; have q2 : v9.frozen? ⟨nb + 1 + 1, 2, none⟩ = false := R9.out.res.free 2; have r3 : v9.cell? ⟨nb + 1 + 1, 3, none⟩ = some (.int .u32 0) := R9.out.res.cell 3; have q3 : v9.frozen? ⟨nb + 1 + 1, 3, none⟩ = false := R9.out.res.free 3; have r4 : v9.cell? ⟨nb + 1 + 1, 4, none⟩ = some (.bool false) := R9.out.res.cell 4; have q4 : v9.frozen? ⟨nb + 1 + 1, 4, none⟩ = false := R9.out.res.free 4; have r5 : v9.cell? ⟨nb + 1 + 1, 5, none⟩ = some (.slice none 0 0) := R9.out.res.cell 5; have q5 : v9.frozen? ⟨nb + 1 + 1, 5, none⟩ = false := R9.out.res.free 5; have r6 : v9.cell? ⟨nb + 1 + 1, 6, none⟩ = some (.int .i64 0) := R9.out.res.cell 6; have q6 : v9.frozen? ⟨nb + 1 + 1, 6, none⟩ = false := R9.out.res.free 6; clear he hb))
      all_goals (refine NoPanic.normal ?_)
      obtain ⟨es5, hes⟩ : ∃ x, x = evsOf 2 ⟨#[]⟩ U := ⟨_, rfl⟩
      rw [← hes] at HE9 ⊢
      have HES := Lib.hid hes
      clear hes e1 e2 d0
      go_wp2_with (fail)
      obtain ⟨hK, hO, hB⟩ := td_put R9.out HE9.out (1) _ rfl
      refine bodyPost_ret_by (results_cell_row rfl _ _ (nb + 1 + 1) 43 (tdC Sa Sk TT B kk es5 1) (0, 0) _ rfl hK Tryd.underlying43 rfl size43) rfl ?_
      have hT : TT = { t with rs := t.rs.filter (fun r => !strB false m r), ge := incG t.ge } := by rw [HTT.out, HSq.out]
      have hE : es5 = evsOf 2 ⟨#[]⟩ (t.rs.filter (strB false m)) := by rw [HES.out, HUq.out]
      subst hT hE
      exact ⟨Sa, Sk, B, kk, rfl, hO.1, hO.2, hB⟩
set_option maxRecDepth 100000 in
set_option maxHeartbeats 4000000 in
theorem refPre_dz1 (n0 : Nat) (A : Option Addr) (c : Nat) (t : Tl) (m : Cm) (w : World) (ho : Own w n0 A c t.rs) (hn : n0 ≤ w.heap.size) (hm : t.rs.length ≤ 200) (hty : typeB m.ty = true) (h5 : ¬ (4 : Int) < t.ty) (halo : aloB t.ty = false) (z0 : (m.ot == 0) = false) (eU : (((t.rs.filter (strB false m)).length : Int) == 0) = false) :
    Calls Tryd.prog 43 #[tlV A c t, cmV m] w (RdOut n0 w ({ t with rs := t.rs.filter (fun r => !strB false m r), ge := incG t.ge }) (evsOf 2 ⟨#[]⟩ (t.rs.filter (strB false m))) (1)) := by
  have R0 := Lib.hid (RdAt.from w A c t m ho hn)
  have HM := Lib.hid (show t.rs.length ≤ maxLen by unfold maxLen; omega)
  have HM2 := Lib.hid hm
  have hnt := not_true
  have hnf := not_false
  obtain ⟨nb, hnb⟩ : ∃ nb, nb = w.heap.size := ⟨_, rfl⟩
  have HTy := Lib.hid hty
  clear ho hn hm hty
  go_enter Tryd.func43, Tryd.ntmps43
  go_upto_region 1 with (fail)
  change Code.wp _ _ _ _ (((w.alloc (.cells (tlC A c t) 27)).alloc (.cells (cmC m) 37)).alloc (.cells tdZ 43))
  generalize ((w.alloc (.cells (tlC A c t) 27)).alloc (.cells (cmC m) 37)).alloc (.cells tdZ 43) = v0 at *
  rw [← hnb] at R0 ⊢
  clear hnb
  have c0 : v0.cell? ⟨nb, 0, none⟩ = some (.slice A t.rs.length c) := R0.out.box.cell 0
  have c1 : v0.cell? ⟨nb, 1, none⟩ = some (.int .i64 t.ty) := R0.out.box.cell 1
  have c2 : v0.cell? ⟨nb, 2, none⟩ = some (.string t.ho) := R0.out.box.cell 2
  have c3 : v0.cell? ⟨nb, 3, none⟩ = some (.int .u32 t.ge) := R0.out.box.cell 3
  have c4 : v0.cell? ⟨nb, 4, none⟩ = some (.bool t.ap) := R0.out.box.cell 4
  have m10 : v0.cell? ⟨nb + 1, 10, none⟩ = some (.int .u64 m.ot) := R0.out.cmd.cell 10
  go_upto_region 2 with (fail)
  obtain ⟨C, hC0, hCl, hCi, hCm⟩ := class_of v0 (fun v => RdAt n0 nb w v A c t m) (fun v hb => R0.out.below hb)
  have HC0 := Lib.hid hC0; have HL := Lib.hid hCl; have HCm := Lib.hid hCm
  clear hC0 hCl hCi hCm m10
  clear c0 c1 c2 c3 c4
  have HA := Lib.hid (fun u => alone_any t.ty u)
  rw [halo] at HA
  refine wp_region_class C (by kernel_rfl) (by kernel_rfl) HC0.out ?_
  go_big_quiet_want
  go_big_quiet_op
  first | go_big_quiet_on | (refine ⟨_, fun _ _ => rfl, ?_⟩; go_big_quiet_on)
  go_big_quiet_want
  go_big_quiet_op
  first | go_big_quiet_on | (refine ⟨_, fun _ _ => rfl, ?_⟩; go_big_quiet_on)
  go_big_quiet_want
  go_big_quiet_op
  first | go_big_quiet_on | (refine ⟨_, fun _ _ => rfl, ?_⟩; go_big_quiet_on)
  go_big_quiet_want
  go_big_quiet_op
  first | go_big_quiet_on | (refine ⟨_, fun _ _ => rfl, ?_⟩; go_big_quiet_on)
  go_big_quiet_want
  refine quiet_run (v := .int .i64 t.ty) (fun v hv => by have h := HL.out v hv; have c0 : v.cell? ⟨nb, 0, none⟩ = some (.slice A t.rs.length c) := h.box.cell 0; have c1 : v.cell? ⟨nb, 1, none⟩ = some (.int .i64 t.ty) := h.box.cell 1; have c2 : v.cell? ⟨nb, 2, none⟩ = some (.string t.ho) := h.box.cell 2; have c3 : v.cell? ⟨nb, 3, none⟩ = some (.int .u32 t.ge) := h.box.cell 3; have c4 : v.cell? ⟨nb, 4, none⟩ = some (.bool t.ap) := h.box.cell 4; have m10 : v.cell? ⟨nb + 1, 10, none⟩ = some (.int .u64 m.ot) := h.cmd.cell 10; go_simp) ?_
  simp only [Act.put, List.setIfInBounds_toArray, List.set_cons_zero, List.set_cons_succ]
  go_big_quiet_on
  go_big_quiet_want
  refine quiet_call (f := 32) (args := #[.int .i64 t.ty]) (fun v _ => by go_simp) (fun v hv => (HA.out v).mono (fun e w' h => ⟨h.1, h.2 ▸ hv⟩)) ?_
  simp only [Act.put, List.setIfInBounds_toArray, List.set_cons_zero, List.set_cons_succ]
  go_big_quiet_on
  go_big_quiet_want
  go_big_quiet_op
  first | go_big_quiet_on | (refine ⟨_, fun _ _ => rfl, ?_⟩; go_big_quiet_on)
  go_big_quiet_skip
  go_big_quiet_skip
  go_big_quiet_skip
  go_big_quiet_skip
  go_big_quiet_skip
  go_big_quiet_skip
  go_big_quiet_skip
  go_big_quiet_skip
  go_big_quiet_want
  go_big_quiet_op
  first | go_big_quiet_on | (refine ⟨_, fun _ _ => rfl, ?_⟩; go_big_quiet_on)
  go_big_quiet_want
  go_big_quiet_op
  first | go_big_quiet_on | (refine ⟨_, fun _ _ => rfl, ?_⟩; go_big_quiet_on)
  go_big_quiet_want
  go_big_quiet_op
  first | go_big_quiet_on | (refine ⟨_, fun _ _ => rfl, ?_⟩; go_big_quiet_on)
  intro v1 hC1
  have R1 := Lib.hid (HL.out v1 hC1)
  clear hC1 HC0 HL HCm R0
  have m10 : v1.cell? ⟨nb + 1, 10, none⟩ = some (.int .u64 m.ot) := R1.out.cmd.cell 10
  obtain ⟨q, hq⟩ : ∃ q, q = strB false m := ⟨_, rfl⟩
  have HQ := Lib.hid hq
  clear hq
  go_wp2_with (fail)
  go_loopw [7, 8, 9] (fun s7 s8 i wr => ∃ (k : Nat) (Sa : Option Addr) (Sk : Nat) (Ua : Option Addr) (Uk : Nat), k ≤ t.rs.length ∧ i = .int .i64 k ∧ s7 = .slice Sa ((t.rs.take k).filter (fun r => !q r)).length Sk ∧ s8 = .slice Ua ((t.rs.take k).filter q).length Uk ∧ Hid (PrI n0 nb w wr A c t m Sa Sk ((t.rs.take k).filter (fun r => !q r)) Ua Uk ((t.rs.take k).filter q))) (fun _ _ i _ => t.rs.length - (intOf i).toNat)
  case atStart => exact ⟨0, none, 0, none, 0, Nat.zero_le _, rfl, rfl, rfl, Lib.hid (PrI.first R1.out)⟩
  case round =>
    clear R1 m10
    obtain ⟨k, Sa, Sk, Ua, Uk, hk, rfl, rfl, rfl, HR⟩ := hrel
    have c0 : wr.cell? ⟨nb, 0, none⟩ = some (.slice A t.rs.length c) := HR.out.r.box.cell 0
    by_cases hlt : k < t.rs.length
    · have hltI : (k : Int) < t.rs.length := by omega
      obtain ⟨b, o, x, rfl, hx, hz, d0, d1⟩ := HR.out.r.own.rgs.at_ hlt
      have m2 : wr.cell? ⟨nb + 1, 2, none⟩ = some (.string m.ho) := HR.out.r.cmd.cell 2
      have m10 : wr.cell? ⟨nb + 1, 10, none⟩ = some (.int .u64 m.ot) := HR.out.r.cmd.cell 10
      have F1 := Lib.hid (filter_take q t.rs k x hx)
      have F2 := Lib.hid (filter_take (fun r => !q r) t.rs k x hx)
      have HLs : Hid (((t.rs.take k).filter (fun r => !q r)).length ≤ 1000 ∧ ((t.rs.take k).filter q).length ≤ 1000) := by
        have a1 := List.length_filter_le q (t.rs.take k)
        have a2 := List.length_filter_le (fun r => !q r) (t.rs.take k)
        have a3 : (t.rs.take k).length ≤ k := by rw [List.length_take]; exact Nat.min_le_left _ _
        have a4 := HM2.out
        exact Lib.hid ⟨by omega, by omega⟩
      have HZ := Lib.hid hz
      have hm2 := HM2.out
      clear hx hz
      cases e1 : (x.h.toList == m.ho.toList) with
      | true =>
        have e2 : (x.h.toList != m.ho.toList) = false := by simp [bne, e1]
        have hqx : strB false m x = false := by show (!eqS x.h m.ho && _) = false; rw [show eqS x.h m.ho = true from e1]; rfl
        have HQx := Lib.hid (show q x = false by rw [HQ.out]; exact hqx)
        have G1 := Lib.hid (show (t.rs.take (k + 1)).filter q = (t.rs.take k).filter q by rw [F1.out, HQx.out]; simp)
        have G2 := Lib.hid (show (t.rs.take (k + 1)).filter (fun r => !q r) = (t.rs.take k).filter (fun r => !q r) ++ [x] by rw [F2.out, HQx.out]; simp)
        clear F1 F2 hqx
        generalize (t.rs.take k).filter q = U at *
        generalize (t.rs.take k).filter (fun r => !q r) = S at *
        go_upto_region 9 with (fail)
        go_quiet (fail)
        have HD := Lib.hid (HR.out.below (below_drewN (Below.refl _ _) nq))
        have g0 : (wr.drewN nq).cell? ⟨nb, 0, none⟩ = some (.slice (some ⟨b, o, none⟩) t.rs.length c) := c0
        have g1 : (wr.drewN nq).cell? ⟨b, o + k * 2, none⟩ = some (.string x.h) := d0
        have g2 : (wr.drewN nq).cell? ⟨b, o + k * 2 + 1, none⟩ = some (.int .u64 x.k) := d1
        clear c0 d0 d1 m2 m10 HR
        generalize wr.drewN nq = wd at *
        have HOA := Lib.hid (HD.out.below ((Below.refl wd.heap.size wd).alloc (Nat.le_refl _) (.cells (regC x) 57)))
        go_wp2_with (at_builtin; refine wpList_append_one rfl (.tmp 83) (.tmp 89) rfl n0 Sa Sk S rfl HOA.out.s wd.heap.size x rfl HZ.out (Blk.new wd 57 _) (by have := HLs.out; omega) HOA.out.r.lt ?_; intro A3 cc w3 hn3 hg3 hb3; have H3 := Lib.hid (HOA.out.stay hn3 hg3 hb3); clear hn3 hg3 hb3)
        go_roundw
        case rel => exact ⟨k + 1, A3, cc, Ua, Uk, by omega, by go_num, by rw [G2.out]; simp, by rw [G1.out], Lib.hid (by rw [G1.out, G2.out]; exact H3.out)⟩
        case measure => simp [intOf]; omega
      | false =>
        have e2 : (x.h.toList != m.ho.toList) = true := by simp [bne, e1]
        cases e3 : (x.k == m.ot) with
        | true =>
          have hqx : strB false m x = true := by
            have e4 : x.k = m.ot := by simpa using e3
            show (!eqS x.h m.ho && (false || decide (x.k = m.ot))) = true; rw [show eqS x.h m.ho = false from e1, decide_eq_true e4]; rfl
          have HQx := Lib.hid (show q x = true by rw [HQ.out]; exact hqx)
          have G1 := Lib.hid (show (t.rs.take (k + 1)).filter q = (t.rs.take k).filter q ++ [x] by rw [F1.out, HQx.out]; simp)
          have G2 := Lib.hid (show (t.rs.take (k + 1)).filter (fun r => !q r) = (t.rs.take k).filter (fun r => !q r) by rw [F2.out, HQx.out]; simp)
          clear F1 F2 hqx
          generalize (t.rs.take k).filter q = U at *
          generalize (t.rs.take k).filter (fun r => !q r) = S at *
          go_upto_region 9 with (fail)
          go_quiet (fail)
          have HD := Lib.hid (HR.out.below (below_drewN (Below.refl _ _) nq))
          have g0 : (wr.drewN nq).cell? ⟨nb, 0, none⟩ = some (.slice (some ⟨b, o, none⟩) t.rs.length c) := c0
          have g1 : (wr.drewN nq).cell? ⟨b, o + k * 2, none⟩ = some (.string x.h) := d0
          have g2 : (wr.drewN nq).cell? ⟨b, o + k * 2 + 1, none⟩ = some (.int .u64 x.k) := d1
          clear c0 d0 d1 m2 m10 HR
          generalize wr.drewN nq = wd at *
          have HOA := Lib.hid (HD.out.below ((Below.refl wd.heap.size wd).alloc (Nat.le_refl _) (.cells (regC x) 57)))
          go_wp2_with (at_builtin; refine wpList_append_one rfl (.tmp 75) (.tmp 81) rfl n0 Ua Uk U rfl HOA.out.u wd.heap.size x rfl HZ.out (Blk.new wd 57 _) (by have := HLs.out; omega) HOA.out.r.lt ?_; intro A3 cc w3 hn3 hg3 hb3; have H3 := Lib.hid (HOA.out.struck hn3 hg3 hb3); clear hn3 hg3 hb3)
          go_roundw
          case rel => exact ⟨k + 1, Sa, Sk, A3, cc, by omega, by go_num, by rw [G2.out], by rw [G1.out]; simp, Lib.hid (by rw [G1.out, G2.out]; exact H3.out)⟩
          case measure => simp [intOf]; omega
        | false =>
          have hqx : strB false m x = false := by
            have e4 : ¬ x.k = m.ot := by simpa using e3
            show (!eqS x.h m.ho && (false || decide (x.k = m.ot))) = false; rw [show eqS x.h m.ho = false from e1, decide_eq_false e4]; rfl
          have HQx := Lib.hid (show q x = false by rw [HQ.out]; exact hqx)
          have G1 := Lib.hid (show (t.rs.take (k + 1)).filter q = (t.rs.take k).filter q by rw [F1.out, HQx.out]; simp)
          have G2 := Lib.hid (show (t.rs.take (k + 1)).filter (fun r => !q r) = (t.rs.take k).filter (fun r => !q r) ++ [x] by rw [F2.out, HQx.out]; simp)
          clear F1 F2 hqx
          generalize (t.rs.take k).filter q = U at *
          generalize (t.rs.take k).filter (fun r => !q r) = S at *
          go_upto_region 9 with (fail)
          go_quiet (fail)
          have HD := Lib.hid (HR.out.below (below_drewN (Below.refl _ _) nq))
          have g0 : (wr.drewN nq).cell? ⟨nb, 0, none⟩ = some (.slice (some ⟨b, o, none⟩) t.rs.length c) := c0
          have g1 : (wr.drewN nq).cell? ⟨b, o + k * 2, none⟩ = some (.string x.h) := d0
          have g2 : (wr.drewN nq).cell? ⟨b, o + k * 2 + 1, none⟩ = some (.int .u64 x.k) := d1
          clear c0 d0 d1 m2 m10 HR
          generalize wr.drewN nq = wd at *
          have HOA := Lib.hid (HD.out.below ((Below.refl wd.heap.size wd).alloc (Nat.le_refl _) (.cells (regC x) 57)))
          go_wp2_with (at_builtin; refine wpList_append_one rfl (.tmp 83) (.tmp 89) rfl n0 Sa Sk S rfl HOA.out.s wd.heap.size x rfl HZ.out (Blk.new wd 57 _) (by have := HLs.out; omega) HOA.out.r.lt ?_; intro A3 cc w3 hn3 hg3 hb3; have H3 := Lib.hid (HOA.out.stay hn3 hg3 hb3); clear hn3 hg3 hb3)
          go_roundw
          case rel => exact ⟨k + 1, A3, cc, Ua, Uk, by omega, by go_num, by rw [G2.out]; simp, by rw [G1.out], Lib.hid (by rw [G1.out, G2.out]; exact H3.out)⟩
          case measure => simp [intOf]; omega
    · obtain rfl : k = t.rs.length := by omega
      simp only [List.take_length] at HR ⊢
      obtain ⟨U, hU⟩ : ∃ U, U = t.rs.filter q := ⟨_, rfl⟩
      obtain ⟨S, hS⟩ : ∃ S, S = t.rs.filter (fun r => !q r) := ⟨_, rfl⟩
      rw [← hU, ← hS] at HR ⊢
      have HUq := Lib.hid (hU.trans (by rw [HQ.out])); have HSq := Lib.hid (hS.trans (by rw [HQ.out]))
      have eU' : ((U.length : Int) == 0) = false := by rw [hU, HQ.out]; exact eU
      have hUl : U.length ≤ 200 := by rw [hU]; exact Nat.le_trans (List.length_filter_le _ _) HM2.out
      clear hU hS eU
      have c0 : wr.cell? ⟨nb, 0, none⟩ = some (.slice A t.rs.length c) := HR.out.r.box.cell 0
      have c3 : wr.cell? ⟨nb, 3, none⟩ = some (.int .u32 t.ge) := HR.out.r.box.cell 3
      have f0 : wr.frozen? ⟨nb, 0, none⟩ = false := HR.out.r.box.free 0
      have f3 : wr.frozen? ⟨nb, 3, none⟩ = false := HR.out.r.box.free 3
      have hig : IntKind.u32.wrap (t.ge + 1) = incG t.ge := rfl
      have R6 := Lib.hid ((HR.out.r.rows (.inr (Below.refl _ _)) HR.out.s).put 3 (.int .u32 (incG t.ge)) (t' := { t with rs := S, ge := incG t.ge }) rfl rfl)
      have HU6 := Lib.hid (own_put2 (i := 0) (j := 3) (x := .slice Sa S.length Sk) (y := .int .u32 (incG t.ge)) HR.out.u HR.out.r.box)
      go_upto_region 16 with (fail)
      generalize (wr.setCell ⟨nb, 0, none⟩ (.slice Sa S.length Sk)).setCell ⟨nb, 3, none⟩ (.int .u32 (incG t.ge)) = v6 at *
      clear c0 c3 f0 f3 hig HR eU'
      go_upto_region 18 with (fail)
      have R8 := R6
      have HU8 := HU6
      clear R6 HU6
      obtain ⟨TT, hTT⟩ : ∃ x, x = { t with rs := S, ge := incG t.ge } := ⟨_, rfl⟩
      rw [← hTT] at R8
      have HTT := Lib.hid hTT
      clear hTT
      have HR8d := Lib.hid (R8.out.below (Below.refl _ _).drew)
      have HU8d := Lib.hid (HU8.out.below (Below.refl _ _).drew)
      have HCL := Lib.hid (fun v (hv : RdAt n0 nb w v Sa Sk TT m) => (⟨hv.box.cell 0, hv.box.cell 1, hv.box.cell 2, hv.box.cell 3, hv.box.cell 4⟩ : v.cell? ⟨nb, 0, none⟩ = some (.slice Sa TT.rs.length Sk) ∧ v.cell? ⟨nb, 1, none⟩ = some (.int .i64 TT.ty) ∧ v.cell? ⟨nb, 2, none⟩ = some (.string TT.ho) ∧ v.cell? ⟨nb, 3, none⟩ = some (.int .u32 TT.ge) ∧ v.cell? ⟨nb, 4, none⟩ = some (.bool TT.ap)))
      have d0 := HCL.out _ HR8d.out
      refine wp_region_noPanic ?_
      go_region_held (fun v => v.cell? ⟨nb, 0, none⟩ = some (.slice Sa TT.rs.length Sk) ∧ v.cell? ⟨nb, 1, none⟩ = some (.int .i64 TT.ty) ∧ v.cell? ⟨nb, 2, none⟩ = some (.string TT.ho) ∧ v.cell? ⟨nb, 3, none⟩ = some (.int .u32 TT.ge) ∧ v.cell? ⟨nb, 4, none⟩ = some (.bool TT.ap)) (first | with_reducible exact e2 | with_reducible exact e1 | with_reducible exact d0) (first
        | (go_at_call 42; refine (events_any Ua Uk U ⟨#[]⟩ 2 _ HU8d.out.rgs (by omega)).mono ?_; rintro e v9 ⟨B, kk, rfl, he, hb⟩; have R9 := Lib.hid (HR8d.out.below hb); have HE9 := Lib.hid (OwnE.base he HR8d.out.lt); have e1 := HCL.out _ R9.out; have b2 := far7 (x0 := .slice Sa TT.rs.length Sk) (x1 := .int .i64 TT.ty) (x2 := .string TT.ho) (x3 := .int .u32 TT.ge) (x4 := .bool TT.ap) (x5 := .slice B (evsOf 2 ⟨#[]⟩ U).length kk) (x6 := .int .i64 1) R9.out.box; have e2 := (⟨b2.cell 0, b2.cell 1, b2.cell 2, b2.cell 3, b2.cell 4⟩ : (((((((v9.setCell ⟨nb + 1 + 1, 0, none⟩ (.slice Sa TT.rs.length Sk)).setCell ⟨nb + 1 + 1, 1, none⟩ (.int .i64 TT.ty)).setCell ⟨nb + 1 + 1, 2, none⟩ (.string TT.ho)).setCell ⟨nb + 1 + 1, 3, none⟩ (.int .u32 TT.ge)).setCell ⟨nb + 1 + 1, 4, none⟩ (.bool TT.ap)).setCell ⟨nb + 1 + 1, 5, none⟩ (.slice B (evsOf 2 ⟨#[]⟩ U).length kk)).setCell ⟨nb + 1 + 1, 6, none⟩ (.int .i64 1)).cell? ⟨nb, 0, none⟩ = some (.slice Sa TT.rs.length Sk) ∧ (((((((v9.setCell ⟨nb + 1 + 1, 0, none⟩ (.slice Sa TT.rs.length Sk)).setCell ⟨nb + 1 + 1, 1, none⟩ (.int .i64 TT.ty)).setCell ⟨nb + 1 + 1, 2, none⟩ (.string TT.ho)).setCell ⟨nb + 1 + 1, 3, none⟩ (.int .u32 TT.ge)).setCell ⟨nb + 1 + 1, 4, none⟩ (.bool TT.ap)).setCell ⟨nb + 1 + 1, 5, none⟩ (.slice B (evsOf 2 ⟨#[]⟩ U).length kk)).setCell ⟨nb + 1 + 1, 6, none⟩ (.int .i64 1)).cell? ⟨nb, 1, none⟩ = some (.int .i64 TT.ty) ∧ (((((((v9.setCell ⟨nb + 1 + 1, 0, none⟩ (.slice Sa TT.rs.length Sk)).setCell ⟨nb + 1 + 1, 1, none⟩ (.int .i64 TT.ty)).setCell ⟨nb + 1 + 1, 2, none⟩ (.string TT.ho)).setCell ⟨nb + 1 + 1, 3, none⟩ (.int .u32 TT.ge)).setCell ⟨nb + 1 + 1, 4, none⟩ (.bool TT.ap)).setCell ⟨nb + 1 + 1, 5, none⟩ (.slice B (evsOf 2 ⟨#[]⟩ U).length kk)).setCell ⟨nb + 1 + 1, 6, none⟩ (.int .i64 1)).cell? ⟨nb, 2, none⟩ = some (.string TT.ho) ∧ (((((((v9.setCell ⟨nb + 1 + 1, 0, none⟩ (.slice Sa TT.rs.length Sk)).setCell ⟨nb + 1 + 1, 1, none⟩ (.int .i64 TT.ty)).setCell ⟨nb + 1 + 1, 2, none⟩ (.string TT.ho)).setCell ⟨nb + 1 + 1, 3, none⟩ (.int .u32 TT.ge)).setCell ⟨nb + 1 + 1, 4, none⟩ (.bool TT.ap)).setCell ⟨nb + 1 + 1, 5, none⟩ (.slice B (evsOf 2 ⟨#[]⟩ U).length kk)).setCell ⟨nb + 1 + 1, 6, none⟩ (.int .i64 1)).cell? ⟨nb, 3, none⟩ = some (.int .u32 TT.ge) ∧ (((((((v9.setCell ⟨nb + 1 + 1, 0, none⟩ (.slice Sa TT.rs.length Sk)).setCell ⟨nb + 1 + 1, 1, none⟩ (.int .i64 TT.ty)).setCell ⟨nb + 1 + 1, 2, none⟩ (.string TT.ho)).setCell ⟨nb + 1 + 1, 3, none⟩ (.int .u32 TT.ge)).setCell ⟨nb + 1 + 1, 4, none⟩ (.bool TT.ap)).setCell ⟨nb + 1 + 1, 5, none⟩ (.slice B (evsOf 2 ⟨#[]⟩ U).length kk)).setCell ⟨nb + 1 + 1, 6, none⟩ (.int .i64 1)).cell? ⟨nb, 4, none⟩ = some (.bool TT.ap)); clear b2; have r0 : v9.cell? ⟨nb + 1 + 1, 0, none⟩ = some (.slice none 0 0) := R9.out.res.cell 0; have q0 : v9.frozen? ⟨nb + 1 + 1, 0, none⟩ = false := R9.out.res.free 0; have r1 : v9.cell? ⟨nb + 1 + 1, 1, none⟩ = some (.int .i64 0) := R9.out.res.cell 1; have q1 : v9.frozen? ⟨nb + 1 + 1, 1, none⟩ = false := R9.out.res.free 1; have r2 : v9.cell? ⟨nb + 1 + 1, 2, none⟩ = some (.string ⟨#[]⟩) := R9.out.res.cell 2; have q2 : v9.frozen? ⟨nb + 1 + 1, 2, none⟩ = false := R9.out.res.free 2; have r3 : v9.cell? ⟨nb + 1 + 1, 3, none⟩ = some (.int .u32 0) := R9.out.res.cell 3; have q3 : v9.frozen? ⟨nb + 1 + 1, 3, none⟩ = false := R9.out.res.free 3; have r4 : v9.cell? ⟨nb + 1 + 1, 4, none⟩ = some (.bool false) := R9.out.res.cell 4; have q4 : v9.frozen? ⟨nb + 1 + 1, 4, none⟩ = false := R9.out.res.free 4; have r5 : v9.cell? ⟨nb + 1 + 1, 5, none⟩ = some (.slice none 0 0) := R9.out.res.cell 5; have q5 : v9.frozen? ⟨nb + 1 + 1, 5, none⟩ = false := R9.out.res.free 5; have r6 : v9.cell? ⟨nb + 1 + 1, 6, none⟩ = some (.int .i64 0) := R9.out.res.cell 6; have q6 : v9.frozen? ⟨nb + 1 + 1, 6, none⟩ = false := R9.out.res.free 6; clear he hb))
      all_goals (refine NoPanic.normal ?_)
      obtain ⟨es5, hes⟩ : ∃ x, x = evsOf 2 ⟨#[]⟩ U := ⟨_, rfl⟩
      rw [← hes] at HE9 ⊢
      have HES := Lib.hid hes
      clear hes e1 e2 d0
      go_wp2_with (fail)
      obtain ⟨hK, hO, hB⟩ := td_put R9.out HE9.out (1) _ rfl
      refine bodyPost_ret_by (results_cell_row rfl _ _ (nb + 1 + 1) 43 (tdC Sa Sk TT B kk es5 1) (0, 0) _ rfl hK Tryd.underlying43 rfl size43) rfl ?_
      have hT : TT = { t with rs := t.rs.filter (fun r => !strB false m r), ge := incG t.ge } := by rw [HTT.out, HSq.out]
      have hE : es5 = evsOf 2 ⟨#[]⟩ (t.rs.filter (strB false m)) := by rw [HES.out, HUq.out]
      subst hT hE
      exact ⟨Sa, Sk, B, kk, rfl, hO.1, hO.2, hB⟩
set_option maxRecDepth 100000 in
set_option maxHeartbeats 4000000 in
theorem refPre_dn1 (n0 : Nat) (A : Option Addr) (c : Nat) (t : Tl) (m : Cm) (w : World) (ho : Own w n0 A c t.rs) (hn : n0 ≤ w.heap.size) (hm : t.rs.length ≤ 200) (hty : typeB m.ty = true) (h5 : ¬ (4 : Int) < t.ty) (halo : aloB t.ty = true) (hkq : (keyR t.rs t.ho == m.ot) = false) (z0 : (m.ot == 0) = false) (eU : (((t.rs.filter (strB false m)).length : Int) == 0) = false) :
    Calls Tryd.prog 43 #[tlV A c t, cmV m] w (RdOut n0 w ({ t with rs := t.rs.filter (fun r => !strB false m r), ge := incG t.ge }) (evsOf 2 ⟨#[]⟩ (t.rs.filter (strB false m))) (1)) := by
  have R0 := Lib.hid (RdAt.from w A c t m ho hn)
  have HM := Lib.hid (show t.rs.length ≤ maxLen by unfold maxLen; omega)
  have HM2 := Lib.hid hm
  have hnt := not_true
  have hnf := not_false
  obtain ⟨nb, hnb⟩ : ∃ nb, nb = w.heap.size := ⟨_, rfl⟩
  have HTy := Lib.hid hty
  clear ho hn hm hty
  go_enter Tryd.func43, Tryd.ntmps43
  go_upto_region 1 with (fail)
  change Code.wp _ _ _ _ (((w.alloc (.cells (tlC A c t) 27)).alloc (.cells (cmC m) 37)).alloc (.cells tdZ 43))
  generalize ((w.alloc (.cells (tlC A c t) 27)).alloc (.cells (cmC m) 37)).alloc (.cells tdZ 43) = v0 at *
  rw [← hnb] at R0 ⊢
  clear hnb
  have c0 : v0.cell? ⟨nb, 0, none⟩ = some (.slice A t.rs.length c) := R0.out.box.cell 0
  have c1 : v0.cell? ⟨nb, 1, none⟩ = some (.int .i64 t.ty) := R0.out.box.cell 1
  have c2 : v0.cell? ⟨nb, 2, none⟩ = some (.string t.ho) := R0.out.box.cell 2
  have c3 : v0.cell? ⟨nb, 3, none⟩ = some (.int .u32 t.ge) := R0.out.box.cell 3
  have c4 : v0.cell? ⟨nb, 4, none⟩ = some (.bool t.ap) := R0.out.box.cell 4
  have m10 : v0.cell? ⟨nb + 1, 10, none⟩ = some (.int .u64 m.ot) := R0.out.cmd.cell 10
  go_upto_region 2 with (fail)
  obtain ⟨C, hC0, hCl, hCi, hCm⟩ := class_of v0 (fun v => RdAt n0 nb w v A c t m) (fun v hb => R0.out.below hb)
  have HC0 := Lib.hid hC0; have HL := Lib.hid hCl; have HCm := Lib.hid hCm
  clear hC0 hCl hCi hCm m10
  clear c0 c1 c2 c3 c4
  have HA := Lib.hid (fun u => alone_any t.ty u)
  rw [halo] at HA
  have HK := Lib.hid (fun v (hv : C v) => refKey_any A c t t.ho v (HL.out v hv).own.rgs HM.out)
  refine wp_region_class C (by kernel_rfl) (by kernel_rfl) HC0.out ?_
  go_big_quiet_want
  go_big_quiet_op
  first | go_big_quiet_on | (refine ⟨_, fun _ _ => rfl, ?_⟩; go_big_quiet_on)
  go_big_quiet_want
  go_big_quiet_op
  first | go_big_quiet_on | (refine ⟨_, fun _ _ => rfl, ?_⟩; go_big_quiet_on)
  go_big_quiet_want
  go_big_quiet_op
  first | go_big_quiet_on | (refine ⟨_, fun _ _ => rfl, ?_⟩; go_big_quiet_on)
  go_big_quiet_want
  go_big_quiet_op
  first | go_big_quiet_on | (refine ⟨_, fun _ _ => rfl, ?_⟩; go_big_quiet_on)
  go_big_quiet_want
  refine quiet_run (v := .int .i64 t.ty) (fun v hv => by have h := HL.out v hv; have c0 : v.cell? ⟨nb, 0, none⟩ = some (.slice A t.rs.length c) := h.box.cell 0; have c1 : v.cell? ⟨nb, 1, none⟩ = some (.int .i64 t.ty) := h.box.cell 1; have c2 : v.cell? ⟨nb, 2, none⟩ = some (.string t.ho) := h.box.cell 2; have c3 : v.cell? ⟨nb, 3, none⟩ = some (.int .u32 t.ge) := h.box.cell 3; have c4 : v.cell? ⟨nb, 4, none⟩ = some (.bool t.ap) := h.box.cell 4; have m10 : v.cell? ⟨nb + 1, 10, none⟩ = some (.int .u64 m.ot) := h.cmd.cell 10; go_simp) ?_
  simp only [Act.put, List.setIfInBounds_toArray, List.set_cons_zero, List.set_cons_succ]
  go_big_quiet_on
  go_big_quiet_want
  refine quiet_call (f := 32) (args := #[.int .i64 t.ty]) (fun v _ => by go_simp) (fun v hv => (HA.out v).mono (fun e w' h => ⟨h.1, h.2 ▸ hv⟩)) ?_
  simp only [Act.put, List.setIfInBounds_toArray, List.set_cons_zero, List.set_cons_succ]
  go_big_quiet_on
  go_big_quiet_want
  go_big_quiet_op
  first | go_big_quiet_on | (refine ⟨_, fun _ _ => rfl, ?_⟩; go_big_quiet_on)
  go_big_quiet_want
  refine quiet_run (v := tlV A c t) (fun v hv => by have h := HL.out v hv; have c0 : v.cell? ⟨nb, 0, none⟩ = some (.slice A t.rs.length c) := h.box.cell 0; have c1 : v.cell? ⟨nb, 1, none⟩ = some (.int .i64 t.ty) := h.box.cell 1; have c2 : v.cell? ⟨nb, 2, none⟩ = some (.string t.ho) := h.box.cell 2; have c3 : v.cell? ⟨nb, 3, none⟩ = some (.int .u32 t.ge) := h.box.cell 3; have c4 : v.cell? ⟨nb, 4, none⟩ = some (.bool t.ap) := h.box.cell 4; have m10 : v.cell? ⟨nb + 1, 10, none⟩ = some (.int .u64 m.ot) := h.cmd.cell 10; go_simp) ?_
  simp only [Act.put, List.setIfInBounds_toArray, List.set_cons_zero, List.set_cons_succ]
  go_big_quiet_on
  go_big_quiet_want
  go_big_quiet_op
  first | go_big_quiet_on | (refine ⟨_, fun _ _ => rfl, ?_⟩; go_big_quiet_on)
  go_big_quiet_want
  go_big_quiet_op
  first | go_big_quiet_on | (refine ⟨_, fun _ _ => rfl, ?_⟩; go_big_quiet_on)
  go_big_quiet_want
  refine quiet_run (v := .string t.ho) (fun v hv => by have h := HL.out v hv; have c0 : v.cell? ⟨nb, 0, none⟩ = some (.slice A t.rs.length c) := h.box.cell 0; have c1 : v.cell? ⟨nb, 1, none⟩ = some (.int .i64 t.ty) := h.box.cell 1; have c2 : v.cell? ⟨nb, 2, none⟩ = some (.string t.ho) := h.box.cell 2; have c3 : v.cell? ⟨nb, 3, none⟩ = some (.int .u32 t.ge) := h.box.cell 3; have c4 : v.cell? ⟨nb, 4, none⟩ = some (.bool t.ap) := h.box.cell 4; have m10 : v.cell? ⟨nb + 1, 10, none⟩ = some (.int .u64 m.ot) := h.cmd.cell 10; go_simp) ?_
  simp only [Act.put, List.setIfInBounds_toArray, List.set_cons_zero, List.set_cons_succ]
  go_big_quiet_on
  go_big_quiet_want
  refine quiet_call (f := 17) (args := #[tlV A c t, .string t.ho]) (fun v _ => by go_simp) (fun v hv => (HK.out v hv).mono (fun e w' h => ⟨h.1, HCm.out v w' hv h.2⟩)) ?_
  simp only [Act.put, List.setIfInBounds_toArray, List.set_cons_zero, List.set_cons_succ]
  go_big_quiet_on
  go_big_quiet_want
  go_big_quiet_op
  first | go_big_quiet_on | (refine ⟨_, fun _ _ => rfl, ?_⟩; go_big_quiet_on)
  go_big_quiet_want
  refine quiet_run (v := .int .u64 m.ot) (fun v hv => by have h := HL.out v hv; have c0 : v.cell? ⟨nb, 0, none⟩ = some (.slice A t.rs.length c) := h.box.cell 0; have c1 : v.cell? ⟨nb, 1, none⟩ = some (.int .i64 t.ty) := h.box.cell 1; have c2 : v.cell? ⟨nb, 2, none⟩ = some (.string t.ho) := h.box.cell 2; have c3 : v.cell? ⟨nb, 3, none⟩ = some (.int .u32 t.ge) := h.box.cell 3; have c4 : v.cell? ⟨nb, 4, none⟩ = some (.bool t.ap) := h.box.cell 4; have m10 : v.cell? ⟨nb + 1, 10, none⟩ = some (.int .u64 m.ot) := h.cmd.cell 10; go_simp) ?_
  simp only [Act.put, List.setIfInBounds_toArray, List.set_cons_zero, List.set_cons_succ]
  go_big_quiet_on
  go_big_quiet_want
  go_big_quiet_op
  first | go_big_quiet_on | (refine ⟨_, fun _ _ => rfl, ?_⟩; go_big_quiet_on)
  go_big_quiet_want
  go_big_quiet_op
  first | go_big_quiet_on | (refine ⟨_, fun _ _ => rfl, ?_⟩; go_big_quiet_on)
  go_big_quiet_want
  go_big_quiet_op
  first | go_big_quiet_on | (refine ⟨_, fun _ _ => rfl, ?_⟩; go_big_quiet_on)
  go_big_quiet_want
  go_big_quiet_op
  first | go_big_quiet_on | (refine ⟨_, fun _ _ => rfl, ?_⟩; go_big_quiet_on)
  intro v1 hC1
  have R1 := Lib.hid (HL.out v1 hC1)
  clear hC1 HC0 HL HCm R0
  have m10 : v1.cell? ⟨nb + 1, 10, none⟩ = some (.int .u64 m.ot) := R1.out.cmd.cell 10
  obtain ⟨q, hq⟩ : ∃ q, q = strB false m := ⟨_, rfl⟩
  have HQ := Lib.hid hq
  clear hq
  go_wp2_with (fail)
  go_loopw [7, 8, 9] (fun s7 s8 i wr => ∃ (k : Nat) (Sa : Option Addr) (Sk : Nat) (Ua : Option Addr) (Uk : Nat), k ≤ t.rs.length ∧ i = .int .i64 k ∧ s7 = .slice Sa ((t.rs.take k).filter (fun r => !q r)).length Sk ∧ s8 = .slice Ua ((t.rs.take k).filter q).length Uk ∧ Hid (PrI n0 nb w wr A c t m Sa Sk ((t.rs.take k).filter (fun r => !q r)) Ua Uk ((t.rs.take k).filter q))) (fun _ _ i _ => t.rs.length - (intOf i).toNat)
  case atStart => exact ⟨0, none, 0, none, 0, Nat.zero_le _, rfl, rfl, rfl, Lib.hid (PrI.first R1.out)⟩
  case round =>
    clear R1 m10
    obtain ⟨k, Sa, Sk, Ua, Uk, hk, rfl, rfl, rfl, HR⟩ := hrel
    have c0 : wr.cell? ⟨nb, 0, none⟩ = some (.slice A t.rs.length c) := HR.out.r.box.cell 0
    by_cases hlt : k < t.rs.length
    · have hltI : (k : Int) < t.rs.length := by omega
      obtain ⟨b, o, x, rfl, hx, hz, d0, d1⟩ := HR.out.r.own.rgs.at_ hlt
      have m2 : wr.cell? ⟨nb + 1, 2, none⟩ = some (.string m.ho) := HR.out.r.cmd.cell 2
      have m10 : wr.cell? ⟨nb + 1, 10, none⟩ = some (.int .u64 m.ot) := HR.out.r.cmd.cell 10
      have F1 := Lib.hid (filter_take q t.rs k x hx)
      have F2 := Lib.hid (filter_take (fun r => !q r) t.rs k x hx)
      have HLs : Hid (((t.rs.take k).filter (fun r => !q r)).length ≤ 1000 ∧ ((t.rs.take k).filter q).length ≤ 1000) := by
        have a1 := List.length_filter_le q (t.rs.take k)
        have a2 := List.length_filter_le (fun r => !q r) (t.rs.take k)
        have a3 : (t.rs.take k).length ≤ k := by rw [List.length_take]; exact Nat.min_le_left _ _
        have a4 := HM2.out
        exact Lib.hid ⟨by omega, by omega⟩
      have HZ := Lib.hid hz
      have hm2 := HM2.out
      clear hx hz
      cases e1 : (x.h.toList == m.ho.toList) with
      | true =>
        have e2 : (x.h.toList != m.ho.toList) = false := by simp [bne, e1]
        have hqx : strB false m x = false := by show (!eqS x.h m.ho && _) = false; rw [show eqS x.h m.ho = true from e1]; rfl
        have HQx := Lib.hid (show q x = false by rw [HQ.out]; exact hqx)
        have G1 := Lib.hid (show (t.rs.take (k + 1)).filter q = (t.rs.take k).filter q by rw [F1.out, HQx.out]; simp)
        have G2 := Lib.hid (show (t.rs.take (k + 1)).filter (fun r => !q r) = (t.rs.take k).filter (fun r => !q r) ++ [x] by rw [F2.out, HQx.out]; simp)
        clear F1 F2 hqx
        generalize (t.rs.take k).filter q = U at *
        generalize (t.rs.take k).filter (fun r => !q r) = S at *
        go_upto_region 9 with (fail)
        go_quiet (fail)
        have HD := Lib.hid (HR.out.below (below_drewN (Below.refl _ _) nq))
        have g0 : (wr.drewN nq).cell? ⟨nb, 0, none⟩ = some (.slice (some ⟨b, o, none⟩) t.rs.length c) := c0
        have g1 : (wr.drewN nq).cell? ⟨b, o + k * 2, none⟩ = some (.string x.h) := d0
        have g2 : (wr.drewN nq).cell? ⟨b, o + k * 2 + 1, none⟩ = some (.int .u64 x.k) := d1
        clear c0 d0 d1 m2 m10 HR
        generalize wr.drewN nq = wd at *
        have HOA := Lib.hid (HD.out.below ((Below.refl wd.heap.size wd).alloc (Nat.le_refl _) (.cells (regC x) 57)))
        go_wp2_with (at_builtin; refine wpList_append_one rfl (.tmp 83) (.tmp 89) rfl n0 Sa Sk S rfl HOA.out.s wd.heap.size x rfl HZ.out (Blk.new wd 57 _) (by have := HLs.out; omega) HOA.out.r.lt ?_; intro A3 cc w3 hn3 hg3 hb3; have H3 := Lib.hid (HOA.out.stay hn3 hg3 hb3); clear hn3 hg3 hb3)
        go_roundw
        case rel => exact ⟨k + 1, A3, cc, Ua, Uk, by omega, by go_num, by rw [G2.out]; simp, by rw [G1.out], Lib.hid (by rw [G1.out, G2.out]; exact H3.out)⟩
        case measure => simp [intOf]; omega
      | false =>
        have e2 : (x.h.toList != m.ho.toList) = true := by simp [bne, e1]
        cases e3 : (x.k == m.ot) with
        | true =>
          have hqx : strB false m x = true := by
            have e4 : x.k = m.ot := by simpa using e3
            show (!eqS x.h m.ho && (false || decide (x.k = m.ot))) = true; rw [show eqS x.h m.ho = false from e1, decide_eq_true e4]; rfl
          have HQx := Lib.hid (show q x = true by rw [HQ.out]; exact hqx)
          have G1 := Lib.hid (show (t.rs.take (k + 1)).filter q = (t.rs.take k).filter q ++ [x] by rw [F1.out, HQx.out]; simp)
          have G2 := Lib.hid (show (t.rs.take (k + 1)).filter (fun r => !q r) = (t.rs.take k).filter (fun r => !q r) by rw [F2.out, HQx.out]; simp)
          clear F1 F2 hqx
          generalize (t.rs.take k).filter q = U at *
          generalize (t.rs.take k).filter (fun r => !q r) = S at *
          go_upto_region 9 with (fail)
          go_quiet (fail)
          have HD := Lib.hid (HR.out.below (below_drewN (Below.refl _ _) nq))
          have g0 : (wr.drewN nq).cell? ⟨nb, 0, none⟩ = some (.slice (some ⟨b, o, none⟩) t.rs.length c) := c0
          have g1 : (wr.drewN nq).cell? ⟨b, o + k * 2, none⟩ = some (.string x.h) := d0
          have g2 : (wr.drewN nq).cell? ⟨b, o + k * 2 + 1, none⟩ = some (.int .u64 x.k) := d1
          clear c0 d0 d1 m2 m10 HR
          generalize wr.drewN nq = wd at *
          have HOA := Lib.hid (HD.out.below ((Below.refl wd.heap.size wd).alloc (Nat.le_refl _) (.cells (regC x) 57)))
          go_wp2_with (at_builtin; refine wpList_append_one rfl (.tmp 75) (.tmp 81) rfl n0 Ua Uk U rfl HOA.out.u wd.heap.size x rfl HZ.out (Blk.new wd 57 _) (by have := HLs.out; omega) HOA.out.r.lt ?_; intro A3 cc w3 hn3 hg3 hb3; have H3 := Lib.hid (HOA.out.struck hn3 hg3 hb3); clear hn3 hg3 hb3)
          go_roundw
          case rel => exact ⟨k + 1, Sa, Sk, A3, cc, by omega, by go_num, by rw [G2.out], by rw [G1.out]; simp, Lib.hid (by rw [G1.out, G2.out]; exact H3.out)⟩
          case measure => simp [intOf]; omega
        | false =>
          have hqx : strB false m x = false := by
            have e4 : ¬ x.k = m.ot := by simpa using e3
            show (!eqS x.h m.ho && (false || decide (x.k = m.ot))) = false; rw [show eqS x.h m.ho = false from e1, decide_eq_false e4]; rfl
          have HQx := Lib.hid (show q x = false by rw [HQ.out]; exact hqx)
          have G1 := Lib.hid (show (t.rs.take (k + 1)).filter q = (t.rs.take k).filter q by rw [F1.out, HQx.out]; simp)
          have G2 := Lib.hid (show (t.rs.take (k + 1)).filter (fun r => !q r) = (t.rs.take k).filter (fun r => !q r) ++ [x] by rw [F2.out, HQx.out]; simp)
          clear F1 F2 hqx
          generalize (t.rs.take k).filter q = U at *
          generalize (t.rs.take k).filter (fun r => !q r) = S at *
          go_upto_region 9 with (fail)
          go_quiet (fail)
          have HD := Lib.hid (HR.out.below (below_drewN (Below.refl _ _) nq))
          have g0 : (wr.drewN nq).cell? ⟨nb, 0, none⟩ = some (.slice (some ⟨b, o, none⟩) t.rs.length c) := c0
          have g1 : (wr.drewN nq).cell? ⟨b, o + k * 2, none⟩ = some (.string x.h) := d0
          have g2 : (wr.drewN nq).cell? ⟨b, o + k * 2 + 1, none⟩ = some (.int .u64 x.k) := d1
          clear c0 d0 d1 m2 m10 HR
          generalize wr.drewN nq = wd at *
          have HOA := Lib.hid (HD.out.below ((Below.refl wd.heap.size wd).alloc (Nat.le_refl _) (.cells (regC x) 57)))
          go_wp2_with (at_builtin; refine wpList_append_one rfl (.tmp 83) (.tmp 89) rfl n0 Sa Sk S rfl HOA.out.s wd.heap.size x rfl HZ.out (Blk.new wd 57 _) (by have := HLs.out; omega) HOA.out.r.lt ?_; intro A3 cc w3 hn3 hg3 hb3; have H3 := Lib.hid (HOA.out.stay hn3 hg3 hb3); clear hn3 hg3 hb3)
          go_roundw
          case rel => exact ⟨k + 1, A3, cc, Ua, Uk, by omega, by go_num, by rw [G2.out]; simp, by rw [G1.out], Lib.hid (by rw [G1.out, G2.out]; exact H3.out)⟩
          case measure => simp [intOf]; omega
    · obtain rfl : k = t.rs.length := by omega
      simp only [List.take_length] at HR ⊢
      obtain ⟨U, hU⟩ : ∃ U, U = t.rs.filter q := ⟨_, rfl⟩
      obtain ⟨S, hS⟩ : ∃ S, S = t.rs.filter (fun r => !q r) := ⟨_, rfl⟩
      rw [← hU, ← hS] at HR ⊢
      have HUq := Lib.hid (hU.trans (by rw [HQ.out])); have HSq := Lib.hid (hS.trans (by rw [HQ.out]))
      have eU' : ((U.length : Int) == 0) = false := by rw [hU, HQ.out]; exact eU
      have hUl : U.length ≤ 200 := by rw [hU]; exact Nat.le_trans (List.length_filter_le _ _) HM2.out
      clear hU hS eU
      have c0 : wr.cell? ⟨nb, 0, none⟩ = some (.slice A t.rs.length c) := HR.out.r.box.cell 0
      have c3 : wr.cell? ⟨nb, 3, none⟩ = some (.int .u32 t.ge) := HR.out.r.box.cell 3
      have f0 : wr.frozen? ⟨nb, 0, none⟩ = false := HR.out.r.box.free 0
      have f3 : wr.frozen? ⟨nb, 3, none⟩ = false := HR.out.r.box.free 3
      have hig : IntKind.u32.wrap (t.ge + 1) = incG t.ge := rfl
      have R6 := Lib.hid ((HR.out.r.rows (.inr (Below.refl _ _)) HR.out.s).put 3 (.int .u32 (incG t.ge)) (t' := { t with rs := S, ge := incG t.ge }) rfl rfl)
      have HU6 := Lib.hid (own_put2 (i := 0) (j := 3) (x := .slice Sa S.length Sk) (y := .int .u32 (incG t.ge)) HR.out.u HR.out.r.box)
      go_upto_region 16 with (fail)
      generalize (wr.setCell ⟨nb, 0, none⟩ (.slice Sa S.length Sk)).setCell ⟨nb, 3, none⟩ (.int .u32 (incG t.ge)) = v6 at *
      clear c0 c3 f0 f3 hig HR eU'
      go_upto_region 18 with (fail)
      have R8 := R6
      have HU8 := HU6
      clear R6 HU6
      obtain ⟨TT, hTT⟩ : ∃ x, x = { t with rs := S, ge := incG t.ge } := ⟨_, rfl⟩
      rw [← hTT] at R8
      have HTT := Lib.hid hTT
      clear hTT
      have HR8d := Lib.hid (R8.out.below (Below.refl _ _).drew)
      have HU8d := Lib.hid (HU8.out.below (Below.refl _ _).drew)
      have HCL := Lib.hid (fun v (hv : RdAt n0 nb w v Sa Sk TT m) => (⟨hv.box.cell 0, hv.box.cell 1, hv.box.cell 2, hv.box.cell 3, hv.box.cell 4⟩ : v.cell? ⟨nb, 0, none⟩ = some (.slice Sa TT.rs.length Sk) ∧ v.cell? ⟨nb, 1, none⟩ = some (.int .i64 TT.ty) ∧ v.cell? ⟨nb, 2, none⟩ = some (.string TT.ho) ∧ v.cell? ⟨nb, 3, none⟩ = some (.int .u32 TT.ge) ∧ v.cell? ⟨nb, 4, none⟩ = some (.bool TT.ap)))
      have d0 := HCL.out _ HR8d.out
      refine wp_region_noPanic ?_
      go_region_held (fun v => v.cell? ⟨nb, 0, none⟩ = some (.slice Sa TT.rs.length Sk) ∧ v.cell? ⟨nb, 1, none⟩ = some (.int .i64 TT.ty) ∧ v.cell? ⟨nb, 2, none⟩ = some (.string TT.ho) ∧ v.cell? ⟨nb, 3, none⟩ = some (.int .u32 TT.ge) ∧ v.cell? ⟨nb, 4, none⟩ = some (.bool TT.ap)) (first | with_reducible exact e2 | with_reducible exact e1 | with_reducible exact d0) (first
        | (go_at_call 42; refine (events_any Ua Uk U ⟨#[]⟩ 2 _ HU8d.out.rgs (by omega)).mono ?_; rintro e v9 ⟨B, kk, rfl, he, hb⟩; have R9 := Lib.hid (HR8d.out.below hb); have HE9 := Lib.hid (OwnE.base he HR8d.out.lt); have e1 := HCL.out _ R9.out; have b2 := far7 (x0 := .slice Sa TT.rs.length Sk) (x1 := .int .i64 TT.ty) (x2 := .string TT.ho) (x3 := .int .u32 TT.ge) (x4 := .bool TT.ap) (x5 := .slice B (evsOf 2 ⟨#[]⟩ U).length kk) (x6 := .int .i64 1) R9.out.box; have e2 := (⟨b2.cell 0, b2.cell 1, b2.cell 2, b2.cell 3, b2.cell 4⟩ : (((((((v9.setCell ⟨nb + 1 + 1, 0, none⟩ (.slice Sa TT.rs.length Sk)).setCell ⟨nb + 1 + 1, 1, none⟩ (.int .i64 TT.ty)).setCell ⟨nb + 1 + 1, 2, none⟩ (.string TT.ho)).setCell ⟨nb + 1 + 1, 3, none⟩ (.int .u32 TT.ge)).setCell ⟨nb + 1 + 1, 4, none⟩ (.bool TT.ap)).setCell ⟨nb + 1 + 1, 5, none⟩ (.slice B (evsOf 2 ⟨#[]⟩ U).length kk)).setCell ⟨nb + 1 + 1, 6, none⟩ (.int .i64 1)).cell? ⟨nb, 0, none⟩ = some (.slice Sa TT.rs.length Sk) ∧ (((((((v9.setCell ⟨nb + 1 + 1, 0, none⟩ (.slice Sa TT.rs.length Sk)).setCell ⟨nb + 1 + 1, 1, none⟩ (.int .i64 TT.ty)).setCell ⟨nb + 1 + 1, 2, none⟩ (.string TT.ho)).setCell ⟨nb + 1 + 1, 3, none⟩ (.int .u32 TT.ge)).setCell ⟨nb + 1 + 1, 4, none⟩ (.bool TT.ap)).setCell ⟨nb + 1 + 1, 5, none⟩ (.slice B (evsOf 2 ⟨#[]⟩ U).length kk)).setCell ⟨nb + 1 + 1, 6, none⟩ (.int .i64 1)).cell? ⟨nb, 1, none⟩ = some (.int .i64 TT.ty) ∧ (((((((v9.setCell ⟨nb + 1 + 1, 0, none⟩ (.slice Sa TT.rs.length Sk)).setCell ⟨nb + 1 + 1, 1, none⟩ (.int .i64 TT.ty)).setCell ⟨nb + 1 + 1, 2, none⟩ (.string TT.ho)).setCell ⟨nb + 1 + 1, 3, none⟩ (.int .u32 TT.ge)).setCell ⟨nb + 1 + 1, 4, none⟩ (.bool TT.ap)).setCell ⟨nb + 1 + 1, 5, none⟩ (.slice B (evsOf 2 ⟨#[]⟩ U).length kk)).setCell ⟨nb + 1 + 1, 6, none⟩ (.int .i64 1)).cell? ⟨nb, 2, none⟩ = some (.string TT.ho) ∧ (((((((v9.setCell ⟨nb + 1 + 1, 0, none⟩ (.slice Sa TT.rs.length Sk)).setCell ⟨nb + 1 + 1, 1, none⟩ (.int .i64 TT.ty)).setCell ⟨nb + 1 + 1, 2, none⟩ (.string TT.ho)).setCell ⟨nb + 1 + 1, 3, none⟩ (.int .u32 TT.ge)).setCell ⟨nb + 1 + 1, 4, none⟩ (.bool TT.ap)).setCell ⟨nb + 1 + 1, 5, none⟩ (.slice B (evsOf 2 ⟨#[]⟩ U).length kk)).setCell ⟨nb + 1 + 1, 6, none⟩ (.int .i64 1)).cell? ⟨nb, 3, none⟩ = some (.int .u32 TT.ge) ∧ (((((((v9.setCell ⟨nb + 1 + 1, 0, none⟩ (.slice Sa TT.rs.length Sk)).setCell ⟨nb + 1 + 1, 1, none⟩ (.int .i64 TT.ty)).setCell ⟨nb + 1 + 1, 2, none⟩ (.string TT.ho)).setCell ⟨nb + 1 + 1, 3, none⟩ (.int .u32 TT.ge)).setCell ⟨nb + 1 + 1, 4, none⟩ (.bool TT.ap)).setCell ⟨nb + 1 + 1, 5, none⟩ (.slice B (evsOf 2 ⟨#[]⟩ U).length kk)).setCell ⟨nb + 1 + 1, 6, none⟩ (.int .i64 1)).cell? ⟨nb, 4, none⟩ = some (.bool TT.ap)); clear b2; have r0 : v9.cell? ⟨nb + 1 + 1, 0, none⟩ = some (.slice none 0 0) := R9.out.res.cell 0; have q0 : v9.frozen? ⟨nb + 1 + 1, 0, none⟩ = false := R9.out.res.free 0; have r1 : v9.cell? ⟨nb + 1 + 1, 1, none⟩ = some (.int .i64 0) := R9.out.res.cell 1; have q1 : v9.frozen? ⟨nb + 1 + 1, 1, none⟩ = false := R9.out.res.free 1; have r2 : v9.cell? ⟨nb + 1 + 1, 2, none⟩ = some (.string ⟨#[]⟩) := R9.out.res.cell 2; have q2 : v9.frozen? ⟨nb + 1 + 1, 2, none⟩ = false := R9.out.res.free 2; have r3 : v9.cell? ⟨nb + 1 + 1, 3, none⟩ = some (.int .u32 0) := R9.out.res.cell 3; have q3 : v9.frozen? ⟨nb + 1 + 1, 3, none⟩ = false := R9.out.res.free 3; have r4 : v9.cell? ⟨nb + 1 + 1, 4, none⟩ = some (.bool false) := R9.out.res.cell 4; have q4 : v9.frozen? ⟨nb + 1 + 1, 4, none⟩ = false := R9.out.res.free 4; have r5 : v9.cell? ⟨nb + 1 + 1, 5, none⟩ = some (.slice none 0 0) := R9.out.res.cell 5; have q5 : v9.frozen? ⟨nb + 1 + 1, 5, none⟩ = false := R9.out.res.free 5; have r6 : v9.cell? ⟨nb + 1 + 1, 6, none⟩ = some (.int .i64 0) := R9.out.res.cell 6; have q6 : v9.frozen? ⟨nb + 1 + 1, 6, none⟩ = false := R9.out.res.free 6; clear he hb))
      all_goals (refine NoPanic.normal ?_)
      obtain ⟨es5, hes⟩ : ∃ x, x = evsOf 2 ⟨#[]⟩ U := ⟨_, rfl⟩
      rw [← hes] at HE9 ⊢
      have HES := Lib.hid hes
      clear hes e1 e2 d0
      go_wp2_with (fail)
      obtain ⟨hK, hO, hB⟩ := td_put R9.out HE9.out (1) _ rfl
      refine bodyPost_ret_by (results_cell_row rfl _ _ (nb + 1 + 1) 43 (tdC Sa Sk TT B kk es5 1) (0, 0) _ rfl hK Tryd.underlying43 rfl size43) rfl ?_
      have hT : TT = { t with rs := t.rs.filter (fun r => !strB false m r), ge := incG t.ge } := by rw [HTT.out, HSq.out]
      have hE : es5 = evsOf 2 ⟨#[]⟩ (t.rs.filter (strB false m)) := by rw [HES.out, HUq.out]
      subst hT hE
      exact ⟨Sa, Sk, B, kk, rfl, hO.1, hO.2, hB⟩
end Go.Proofs.YtgekadfkokkapaaDoor
