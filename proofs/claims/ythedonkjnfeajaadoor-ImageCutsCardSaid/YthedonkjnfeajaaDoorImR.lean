/- The document's own at this seat: keys, who holds alone, good tables, lists without a host, events. -/
import Derived.Test.YthedonkjnfeajaaDoorImG
import Derived.Test.YthedonkjnfeajaaDoorAcD
namespace Go.Proofs.YthedonkjnfeajaaDoor
open Go.RowKit
theorem keyR_here {l : List Rg} {h : ByteArray} {k : Nat} {x : Rg} (hx : l[k]? = some x) (hp : regB (l.take k) h = false) (he : eqS x.h h = true) : keyR l h = x.k := by
  have hf := findQ_here (q := isH h) hp hx he
  have hr : l.any (isH h) = true := by
    have := (List.any_eq_true (p := isH h)).2 ⟨x, List.mem_of_getElem? hx, he⟩
    exact this
  unfold findQ at hf
  rw [if_pos hr] at hf
  exact keyR_at hx (by exact_mod_cast hf.symm)
def aloB (n : Int) : Bool := decide (1 ≤ n ∧ n ≤ 4)
theorem alone_any (n : Int) (w : World) : Calls Tryd.prog 36 #[.int .i64 n] w fun e w' => e = .returned (.bool (aloB n)) ∧ w = w' := by
  have hf : aloB n = (decide (1 ≤ n) && decide (n ≤ 4)) := by unfold aloB; simp
  cases h1 : decide (1 ≤ n) with
  | true =>
    rw [h1, Bool.true_and] at hf
    have HF := Lib.hid hf; clear hf
    go_enter Tryd.func36, Tryd.ntmps36
    go_wp2_with (fail)
    go_ret
    exact ⟨by rw [HF.out]; rfl, rfl⟩
  | false =>
    rw [h1, Bool.false_and] at hf
    have HF := Lib.hid hf; clear hf
    go_enter Tryd.func36, Tryd.ntmps36
    go_wp2_with (fail)
    go_ret
    exact ⟨by rw [HF.out]; rfl, rfl⟩
set_option maxRecDepth 100000 in
set_option maxHeartbeats 4000000 in
theorem refGood_any (A : Option Addr) (c : Nat) (t : Tl) (w : World) (hl : Rgs w A t.rs) (hm : t.rs.length ≤ maxLen) :
    Calls Tryd.prog 19 #[tlV A c t] w fun e w' => e = .returned (.bool (goodB t)) ∧ Below w.heap.size w w' := by
  unfold maxLen at hm
  obtain ⟨h1, h2, h3⟩ := tl_box w A c t _ rfl
  have HT := Lib.hid h1; have HB := Lib.hid h2
  have HL := Lib.hid (hl.below h2)
  clear h1 h2 h3 hl
  by_cases h16 : t.rs.length ≤ 16
  · have hgt : decide ((16 : Int) < t.rs.length) = false := decide_eq_false (by omega)
    have HF := Lib.hid (show goodB t = (okTo t.rs t.rs.length && holdB t) by unfold goodB regsB; rw [decide_eq_true h16, Bool.true_and])
    go_enter Tryd.func19, Tryd.ntmps19
    go_upto_region 1 with (fail)
    change Code.wp _ _ _ _ (w.alloc (.cells (tlC A c t) 27))
    generalize w.alloc (.cells (tlC A c t) 27) = w0 at *
    have c0 : w0.cell? ⟨w.heap.size, 0, none⟩ = some (.slice A t.rs.length c) := HT.out.cell 0
    go_wp2_with (fail)
    clear c0
    go_loopw [3] (fun i wr => ∃ k : Nat, k ≤ t.rs.length ∧ i = .int .i64 k ∧ Hid (okTo t.rs k = true) ∧ Hid (Blk wr w.heap.size 27 (tlC A c t)) ∧ Hid (Rgs wr A t.rs) ∧ Hid (Below w.heap.size w wr)) (fun i _ => t.rs.length - (intOf i).toNat)
    case atStart => exact ⟨0, Nat.zero_le _, rfl, Lib.hid rfl, HT, HL, HB⟩
    case round =>
      obtain ⟨k, hk, rfl, HK, HTr, HLr, HBr⟩ := hrel
      clear HT HL HB
      by_cases hlt : k < t.rs.length
      · obtain ⟨b, o, x, rfl, hx, hz, d0, d1⟩ := HLr.out.at_ hlt
        have c0 : wr.cell? ⟨w.heap.size, 0, none⟩ = some (.slice (some ⟨b, o, none⟩) t.rs.length c) := HTr.out.cell 0
        have HX := Lib.hid hx
        have HA := Lib.hid (show okAt t.rs k = ((x.k != 0 && nameB x.h) && !regB (t.rs.take k) x.h) by unfold okAt; rw [hx])
        have HN := Lib.hid (fun v => refName_any x.h v hz)
        clear hx hz
        have hnt := not_true
        have hnf := not_false
        cases hn : nameB x.h with
        | false =>
          rw [hn] at HN HA
          have HO := Lib.hid (show okAt t.rs k = false by rw [HA.out]; simp)
          clear HA hn
          go_wp2_with (fail)
          refine (HN.out _).mono ?_; rintro e w3 ⟨rfl, rfl⟩
          go_wp2_with (fail)
          go_ret
          exact ⟨by rw [HF.out, okTo_no HO.out _ hlt]; rfl, HBr.out⟩
        | true =>
          rw [hn] at HN HA
          cases hz : (x.k == 0) with
          | true =>
            have HO := Lib.hid (show okAt t.rs k = false by rw [HA.out]; simp [bne, hz])
            clear HA hn
            go_wp2_with (fail)
            refine (HN.out _).mono ?_; rintro e w3 ⟨rfl, rfl⟩
            go_wp2_with (fail)
            go_ret
            exact ⟨by rw [HF.out, okTo_no HO.out _ hlt]; rfl, HBr.out⟩
          | false =>
            have HA2 := Lib.hid (show okAt t.rs k = !regB (t.rs.take k) x.h by rw [HA.out]; simp [bne, hz])
            clear HA hn
            go_wp2_with (fail)
            refine (HN.out _).mono ?_; rintro e w3 ⟨rfl, rfl⟩
            go_wp2_with (fail)
            clear c0 d0 d1 hz
            go_loopw [4] (fun i wr => ∃ j : Nat, j ≤ k ∧ i = .int .i64 j ∧ Hid (regB (t.rs.take j) x.h = false) ∧ Hid (Blk wr w.heap.size 27 (tlC (some ⟨b, o, none⟩) c t)) ∧ Hid (Rgs wr (some ⟨b, o, none⟩) t.rs) ∧ Hid (Below w.heap.size w wr)) (fun i _ => k - (intOf i).toNat)
            case atStart => exact ⟨0, Nat.zero_le _, rfl, Lib.hid rfl, HTr, HLr, HBr⟩
            case round =>
              obtain ⟨j, hj, rfl, HJ, HTv, HLv, HBv⟩ := hrel
              clear HTr HLr HBr
              by_cases hjk : j < k
              · obtain ⟨b2, o2, y, e2, hy, hyz, f0, f1⟩ := HLv.out.at_ (Nat.lt_trans hjk hlt)
                obtain ⟨b3, o3, x3, e3, hx3, _, g0, g1⟩ := HLv.out.at_ hlt
                obtain rfl : x3 = x := Option.some.inj (hx3.symm.trans HX.out)
                injection e2 with e2; injection e2 with e21 e22; subst e21 e22
                injection e3 with e3; injection e3 with e31 e32; subst e31 e32
                have c0 : wr.cell? ⟨w.heap.size, 0, none⟩ = some (.slice (some ⟨b, o, none⟩) t.rs.length c) := HTv.out.cell 0
                have HY := Lib.hid hy
                clear hy hx3 hyz f1 g1
                have hjl : (j : Int) < t.rs.length := by omega
                have hkl : (k : Int) < t.rs.length := by omega
                cases he : (y.h.toList == x3.h.toList) with
                | true =>
                  have HRT := Lib.hid (show regB (t.rs.take k) x3.h = true by
                    have h1 : regB (t.rs.take (j + 1)) x3.h = true := by rw [regB_take _ _ _ _ HY.out, HJ.out]; exact he
                    obtain ⟨z, hz, hq⟩ := regB_iff.1 h1
                    exact regB_iff.2 ⟨z, by
                      obtain ⟨i, hi, rfl⟩ := List.mem_take_iff_getElem.1 hz
                      exact List.mem_take_iff_getElem.2 ⟨i, by omega, rfl⟩, hq⟩)
                  go_upto_region 11 with (fail)
                  go_quiet (fail)
                  go_wp2_with (fail)
                  go_ret
                  exact ⟨by rw [HF.out, okTo_no (by rw [HA2.out, HRT.out]; rfl) _ hlt]; rfl, below_drewN HBv.out _⟩
                | false =>
                  have HRF := Lib.hid (show regB (t.rs.take (j + 1)) x3.h = false by rw [regB_take _ _ _ _ HY.out, HJ.out]; exact he)
                  go_upto_region 11 with (fail)
                  go_quiet (fail)
                  go_wp2_with (fail)
                  go_roundw
                  case rel => exact ⟨j + 1, by omega, by go_num, HRF, Lib.hid HTv.out, Lib.hid (HLv.out.below (below_drewN (Below.refl _ _) _)), Lib.hid (below_drewN HBv.out _)⟩
                  case measure => simp [intOf]; omega
              · obtain rfl : j = k := by omega
                have HO := Lib.hid (show okAt t.rs j = true by rw [HA2.out, HJ.out]; rfl)
                go_wp2_with (fail)
                go_roundw
                case rel => exact ⟨j + 1, by omega, by go_num, Lib.hid (by show (okTo t.rs j && okAt t.rs j) = true; rw [HK.out, HO.out]; rfl), HTv, HLv, HBv⟩
                case measure => simp [intOf]; omega
      · obtain rfl : k = t.rs.length := by omega
        have HG := Lib.hid (show goodB t = holdB t by rw [HF.out, HK.out]; rfl)
        clear HF HK
        have c0 : wr.cell? ⟨w.heap.size, 0, none⟩ = some (.slice A t.rs.length c) := HTr.out.cell 0
        have c1 : wr.cell? ⟨w.heap.size, 1, none⟩ = some (.int .i64 t.ty) := HTr.out.cell 1
        have c2 : wr.cell? ⟨w.heap.size, 2, none⟩ = some (.string t.ho) := HTr.out.cell 2
        have c3 : wr.cell? ⟨w.heap.size, 3, none⟩ = some (.int .u32 t.ge) := HTr.out.cell 3
        have c4 : wr.cell? ⟨w.heap.size, 4, none⟩ = some (.bool t.ap) := HTr.out.cell 4
        have HAL := Lib.hid (fun v => alone_any t.ty v)
        have HTY := Lib.hid (fun v => refType_any t.ty v)
        have HRG := Lib.hid (refReg_any A c t t.ho wr HLr.out (by unfold maxLen; omega))
        cases hz : (t.ty == 0) with
        | true =>
          have HH := Lib.hid (show holdB t = t.ho.toList.isEmpty by unfold holdB; rw [if_pos (eqB hz)])
          go_wp2_with (fail)
          go_ret
          exact ⟨by rw [HG.out, HH.out]; rfl, HBr.out⟩
        | false =>
          cases ha : aloB t.ty with
          | true =>
            rw [ha] at HAL
            have hal := of_decide_eq_true ha
            have HH := Lib.hid (show holdB t = regB t.rs t.ho by
              unfold holdB
              rw [if_neg (by omega), if_neg (fun h => by have := sh_iff.1 h; omega), type_iff.2 (by omega), Bool.true_and])
            clear ha hal
            go_wp2_with (fail)
            refine (HAL.out _).mono ?_; rintro e w3 ⟨rfl, rfl⟩
            go_wp2_with (fail)
            refine HRG.out.mono ?_; rintro e w3 ⟨rfl, hb3⟩
            go_wp2_with (fail)
            go_ret
            exact ⟨by rw [HG.out, HH.out]; rfl, HBr.out.trans (hb3.mono HBr.out.size)⟩
          | false =>
            rw [ha] at HAL
            have hal := of_decide_eq_false ha
            have hz0 := neB hz
            cases hy : typeB t.ty with
            | true =>
              rw [hy] at HTY
              have hyy := type_iff.1 hy
              have HH := Lib.hid (show holdB t = (t.ho.toList.isEmpty && decide (0 < t.rs.length)) by
                unfold holdB
                rw [if_neg hz0, if_pos (sh_iff.2 (by omega))])
              clear ha hal hyy hy hz0
              cases he : t.ho.toList.isEmpty with
              | false =>
                rw [he, Bool.false_and] at HH
                have hn : ¬ t.ho.toList = [] := fun h => by rw [h] at he; cases he
                go_wp2_with (fail)
                refine (HAL.out _).mono ?_; rintro e w3 ⟨rfl, rfl⟩
                go_wp2_with (fail)
                refine (HTY.out _).mono ?_; rintro e w3 ⟨rfl, rfl⟩
                go_wp2_with (fail)
                go_ret
                exact ⟨by rw [HG.out, HH.out]; rfl, HBr.out⟩
              | true =>
                rw [he, Bool.true_and] at HH
                have hn : t.ho.toList = [] := List.isEmpty_iff.1 he
                go_wp2_with (fail)
                refine (HAL.out _).mono ?_; rintro e w3 ⟨rfl, rfl⟩
                go_wp2_with (fail)
                refine (HTY.out _).mono ?_; rintro e w3 ⟨rfl, rfl⟩
                go_wp2_with (fail)
                go_ret
                exact ⟨by rw [HG.out, HH.out]; simp, HBr.out⟩
            | false =>
              rw [hy] at HTY
              have hyy : ¬ (0 < t.ty ∧ t.ty < 7) := fun h => by rw [type_iff.2 h] at hy; cases hy
              have HH := Lib.hid (show holdB t = false by
                unfold holdB
                rw [if_neg hz0, if_neg (fun h => by have := sh_iff.1 h; omega), hy, Bool.false_and])
              clear ha hal hyy hy hz0
              go_wp2_with (fail)
              refine (HAL.out _).mono ?_; rintro e w3 ⟨rfl, rfl⟩
              go_wp2_with (fail)
              refine (HTY.out _).mono ?_; rintro e w3 ⟨rfl, rfl⟩
              go_wp2_with (fail)
              go_ret
              exact ⟨by rw [HG.out, HH.out]; rfl, HBr.out⟩
  · have hgt : decide ((16 : Int) < t.rs.length) = true := decide_eq_true (by omega)
    have HF := Lib.hid (show goodB t = false by unfold goodB regsB; rw [decide_eq_false h16]; rfl)
    go_enter Tryd.func19, Tryd.ntmps19
    go_upto_region 1 with (fail)
    change Code.wp _ _ _ _ (w.alloc (.cells (tlC A c t) 27))
    generalize w.alloc (.cells (tlC A c t) 27) = w0 at *
    have c0 : w0.cell? ⟨w.heap.size, 0, none⟩ = some (.slice A t.rs.length c) := HT.out.cell 0
    go_wp2_with (fail)
    go_ret
    exact ⟨by rw [HF.out]; rfl, HB.out⟩
end Go.Proofs.YthedonkjnfeajaaDoor
