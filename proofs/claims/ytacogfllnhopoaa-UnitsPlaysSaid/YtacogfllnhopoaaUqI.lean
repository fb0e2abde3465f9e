/- UnitsPlays: what it keeps, and its walk. -/
import Derived.Test.YtacogfllnhopoaaUqH
import Derived.Deep.RegionHeld3
import Derived.Deep.CutBlock
import Derived.Deep.DeepCutAuto
namespace Go.Proofs.Ytacogfllnhopoaa
open Go.RowKit Go.Maps
theorem PX.cell {w0 w : World} {p q : Nat} {f f2 : PF} {i s : Nat} {cs : Array Value} (h : PX w0 w p q f f2 i s cs) (j : Nat) : w.cell? ⟨s, j, none⟩ = cs[j]? := by
  obtain ⟨_, _, _, _, _, _, _, _, h7, _⟩ := h
  exact h7.cell j
set_option maxRecDepth 100000 in
set_option maxHeartbeats 4000000 in
theorem plays_any (A : Option Addr) (l : List Sx) (c : Nat) (w : World) (hS : Sxs w A l) :
    Calls Try.prog 3 #[.slice A l.length c] w fun e w' => e = .returned (.bool true) ∧ Below w.heap.size w w' := by
  have HS := Lib.hid hS
  clear hS
  go_enter Try.func3, Try.ntmps3
  go_wp2_with (first | (go_at_call 7; refine (ou_new w).mono ?_; rintro e w1 ⟨p, rfl, _, h1⟩; have HN := Lib.hid (pb_new h1); clear h1) | fail)
  go_loopw [5] (fun i wr => ∃ (k : Nat) (f : PF), i = .int .i64 (k : Int) ∧ Hid (k ≤ 100 ∧ k ≤ l.length) ∧ Hid (PB w wr p w1.heap.size f f k) ∧ Hid (Small f k)) (fun i _ => l.length - (intOf i).toNat)
  case atStart => exact ⟨0, noF, rfl, Lib.hid ⟨by omega, by omega⟩, HN, Lib.hid Small.zero⟩
  case round =>
    obtain ⟨k, f, rfl, HK, HP, HSM⟩ := hrel
    by_cases hlt : k < l.length
    · by_cases h100 : k < 100
      · have hki : (k : Int) < (l.length : Int) := by omega
        have hk1 : (k : Int) < 100 := by omega
        obtain ⟨m, hm⟩ : ∃ m, l[k]? = some m := ⟨_, List.getElem?_eq_getElem hlt⟩
        have hBw : Below w.heap.size w wr := by obtain ⟨_, _, _, _, _, _, _, h⟩ := HP.out; exact h
        obtain ⟨b, o, rfl, _, hc⟩ := HS.out.below hBw (by omega)
        obtain ⟨hok, hcc⟩ := hc k m hm
        have c0 : wr.cell? ⟨b, o + k * 4, none⟩ = some (.int .i64 m.kd) := hcc 0 _ rfl
        have c1 : wr.cell? ⟨b, o + k * 4 + 1, none⟩ = some (.int .i64 m.lu) := hcc 1 _ rfl
        have c2 : wr.cell? ⟨b, o + k * 4 + 2, none⟩ = some (.string m.ho) := hcc 2 _ rfl
        have c3 : wr.cell? ⟨b, o + k * 4 + 3, none⟩ = some (.int .i64 m.wh) := hcc 3 _ rfl
        have hwr : IntKind.i64.wrap ((k : Int) + 1) = (k : Int) + 1 := IntWalk.i64_in _ (by omega)
        have HOK := Lib.hid hok; have HLT := Lib.hid (show k < 100 ∧ k < l.length from ⟨h100, hlt⟩)
        have HX0 := Lib.hid (HP.out.box #[.int .i64 m.kd, .int .i64 m.lu, .string m.ho, .int .i64 m.wh])
        clear hm hBw hc hok hcc hlt h100
        by_cases hbig : (m.ho.size : Int) > 1000
        · go_wp2_with (fail)
          go_roundw
          case rel => exact ⟨k + 1, f, by go_num, Lib.hid ⟨by have := HLT.out; omega, by have := HLT.out; omega⟩, Lib.hid (HX0.out.pb.mono (Nat.le_succ _)), Lib.hid (HSM.out.mono (Nat.le_succ _))⟩
          case measure => simp [intOf]; have := HLT.out; omega
        · go_upto_region 9 with fail
          generalize wr.alloc (.cells #[.int .i64 m.kd, .int .i64 m.lu, .string m.ho, .int .i64 m.wh] 30) = wb at HX0 ⊢
          generalize wr.heap.size = s at HX0 ⊢
          clear c0 c1 c2 c3 hbig
          have d0 : wb.cell? ⟨s, 0, none⟩ = some (.int .i64 m.kd) := HX0.out.cell 0
          have d1 : wb.cell? ⟨s, 1, none⟩ = some (.int .i64 m.lu) := HX0.out.cell 1
          have d2 : wb.cell? ⟨s, 2, none⟩ = some (.string m.ho) := HX0.out.cell 2
          have d3 : wb.cell? ⟨s, 3, none⟩ = some (.int .i64 m.wh) := HX0.out.cell 3
          have HKV := Lib.hid (isKv HOK.out.lu HOK.out.ho)
          have HKM := Lib.hid (show k ≤ 1000000 by have := HLT.out; omega)
          have HKM1 := Lib.hid (show k + 1 ≤ 1000000 by have := HLT.out; omega)
          go_upto_block 2 with fail
          go_cut [7, 8, 9, 10] from 16 to 117 (fun s7 s8 s9 s10 wx => ∃ f', PX w wx p w1.heap.size f' f' (k + 1) s #[.int .i64 m.kd, .int .i64 m.lu, .string m.ho, .int .i64 m.wh] ∧ Small f' (k + 1))
          case first =>
            by_cases h0 : m.kd = 0
            · have b0 : (m.kd == 0) = true := by simpa using h0
              have HXD := Lib.hid (HX0.out.more (w' := wb.drew) (Below.refl _ _).drew)
              clear h0
              have hbb : (addB f m.lu m.ho m.wh != addB f m.lu m.ho m.wh) = false := by simp
              go_upto_region 11 with fail
              go_region_held3 (fun v => v.cell? ⟨s, 1, none⟩ = some (.int .i64 m.lu) ∧ v.cell? ⟨s, 2, none⟩ = some (.string m.ho) ∧ v.cell? ⟨s, 3, none⟩ = some (.int .i64 m.wh)) (first | exact ⟨g1, g2, g3⟩ | exact ⟨e1, e2, e3⟩ | exact ⟨d1, d2, d3⟩) (first
                | (go_at_call 8; refine (px_add HXD.out m.lu m.ho m.wh HKV.out HOK.out.ho).mono ?_; rintro e wa ⟨rfl, hh⟩; have HA := Lib.hid hh; clear hh; have e1 : wa.cell? ⟨s, 1, none⟩ = some (.int .i64 m.lu) := HA.out.cell 1; have e2 : wa.cell? ⟨s, 2, none⟩ = some (.string m.ho) := HA.out.cell 2; have e3 : wa.cell? ⟨s, 3, none⟩ = some (.int .i64 m.wh) := HA.out.cell 3)
                | (go_at_call 9; refine (px_radd HA.out HKM.out m.lu m.ho m.wh HOK.out.ho).mono ?_; rintro e we ⟨rfl, hh⟩; have HC := Lib.hid hh; clear hh; have g1 : we.cell? ⟨s, 1, none⟩ = some (.int .i64 m.lu) := HC.out.cell 1; have g2 : we.cell? ⟨s, 2, none⟩ = some (.string m.ho) := HC.out.cell 2; have g3 : we.cell? ⟨s, 3, none⟩ = some (.int .i64 m.wh) := HC.out.cell 3)
                | fail)
              all_goals (
                go_wp2_with (fail)
                go_meet
                exact ⟨_, HC.out, HSM.out.add _ _ _⟩)
            · have b0 : (m.kd == 0) = false := by simpa using h0
              clear h0
              by_cases h1 : m.kd = 1
              · have b1 : (m.kd == 1) = true := by simpa using h1
                clear h1
                go_wp2_with (first
                  | (go_at_call 10; refine (px_take HX0.out m.lu m.ho HKV.out).mono ?_; rintro e wa ⟨rfl, hh⟩; have HA := Lib.hid hh; clear hh; have e1 : wa.cell? ⟨s, 1, none⟩ = some (.int .i64 m.lu) := HA.out.cell 1; have e2 : wa.cell? ⟨s, 2, none⟩ = some (.string m.ho) := HA.out.cell 2)
                  | (go_at_call 11; refine (px_rtake HA.out m.lu m.ho).mono ?_; rintro e we ⟨rfl, hh⟩; have HC := Lib.hid hh; clear hh)
                  | fail)
                go_meet
                exact ⟨_, HC.out.mono (Nat.le_succ _), HSM.out.upd _ _ _⟩
              · have b1 : (m.kd == 1) = false := by simpa using h1
                clear h1
                by_cases h2 : m.kd = 2
                · have b2 : (m.kd == 2) = true := by simpa using h2
                  clear h2
                  go_wp2_with (first
                    | (go_at_call 12; refine (px_forget HX0.out m.ho HOK.out.ho).mono ?_; rintro e wa ⟨rfl, hh⟩; have HA := Lib.hid hh; clear hh; have e2 : wa.cell? ⟨s, 2, none⟩ = some (.string m.ho) := HA.out.cell 2)
                    | (go_at_call 13; refine (px_rforget HA.out m.ho).mono ?_; rintro e we ⟨rfl, hh⟩; have HC := Lib.hid hh; clear hh)
                    | fail)
                  go_meet
                  exact ⟨_, HC.out.mono (Nat.le_succ _), (HSM.out.forget _).mono (Nat.le_succ _)⟩
                · have b2 : (m.kd == 2) = false := by simpa using h2
                  clear h2
                  go_wp2_with (fail)
                  go_meet
                  exact ⟨_, HX0.out.mono (Nat.le_succ _), HSM.out.mono (Nat.le_succ _)⟩
          case rest =>
            obtain ⟨f', hx, hsm⟩ := hcut
            have HX := Lib.hid hx; have HS2 := Lib.hid hsm
            have HXD := Lib.hid (hx.more (w' := wc.drew) (Below.refl _ _).drew)
            clear d0 d1 d2 d3 hx hsm
            have d1 : wc.cell? ⟨s, 1, none⟩ = some (.int .i64 m.lu) := HX.out.cell 1
            have d2 : wc.cell? ⟨s, 2, none⟩ = some (.string m.ho) := HX.out.cell 2
            have hnn : (((f' m.lu m.ho).length : Int) != ((f' m.lu m.ho).length : Int)) = false := by simp
            go_upto_region 21 with fail
            go_region_held3 (fun v => v.cell? ⟨s, 1, none⟩ = some (.int .i64 m.lu) ∧ v.cell? ⟨s, 2, none⟩ = some (.string m.ho)) (first | exact ⟨k1, k2⟩ | exact ⟨g1, g2⟩ | exact ⟨e1, e2⟩ | exact ⟨d1, d2⟩) (first
              | (go_at_call 14; refine (px_wait HXD.out m.lu m.ho HKV.out).mono ?_; rintro e wa ⟨rfl, rfl⟩)
              | (go_at_call 15; refine (px_rwait HXD.out m.lu m.ho).mono ?_; rintro e wa ⟨rfl, rfl⟩)
              | (go_at_call 17; refine (px_hosts HXD.out m.lu HS2.out HKM1.out).mono ?_; rintro e w3 ⟨A3, c3, hl, rfl, hh3, hx3, hr3⟩; have HH3 := Lib.hid hh3; have H3 := Lib.hid hx3; have HR3 := Lib.hid hr3; clear hh3 hx3 hr3; have e1 : w3.cell? ⟨s, 1, none⟩ = some (.int .i64 m.lu) := H3.out.cell 1; have e2 : w3.cell? ⟨s, 2, none⟩ = some (.string m.ho) := H3.out.cell 2)
              | (go_at_call 18; refine (px_rhosts H3.out HKM1.out m.lu).mono ?_; rintro e w4 ⟨A4, c4, hl2, rfl, hh4, hx4, hb4, hr4⟩; have hll := HH3.out.1.unique hh4; subst hll; have H4 := Lib.hid hx4; have HR4 := Lib.hid hr4; have HR5 := Lib.hid (own_keep HR3 (fun j hj => hb4.block j (HR3.out.lt j hj).2)); clear hh4 hx4 hb4 hr4; have g1 : w4.cell? ⟨s, 1, none⟩ = some (.int .i64 m.lu) := H4.out.cell 1; have g2 : w4.cell? ⟨s, 2, none⟩ = some (.string m.ho) := H4.out.cell 2)
              | (go_at_call 16; refine (texts_same w4 hl HR5.out HR4.out HH3.out.2).mono ?_; rintro e w5 ⟨rfl, hb5⟩; have H5 := Lib.hid (H4.out.more hb5); clear hb5; have k1 : w5.cell? ⟨s, 1, none⟩ = some (.int .i64 m.lu) := H5.out.cell 1; have k2 : w5.cell? ⟨s, 2, none⟩ = some (.string m.ho) := H5.out.cell 2)
              | fail)
            all_goals (
              go_wp2_with (fail)
              go_roundw
              case rel => exact ⟨k + 1, f', by go_num, Lib.hid ⟨by have := HLT.out; omega, by have := HLT.out; omega⟩, Lib.hid H5.out.pb, Lib.hid HS2.out⟩
              case measure => simp [intOf]; have := HLT.out; omega)
      · have HKK := Lib.hid h100
        have hk1 : ¬ (k : Int) < 100 := by omega
        have hki : (k : Int) < (l.length : Int) := by omega
        have hBw : Hid (Below w.heap.size w wr) := by obtain ⟨_, _, _, _, _, _, _, h⟩ := HP.out; exact h
        clear h100
        go_wp2_with (first | (go_at_call 19; refine (wakes_any _).mono ?_; rintro e w9 ⟨rfl, h9⟩) | fail)
        go_ret
        exact ⟨rfl, hBw.out.trans (h9.mono hBw.out.size)⟩
    · have hki : ¬ (k : Int) < (l.length : Int) := by omega
      have hBw : Hid (Below w.heap.size w wr) := by obtain ⟨_, _, _, _, _, _, _, h⟩ := HP.out; exact h
      clear hlt
      go_wp2_with (first | (go_at_call 19; refine (wakes_any _).mono ?_; rintro e w9 ⟨rfl, h9⟩) | fail)
      go_ret
      exact ⟨rfl, hBw.out.trans (h9.mono hBw.out.size)⟩
end Go.Proofs.Ytacogfllnhopoaa
