/- A table read off a text: the walk whole. -/
import Derived.Test.YthedonkjnfeajaaDoorImD
namespace Go.Proofs.YthedonkjnfeajaaDoor
open Go.RowKit
set_option maxRecDepth 100000 in
set_option maxHeartbeats 8000000 in
theorem read_any (s : ByteArray) (w : World) (hs : s.size ≤ 100000) :
    Calls Tryd.prog 23 #[.string s] w fun e w' => ∃ A c, e = .returned (tlV A c (readT (lst s))) ∧ Own w' w.heap.size A c (readT (lst s)).rs ∧ Below w.heap.size w w' := by
  obtain ⟨f1, f2, f3, f4⟩ := first_boxes w s _ rfl
  have HF1 := Lib.hid f1; have HF2 := Lib.hid f2; have HF3 := Lib.hid f3
  have HS := Lib.hid hs
  obtain ⟨L, hL⟩ : ∃ L, lst s = L := ⟨_, rfl⟩
  rw [hL]
  have HL := Lib.hid hL
  clear f1 f2 f3 f4 hs hL
  go_enter Tryd.func23, Tryd.ntmps23
  go_wp2_with (fail)
  refine (pieces_any s _).mono ?_; rintro e w1 ⟨rfl, rfl⟩
  go_wp2_with (fail)
  refine (take_rd 4 s _ _ _ (Nat.le_trans HS.out (by decide)) (by decide) HF1.out).mono ?_; rintro e w3 ⟨rfl, hr, ho⟩
  have HZ := Lib.hid (Nat.le_trans (drpS_size 4 s) HS.out)
  have HL1 := Lib.hid ((lst_drpS 4 s).trans (by rw [HL.out]) : lst (drpS 4 s) = L.drop 4)
  generalize drpS 4 s = s1 at *
  have H3 := Lib.hid (RdI.first hr (HF2.out.only ho (by omega)) (HF3.out.trans (ho.toBelow HF3.out.size (fun k hk => by omega))))
  clear hr ho HF1 HF2 HF3
  go_upto_region 5 with (fail)
  change Code.wp _ _ _ _ (w3.alloc (.cells tlZ 27))
  generalize w3.heap.size = T at *
  generalize w3.alloc (.cells tlZ 27) = w4 at *
  go_wp2_with (fail)
  refine (number_i 4 _ H3.out HZ.out HL1.out (by decide) (by decide)).mono ?_; rintro e w5 ⟨rfl, s2, hz, hl, h5⟩
  obtain ⟨g4, hg4⟩ : ∃ g, g = numL 4 (L.drop 4) := ⟨_, rfl⟩
  have b4 : g4 < 4294967296 := by rw [hg4]; exact numL_lt 4 _
  rw [← hg4]
  have HG4 := Lib.hid hg4
  have HZ2 := Lib.hid hz; have HL2 := Lib.hid (hl.trans (by rw [List.drop_drop]) : lst s2 = L.drop 8); have H5 := Lib.hid h5
  have q4 : IntKind.u32.wrap (g4 : Int) = g4 := by rw [IntKind.wrap_u32]; omega
  have c3 : w5.cell? ⟨T, 3, none⟩ = some (.int .u32 0) := H5.out.tb.cell 3
  have f3 := H5.out.tb.free 3
  clear hz hl h5 hg4 H3 HZ HL1
  have H6 := Lib.hid (H5.out.put 3 (.int .u32 g4) (t' := ⟨[], 0, ⟨#[]⟩, g4, false⟩) rfl rfl)
  go_wp2_with (fail)
  refine (number_i 1 _ H6.out HZ2.out HL2.out (by decide) (by decide)).mono ?_; rintro e w7 ⟨rfl, s3, hz, hl, h7⟩
  obtain ⟨g8, hg8⟩ : ∃ g, g = numL 1 (L.drop 8) := ⟨_, rfl⟩
  have b8 : g8 < 256 := by rw [hg8]; exact numL_lt 1 _
  rw [← hg8]
  have HG8 := Lib.hid hg8
  have HZ3 := Lib.hid hz; have HL3 := Lib.hid (hl.trans (by rw [List.drop_drop]) : lst s3 = L.drop 9); have H7 := Lib.hid h7
  have c1 : w7.cell? ⟨T, 1, none⟩ = some (.int .i64 0) := H7.out.tb.cell 1
  have f1 := H7.out.tb.free 1
  clear hz hl h7 hg8 H6 H5 HZ2 HL2 c3 f3 q4
  have H8 := Lib.hid (H7.out.put 1 (.int .i64 g8) (t' := ⟨[], g8, ⟨#[]⟩, g4, false⟩) rfl rfl)
  go_wp2_with (fail)
  refine (number_i 1 _ H8.out HZ3.out HL3.out (by decide) (by decide)).mono ?_; rintro e w9 ⟨rfl, s4, hz, hl, h9⟩
  obtain ⟨g9, hg9⟩ : ∃ g, g = numL 1 (L.drop 9) := ⟨_, rfl⟩
  have b9 : g9 < 256 := by rw [hg9]; exact numL_lt 1 _
  rw [← hg9]
  have HG9 := Lib.hid hg9
  have HZ4 := Lib.hid hz; have HL4 := Lib.hid (hl.trans (by rw [List.drop_drop]) : lst s4 = L.drop 10); have H9 := Lib.hid h9
  clear hz hl h9 hg9 H8 H7 HZ3 HL3 c1 f1
  go_wp2_with (fail)
  refine (number_i 1 _ H9.out HZ4.out HL4.out (by decide) (by decide)).mono ?_; rintro e w10 ⟨rfl, s5, hz, hl, h10⟩
  obtain ⟨g10, hg10⟩ : ∃ g, g = numL 1 (L.drop 10) := ⟨_, rfl⟩
  rw [← hg10]
  obtain ⟨p10, hp10⟩ : ∃ b : Bool, ((g10 : Int) == 1) = b := ⟨_, rfl⟩
  have HP10 := Lib.hid (show decide (numL 1 (L.drop 10) = 1) = p10 by rw [← hp10, ← hg10, int_beq]; exact decide_eq_decide.2 (by omega))
  have HZ5 := Lib.hid hz; have HL5 := Lib.hid (hl.trans (by rw [List.drop_drop]) : lst s5 = L.drop 11); have H10 := Lib.hid h10
  have c4 : w10.cell? ⟨T, 4, none⟩ = some (.bool false) := H10.out.tb.cell 4
  have f4 := H10.out.tb.free 4
  clear hz hl h10 hg10 H9 HZ4 HL4
  have H11 := Lib.hid (H10.out.put 4 (.bool p10) (t' := ⟨[], g8, ⟨#[]⟩, g4, p10⟩) rfl rfl)
  go_wp2_with (fail)
  refine (number_i 1 _ H11.out HZ5.out HL5.out (by decide) (by decide)).mono ?_; rintro e w12 ⟨rfl, s6, hz, hl, h12⟩
  obtain ⟨N, hN⟩ : ∃ g, g = numL 1 (L.drop 11) := ⟨_, rfl⟩
  have bN : N < 256 := by rw [hN]; exact numL_lt 1 _
  rw [← hN]
  have HN := Lib.hid hN
  have HZ6 := Lib.hid hz; have HL6 := Lib.hid (hl.trans (by rw [List.drop_drop]) : lst s6 = L.drop 12); have H12 := Lib.hid h12
  clear hz hl h12 hN H11 H10 HZ5 HL5 c4 f4 hp10
  have HA0 := Lib.hid (show RdL w T (L.drop 12) ⟨[], g8, ⟨#[]⟩, g4, p10⟩ 0 w12 from ⟨s6, none, 0, HZ6.out, HL6.out, H12.out⟩)
  clear HZ6 HL6 H12
  go_wp2_with (fail)
  go_loopw [32] (fun i wr => ∃ k : Nat, k ≤ N ∧ i = .int .u64 k ∧ Hid (RdL w T (L.drop 12) ⟨[], g8, ⟨#[]⟩, g4, p10⟩ k wr)) (fun i _ => N - (intOf i).toNat)
  case atStart => exact ⟨0, Nat.zero_le _, rfl, HA0⟩
  case round =>
    clear HA0
    obtain ⟨k, hk, rfl, HR⟩ := hrel
    obtain ⟨sk, A, c, hz, hl, hi⟩ := HR.out
    obtain ⟨M, hM⟩ : ∃ M, M = (rdS (L.drop 12) k).2 := ⟨_, rfl⟩
    obtain ⟨rs, hrs⟩ : ∃ rs, rs = (rdS (L.drop 12) k).1 := ⟨_, rfl⟩
    rw [← hM] at hl
    rw [← hrs] at hi
    have HLen := Lib.hid (show rs.length = k by rw [hrs]; exact rdS_len _ _)
    have HM := Lib.hid hM; have HRS := Lib.hid hrs
    have HZ := Lib.hid hz; have HLk := Lib.hid hl; have H := Lib.hid hi
    clear hz hl hi hM hrs HR
    by_cases hlt : k < N
    · have hltI : (k : Int) < N := by omega
      go_wp2_with (fail)
      refine (number_i 8 M H.out HZ.out HLk.out (by decide) (by decide)).mono ?_; rintro e v1 ⟨rfl, t1, hz, hl, h1⟩
      obtain ⟨key, hkey⟩ : ∃ g, g = numL 8 M := ⟨_, rfl⟩
      rw [← hkey]
      have HKey := Lib.hid hkey
      have HZ1 := Lib.hid hz; have HL1 := Lib.hid hl; have H1 := Lib.hid h1
      clear hz hl h1 hkey H HZ HLk
      have d0 : v1.cell? ⟨w.heap.size + 1 + 1, 0, none⟩ = some (fnP (w.heap.size + 1)) := H1.out.rd.way.cell 0
      have H1d := Lib.hid (H1.out.below (Below.refl _ _).drew)
      go_upto_region 12 with (fail)
      have tok1 : True := trivial
      have d1 : v1.drew.cell? ⟨w.heap.size + 1 + 1, 0, none⟩ = some (fnP (w.heap.size + 1)) := d0
      go_region_held3 (fun v => v.cell? ⟨w.heap.size + 1 + 1, 0, none⟩ = some (fnP (w.heap.size + 1))) (first | with_reducible exact d3 | with_reducible exact d2 | with_reducible exact d1 | with_reducible exact d0) (first
        | (have _t := tok1; go_at_call 42; refine (number_i 1 (M.drop 8) H1d.out HZ1.out HL1.out (by decide) (by decide)).mono ?_; rintro e v2 ⟨rfl, t2, hz, hl, h2⟩; obtain ⟨n, hn⟩ : ∃ g, g = numL 1 (M.drop 8) := ⟨_, rfl⟩; rw [← hn]; have bn : n < 256 := (by rw [hn]; exact numL_lt 1 _); have HNn := Lib.hid hn; have HQn := Lib.hid (show IntKind.i64.wrap (n : Int) = n by rw [IntKind.wrap_i64]; omega); have HZ2 := Lib.hid hz; have HL2 := Lib.hid (hl.trans (by rw [List.drop_drop]) : lst t2 = M.drop 9); have H2 := Lib.hid h2; have d2 : v2.cell? ⟨w.heap.size + 1 + 1, 0, none⟩ = some (fnP (w.heap.size + 1)) := h2.rd.way.cell 0; clear hz hl h2 hn tok1)
        | (go_at_call 60; rw [HQn.out]; refine (take_i n (M.drop 9) H2.out HZ2.out HL2.out (by omega)).mono ?_; rintro e v3 ⟨rfl, t3, hz, hl, h3⟩; have HZ3 := Lib.hid hz; have HL3 := Lib.hid hl; have H3 := Lib.hid h3; have d3 : v3.cell? ⟨w.heap.size + 1 + 1, 0, none⟩ = some (fnP (w.heap.size + 1)) := h3.rd.way.cell 0; clear hz hl h3))
      clear d0 d1 d2 d3 H1 H1d H2 HZ1 HL1 HZ2 HL2 HQn
      obtain ⟨host, hhost⟩ : ∃ h, h = baL (List.take n (List.drop 9 M)) := ⟨_, rfl⟩
      rw [← hhost]
      have hsz : host.size ≤ 1000 := by
        rw [hhost, ← lst_len, lst_baL, List.length_take]; omega
      have HHost := Lib.hid hhost
      clear hhost
      have c0 : v3.cell? ⟨T, 0, none⟩ = some (.slice A rs.length c) := H3.out.tb.cell 0
      go_upto_region 13 with (fail)
      go_region_law (first
        | (refine step_clone (by rfl) (.tmp 43) (by rfl) host (by rfl) (by omega) ?_
           intro w5 hb5
           have H5 := Lib.hid (H3.out.below ((Below.refl v3.heap.size v3).drew.trans hb5))
           have e0 : w5.cell? ⟨T, 0, none⟩ = some (.slice A rs.length c) := H5.out.tb.cell 0
           have hal := (Below.refl w5.heap.size w5).alloc (Nat.le_refl _) (.cells (regC ⟨host, key⟩) 48)
           have H6 := Lib.hid (H5.out.below hal)
           have e6 : (w5.alloc (.cells (regC ⟨host, key⟩) 48)).cell? ⟨T, 0, none⟩ = some (.slice A rs.length c) := H6.out.tb.cell 0
           clear hb5 hal)
        | (refine step_rg (by rfl) (.tmp 42) (.tmp 47) (by rfl) w.heap.size A c rs (by rfl) H6.out.own w5.heap.size ⟨host, key⟩ (by rfl) (by unfold maxLen; show host.size ≤ _; omega) (Blk.new w5 48 _) (by have := HLen.out; omega) H6.out.bel.size ?_
           intro A7 q7 w7 ho7 hg7
           have H7 := Lib.hid (H6.out.more hg7 ho7 rfl)
           have b7 := H6.out.tb.grown hg7 (fun e => own_apart H6.out.own.1 H6.out.tb (by decide) e.symm)
           have f7 := b7.free 0
           have e7 : w7.cell? ⟨T, 0, none⟩ = some (.slice A rs.length c) := b7.cell 0
           clear ho7 hg7 b7))
      all_goals (
        have hlen : (rs ++ [(⟨host, key⟩ : Rg)]).length = rs.length + 1 := by simp
        have hP := H7.out
        rw [hlen] at hP
        have HP := Lib.hid hP
        clear hP hlen
        go_upto_region 14 with (fail)
        generalize w7.setCell ⟨T, 0, none⟩ (.slice A7 (rs.length + 1) q7) = w8 at *
        clear c0 e0 e6 e7 f7 H5 H6 H7
        go_wp2_with (fail)
        go_roundw
        case rel =>
          refine ⟨k + 1, by omega, by go_num, Lib.hid ⟨t3, A7, q7, HZ3.out, ?_, ?_⟩⟩
          · simp only [rdS]; rw [← HM.out, HL3.out, HNn.out]; rfl
          · simp only [rdS]; rw [← HM.out, ← HRS.out]
            have ex : rgOf M = ⟨host, key⟩ := by unfold rgOf; rw [HHost.out, HNn.out, HKey.out]
            rw [ex]; exact HP.out
        case measure => simp [intOf]; omega)
    · obtain rfl : k = N := by omega
      have hR : readT L = ⟨rs, (g8 : Nat), hoOf rs g9, (g4 : Nat), p10⟩ := by
        unfold readT
        rw [← HN.out, ← HRS.out, ← HG8.out, ← HG9.out, ← HG4.out, HP10.out]
      have c0 : wr.cell? ⟨T, 0, none⟩ = some (.slice A rs.length c) := H.out.tb.cell 0
      by_cases a1 : 0 < g9
      · have i1 : (0 : Int) < g9 := by omega
        by_cases a2 : g9 ≤ rs.length
        · have i2 : (g9 : Int) ≤ rs.length := by omega
          obtain ⟨j, hj⟩ : ∃ j, g9 = j + 1 := ⟨g9 - 1, by omega⟩
          have hjI : (g9 : Int) - 1 = j := by omega
          have hjl : j < rs.length := by omega
          obtain ⟨b, o, x, rfl, hx, hz, d0, d1⟩ := H.out.own.rgs.at_ hjl
          have HT := Lib.hid (show readT L = ⟨rs, (g8 : Nat), x.h, (g4 : Nat), p10⟩ by
            rw [hR]; unfold hoOf; rw [if_pos ⟨a1, a2⟩, hj, Nat.add_sub_cancel, List.getD_eq_getElem?_getD, hx]; rfl)
          have HXs := Lib.hid (rdS_sizes (L.drop 12) k x (by rw [← HRS.out]; exact List.mem_of_getElem? hx))
          clear hR hx hz a1 a2 d1 hj
          go_wp2_with (fail)
          refine (clone_any x.h _ (Nat.le_of_lt (Nat.lt_trans HXs.out (by decide)))).mono ?_; rintro e w5 ⟨rfl, hb⟩
          have H5 := Lib.hid (H.out.below hb)
          have c2 : w5.cell? ⟨T, 2, none⟩ = some (.string ⟨#[]⟩) := H5.out.tb.cell 2
          have f2 := H5.out.tb.free 2
          have H6 := Lib.hid (H5.out.put 2 (.string x.h) (t' := ⟨rs, g8, x.h, g4, p10⟩) rfl rfl)
          clear hb c0 d0
          go_upto_region 17 with (fail)
          generalize w5.setCell ⟨T, 2, none⟩ (.string x.h) = w6 at *
          clear c2 f2 H5
          have k0 : w6.cell? ⟨T, 0, none⟩ = some (.slice (some ⟨b, o, none⟩) rs.length c) := H6.out.tb.cell 0
          have k1 : w6.cell? ⟨T, 1, none⟩ = some (.int .i64 g8) := H6.out.tb.cell 1
          have k2 : w6.cell? ⟨T, 2, none⟩ = some (.string x.h) := H6.out.tb.cell 2
          have k3 : w6.cell? ⟨T, 3, none⟩ = some (.int .u32 g4) := H6.out.tb.cell 3
          have k4 : w6.cell? ⟨T, 4, none⟩ = some (.bool p10) := H6.out.tb.cell 4
          have r0 : w6.cell? ⟨w.heap.size, 0, none⟩ = some (.slice none 0 0) := H6.out.res.cell 0
          have r1 : w6.cell? ⟨w.heap.size, 1, none⟩ = some (.int .i64 0) := H6.out.res.cell 1
          have r2 : w6.cell? ⟨w.heap.size, 2, none⟩ = some (.string ⟨#[]⟩) := H6.out.res.cell 2
          have r3 : w6.cell? ⟨w.heap.size, 3, none⟩ = some (.int .u32 0) := H6.out.res.cell 3
          have r4 : w6.cell? ⟨w.heap.size, 4, none⟩ = some (.bool false) := H6.out.res.cell 4
          have z0 := H6.out.res.free 0
          have z1 := H6.out.res.free 1
          have z2 := H6.out.res.free 2
          have z3 := H6.out.res.free 3
          have z4 := H6.out.res.free 4
          go_wp2_with (fail)
          obtain ⟨hK, hO, hB⟩ := H6.out.done _ rfl
          refine bodyPost_ret_by (results_cell_row rfl _ _ w.heap.size 27 (tlC (some ⟨b, o, none⟩) c ⟨rs, g8, x.h, g4, p10⟩) (0, 0) _ rfl hK Tryd.underlying27 rfl size27) rfl ?_
          exact ⟨some ⟨b, o, none⟩, c, by rw [HT.out], by rw [HT.out]; exact hO, hB⟩
        · have i2 : ¬ (g9 : Int) ≤ rs.length := by omega
          have HT := Lib.hid (show readT L = ⟨rs, (g8 : Nat), ⟨#[]⟩, (g4 : Nat), p10⟩ by rw [hR]; unfold hoOf; rw [if_neg (by omega)])
          clear hR
          go_upto_region 17 with (fail)
          clear c0
          have k0 : wr.cell? ⟨T, 0, none⟩ = some (.slice A rs.length c) := H.out.tb.cell 0
          have k1 : wr.cell? ⟨T, 1, none⟩ = some (.int .i64 g8) := H.out.tb.cell 1
          have k2 : wr.cell? ⟨T, 2, none⟩ = some (.string ⟨#[]⟩) := H.out.tb.cell 2
          have k3 : wr.cell? ⟨T, 3, none⟩ = some (.int .u32 g4) := H.out.tb.cell 3
          have k4 : wr.cell? ⟨T, 4, none⟩ = some (.bool p10) := H.out.tb.cell 4
          have r0 : wr.cell? ⟨w.heap.size, 0, none⟩ = some (.slice none 0 0) := H.out.res.cell 0
          have r1 : wr.cell? ⟨w.heap.size, 1, none⟩ = some (.int .i64 0) := H.out.res.cell 1
          have r2 : wr.cell? ⟨w.heap.size, 2, none⟩ = some (.string ⟨#[]⟩) := H.out.res.cell 2
          have r3 : wr.cell? ⟨w.heap.size, 3, none⟩ = some (.int .u32 0) := H.out.res.cell 3
          have r4 : wr.cell? ⟨w.heap.size, 4, none⟩ = some (.bool false) := H.out.res.cell 4
          have z0 := H.out.res.free 0
          have z1 := H.out.res.free 1
          have z2 := H.out.res.free 2
          have z3 := H.out.res.free 3
          have z4 := H.out.res.free 4
          go_wp2_with (fail)
          obtain ⟨hK, hO, hB⟩ := H.out.done _ rfl
          refine bodyPost_ret_by (results_cell_row rfl _ _ w.heap.size 27 (tlC A c ⟨rs, g8, ⟨#[]⟩, g4, p10⟩) (0, 0) _ rfl hK Tryd.underlying27 rfl size27) rfl ?_
          exact ⟨A, c, by rw [HT.out], by rw [HT.out]; exact hO, hB⟩
      · have i1 : ¬ (0 : Int) < g9 := by omega
        have HT := Lib.hid (show readT L = ⟨rs, (g8 : Nat), ⟨#[]⟩, (g4 : Nat), p10⟩ by rw [hR]; unfold hoOf; rw [if_neg (by omega)])
        clear hR
        go_upto_region 17 with (fail)
        clear c0
        have k0 : wr.cell? ⟨T, 0, none⟩ = some (.slice A rs.length c) := H.out.tb.cell 0
        have k1 : wr.cell? ⟨T, 1, none⟩ = some (.int .i64 g8) := H.out.tb.cell 1
        have k2 : wr.cell? ⟨T, 2, none⟩ = some (.string ⟨#[]⟩) := H.out.tb.cell 2
        have k3 : wr.cell? ⟨T, 3, none⟩ = some (.int .u32 g4) := H.out.tb.cell 3
        have k4 : wr.cell? ⟨T, 4, none⟩ = some (.bool p10) := H.out.tb.cell 4
        have r0 : wr.cell? ⟨w.heap.size, 0, none⟩ = some (.slice none 0 0) := H.out.res.cell 0
        have r1 : wr.cell? ⟨w.heap.size, 1, none⟩ = some (.int .i64 0) := H.out.res.cell 1
        have r2 : wr.cell? ⟨w.heap.size, 2, none⟩ = some (.string ⟨#[]⟩) := H.out.res.cell 2
        have r3 : wr.cell? ⟨w.heap.size, 3, none⟩ = some (.int .u32 0) := H.out.res.cell 3
        have r4 : wr.cell? ⟨w.heap.size, 4, none⟩ = some (.bool false) := H.out.res.cell 4
        have z0 := H.out.res.free 0
        have z1 := H.out.res.free 1
        have z2 := H.out.res.free 2
        have z3 := H.out.res.free 3
        have z4 := H.out.res.free 4
        go_wp2_with (fail)
        obtain ⟨hK, hO, hB⟩ := H.out.done _ rfl
        refine bodyPost_ret_by (results_cell_row rfl _ _ w.heap.size 27 (tlC A c ⟨rs, g8, ⟨#[]⟩, g4, p10⟩) (0, 0) _ rfl hK Tryd.underlying27 rfl size27) rfl ?_
        exact ⟨A, c, by rw [HT.out], by rw [HT.out]; exact hO, hB⟩
end Go.Proofs.YthedonkjnfeajaaDoor
