/- The frame with which a text begins, by the document's own words: where all digests are right. -/
import Derived.Test.YtoejfkalgmdjcaaDoorFrameRefB
import Derived.Deep.RegionHeld3
namespace Go.Proofs.YtoejfkalgmdjcaaDoor
open Go.RowKit
theorem frame_eq {n : Int} {a b : ByteArray} {i j : Nat} (h : a = b) (k : i = j) : Ending.returned (.tuple #[.agg #[.int .u64 n, .string a, .int .i64 (i : Int)], .int .i64 0]) = .returned (.tuple #[.agg #[.int .u64 n, .string b, .int .i64 (j : Int)], .int .i64 0]) := by rw [h, k]
set_option maxRecDepth 100000 in
set_option maxHeartbeats 1000000 in
theorem refGet_ok (s : ByteArray) (w : World) (hs : s.size ≤ 100000) (hn : Begun s) (hd : s.extract 16 20 = digV (s.extract 0 16)) (hl : lenF s ≤ 65536) (hz : sizeF s ≤ s.size) (hd2 : s.extract (20 + lenF s) (24 + lenF s) = digV (textF s)) (hp : allZ (padF s) = true) :
    Calls Tryd.prog 15 #[.string s] w fun e w' => e = .returned (.tuple #[.agg #[.int .u64 (numF s), .string (textF s), .int .i64 (sizeF s)], .int .i64 0]) ∧ Below w.heap.size w w' := by
  have HR := Lib.hid (RefAt.new w)
  have h20n := hn.1
  have h1i : ¬ (s.size : Int) < 20 := by omega
  have h4 : (4 : Int) ≤ s.size := by omega
  have h16 : (16 : Int) ≤ s.size := by omega
  have h20 : (20 : Int) ≤ s.size := by omega
  have hb : ((s.extract 0 4).toList == [72, 71, 70, 82]) = true := mark_beq s _ (decide_eq_true hn.2)
  have hq : ((s.extract 16 20).toList == (digV (s.extract 0 16)).toList) = true := by rw [beqS, decide_eq_true hd]
  have n1 : bigR s 4 8 = numF s := bigR_yes (a := 4) (n := 8) (okB_yes (by omega))
  have n2 : bigR s 12 4 = lenF s := bigR_yes (a := 12) (n := 4) (okB_yes (by omega))
  have N1 := Lib.hid n1; have N2 := Lib.hid n2; clear n1 n2
  have ll := lenF_lt s
  have hli : ¬ (65536 : Int) < lenF s := by omega
  have hr := sec_room (lenF s)
  have hqq : secF (lenF s) ≤ 129 := by unfold secF; omega
  have hz' : 512 * secF (lenF s) ≤ s.size := hz
  have hzi : ¬ (s.size : Int) < 512 * (secF (lenF s) : Nat) := by omega
  obtain ⟨E, hE⟩ : ∃ E, E = 20 + lenF s := ⟨_, rfl⟩
  have hEi : (20 + (lenF s : Int)) = (E : Int) := by omega
  have ze : (s.extract 20 E).size = lenF s := by rw [ext_size s _ _ (by omega)]; omega
  have te : textF s = s.extract 20 E := by rw [hE]; rfl
  obtain ⟨F, hF⟩ : ∃ F, F = E + 4 := ⟨_, rfl⟩
  have hF1 : (E : Int) + 4 = (F : Int) := by omega
  have hF2 : IntKind.i64.wrap ((E : Int) + 4) = (F : Int) := by rw [IntKind.wrap_i64]; omega
  have hF3 : IntKind.i64.wrap (F : Int) = (F : Int) := by rw [IntKind.wrap_i64]; omega
  have hx0 : (E : Int) ≤ F := by omega
  have hx1 : (F : Int) ≤ s.size := by omega
  have hx2 : (E : Int) ≤ s.size := by omega
  have hx3 : (20 : Int) ≤ E := by omega
  have e24 : 24 + lenF s = F := by omega
  rw [← hE, e24, te] at hd2
  have HEi := Lib.hid hEi
  have HE := Lib.hid hE; have HF := Lib.hid hF; clear hE hEi hF
  have hq2 : ((s.extract E F).toList == (digV (s.extract 20 E)).toList) = true := by rw [beqS, decide_eq_true hd2]
  have HD2 := Lib.hid hd2; clear hd2
  obtain ⟨S, hS⟩ : ∃ S, S = sizeF s := ⟨_, rfl⟩
  have hSi : (512 * (secF (lenF s) : Int)) = (S : Int) := by rw [hS]; unfold sizeF; omega
  have hSz : S ≤ s.size := by rw [hS]; exact hz
  have hFS : F ≤ S := by rw [hS]; unfold sizeF; omega
  have hzz : ∀ k, F ≤ k → k < S → ∀ h3 : k < s.size, (s[k]'h3).toNat = 0 := fun k h1 h2 h3 => by
    unfold padF at hp
    rw [← hS, e24] at hp
    exact allZ_yes s F S hp k h1 h2 h3
  have HZ := Lib.hid hzz; clear hzz
  have HS := Lib.hid hSi; clear hSi
  have HSS := Lib.hid hS; clear hS
  have HTE := Lib.hid te; clear te
  have z16 := ext_size s 0 16 (by omega)
  have HN := Lib.hid hn; clear hn
  have HD := Lib.hid hd; clear hd
  go_enter Tryd.func15, Tryd.ntmps15
  go_upto_region 3 with (fail)
  go_cut [25] (fun s25 wx => s25 = .bool false ∧ RefAt w wx)
  case first =>
    go_region_with (go_at_call 26; refine (refDigest_any (s.extract 0 16) _ (by unfold maxLen; omega)).mono ?_; rintro e w1 ⟨rfl, hb1⟩)
    all_goals (go_wp2_with (fail); go_meet; exact ⟨rfl, HR.out.drew.more hb1⟩)
  case rest =>
    obtain ⟨rfl, hr⟩ := hcut
    have HR2 := Lib.hid hr; clear hr
    clear hq
    go_wp2_with (fail)
    refine (refBig_any s 4 8 _ (by unfold maxLen; omega)).mono ?_; rintro e w2 ⟨rfl, rfl⟩
    rw [N1.out]
    go_wp2_with (fail)
    refine (refBig_any s 12 4 _ (by unfold maxLen; omega)).mono ?_; rintro e w3 ⟨rfl, rfl⟩
    rw [N2.out]
    go_wp2_with (fail)
    refine (refSectors_in (lenF s) _ hl).mono ?_; rintro e w' ⟨rfl, rfl⟩
    go_upto_region 10 with (fail)
    rw [HEi.out]
    go_cut [61] (fun s61 wx => s61 = .bool false ∧ RefAt w wx)
    case first =>
      go_region_held3 (fun _ => True) (exact True.intro) (first | (go_at_call 26; refine (refDigest_any (s.extract 20 E) _ (by unfold maxLen; omega)).mono ?_; rintro e w4 ⟨rfl, hb4⟩) | fail)
      all_goals (go_wp2_with (fail); go_meet; exact ⟨rfl, HR2.out.drew.more hb4⟩)
    case rest =>
      obtain ⟨rfl, hr4⟩ := hcut
      have HR3 := Lib.hid hr4; clear hr4
      clear hq2
      go_wp2_with (fail)
      refine (refSectors_in (lenF s) _ hl).mono ?_; rintro e w' ⟨rfl, rfl⟩
      go_wp2_with (fail)
      rw [HS.out]
      go_loop [10] (fun i => ∃ k : Nat, F ≤ k ∧ k ≤ S ∧ i = .int .i64 k) (fun i => S - (intOf i).toNat)
      case atStart => exact ⟨F, Nat.le_refl _, hFS, rfl⟩
      case round =>
        obtain ⟨k, hk1, hk2, rfl⟩ := hrel
        by_cases hlt : k < S
        · have hzk := HZ.out k hk1 hlt (by omega)
          have hki : (k : Int) < s.size := by omega
          go_wp2
          go_round
          case rel => exact ⟨k + 1, by omega, by omega, by go_num⟩
          case measure => simp [intOf]; omega
        · obtain rfl : k = S := by omega
          have c0 : wc.cell? ⟨w.heap.size, 0, none⟩ = some (.int .u64 0) := HR3.out.1.cell 0
          have c1 : wc.cell? ⟨w.heap.size, 1, none⟩ = some (.string ⟨#[]⟩) := HR3.out.1.cell 1
          have c2 : wc.cell? ⟨w.heap.size, 2, none⟩ = some (.int .i64 0) := HR3.out.1.cell 2
          have f0 := HR3.out.1.free 0
          have f1 := HR3.out.1.free 1
          have f2 := HR3.out.1.free 2
          go_wp2
          have hB := ((HR3.out.1.put 0 (.int .u64 (numF s))).put 1 (.string (s.extract 20 E))).put 2 (.int .i64 k)
          refine bodyPost_ret (results_frame rfl _ _ w.heap.size _ _ _ rfl hB) rfl ?_
          exact ⟨frame_eq HTE.out.symm HSS.out, ((HR3.out.2.setCell (p := ⟨w.heap.size, 0, none⟩) (Nat.le_refl _) _).setCell (p := ⟨w.heap.size, 1, none⟩) (Nat.le_refl _) _).setCell (p := ⟨w.heap.size, 2, none⟩) (Nat.le_refl _) _⟩
set_option maxRecDepth 100000 in
set_option maxHeartbeats 1000000 in
theorem refGet_pad (s : ByteArray) (w : World) (hs : s.size ≤ 100000) (hn : Begun s) (hd : s.extract 16 20 = digV (s.extract 0 16)) (hl : lenF s ≤ 65536) (hz : sizeF s ≤ s.size) (hd2 : s.extract (20 + lenF s) (24 + lenF s) = digV (textF s)) (hp : allZ (padF s) = false) :
    Calls Tryd.prog 15 #[.string s] w fun e w' => e = .returned (.tuple #[noF, .int .i64 50]) ∧ Below w.heap.size w w' := by
  have HR := Lib.hid (RefAt.new w)
  have h20n := hn.1
  have h1i : ¬ (s.size : Int) < 20 := by omega
  have h4 : (4 : Int) ≤ s.size := by omega
  have h16 : (16 : Int) ≤ s.size := by omega
  have h20 : (20 : Int) ≤ s.size := by omega
  have hb : ((s.extract 0 4).toList == [72, 71, 70, 82]) = true := mark_beq s _ (decide_eq_true hn.2)
  have hq : ((s.extract 16 20).toList == (digV (s.extract 0 16)).toList) = true := by rw [beqS, decide_eq_true hd]
  have n1 : bigR s 4 8 = numF s := bigR_yes (a := 4) (n := 8) (okB_yes (by omega))
  have n2 : bigR s 12 4 = lenF s := bigR_yes (a := 12) (n := 4) (okB_yes (by omega))
  have N1 := Lib.hid n1; have N2 := Lib.hid n2; clear n1 n2
  have ll := lenF_lt s
  have hli : ¬ (65536 : Int) < lenF s := by omega
  have hr := sec_room (lenF s)
  have hqq : secF (lenF s) ≤ 129 := by unfold secF; omega
  have hz' : 512 * secF (lenF s) ≤ s.size := hz
  have hzi : ¬ (s.size : Int) < 512 * (secF (lenF s) : Nat) := by omega
  obtain ⟨E, hE⟩ : ∃ E, E = 20 + lenF s := ⟨_, rfl⟩
  have hEi : (20 + (lenF s : Int)) = (E : Int) := by omega
  have ze : (s.extract 20 E).size = lenF s := by rw [ext_size s _ _ (by omega)]; omega
  have te : textF s = s.extract 20 E := by rw [hE]; rfl
  obtain ⟨F, hF⟩ : ∃ F, F = E + 4 := ⟨_, rfl⟩
  have hF1 : (E : Int) + 4 = (F : Int) := by omega
  have hF2 : IntKind.i64.wrap ((E : Int) + 4) = (F : Int) := by rw [IntKind.wrap_i64]; omega
  have hF3 : IntKind.i64.wrap (F : Int) = (F : Int) := by rw [IntKind.wrap_i64]; omega
  have hx0 : (E : Int) ≤ F := by omega
  have hx1 : (F : Int) ≤ s.size := by omega
  have hx2 : (E : Int) ≤ s.size := by omega
  have hx3 : (20 : Int) ≤ E := by omega
  have e24 : 24 + lenF s = F := by omega
  rw [← hE, e24, te] at hd2
  have HEi := Lib.hid hEi
  have HE := Lib.hid hE; have HF := Lib.hid hF; clear hE hEi hF
  have hq2 : ((s.extract E F).toList == (digV (s.extract 20 E)).toList) = true := by rw [beqS, decide_eq_true hd2]
  have HD2 := Lib.hid hd2; clear hd2
  obtain ⟨S, hS⟩ : ∃ S, S = sizeF s := ⟨_, rfl⟩
  have hSi : (512 * (secF (lenF s) : Int)) = (S : Int) := by rw [hS]; unfold sizeF; omega
  have hSz : S ≤ s.size := by rw [hS]; exact hz
  have hFS : F ≤ S := by rw [hS]; unfold sizeF; omega
  obtain ⟨J, hJ1, hJ2, hJ3, hJ4⟩ : ∃ j, F ≤ j ∧ j < S ∧ (∀ h3 : j < s.size, ¬ (s[j]'h3).toNat = 0) ∧ ∀ i, F ≤ i → i < j → ∀ h3 : i < s.size, (s[i]'h3).toNat = 0 := by
    unfold padF at hp
    rw [← hS, e24] at hp
    exact allZ_no s F S hSz hp
  have HZ := Lib.hid hJ4; clear hJ4
  have HJ := Lib.hid hJ3; clear hJ3
  have HS := Lib.hid hSi; clear hSi
  have HSS := Lib.hid hS; clear hS
  have HTE := Lib.hid te; clear te
  have z16 := ext_size s 0 16 (by omega)
  have HN := Lib.hid hn; clear hn
  have HD := Lib.hid hd; clear hd
  go_enter Tryd.func15, Tryd.ntmps15
  go_upto_region 3 with (fail)
  go_cut [25] (fun s25 wx => s25 = .bool false ∧ RefAt w wx)
  case first =>
    go_region_with (go_at_call 26; refine (refDigest_any (s.extract 0 16) _ (by unfold maxLen; omega)).mono ?_; rintro e w1 ⟨rfl, hb1⟩)
    all_goals (go_wp2_with (fail); go_meet; exact ⟨rfl, HR.out.drew.more hb1⟩)
  case rest =>
    obtain ⟨rfl, hr⟩ := hcut
    have HR2 := Lib.hid hr; clear hr
    clear hq
    go_wp2_with (fail)
    refine (refBig_any s 4 8 _ (by unfold maxLen; omega)).mono ?_; rintro e w2 ⟨rfl, rfl⟩
    rw [N1.out]
    go_wp2_with (fail)
    refine (refBig_any s 12 4 _ (by unfold maxLen; omega)).mono ?_; rintro e w3 ⟨rfl, rfl⟩
    rw [N2.out]
    go_wp2_with (fail)
    refine (refSectors_in (lenF s) _ hl).mono ?_; rintro e w' ⟨rfl, rfl⟩
    go_upto_region 10 with (fail)
    rw [HEi.out]
    go_cut [61] (fun s61 wx => s61 = .bool false ∧ RefAt w wx)
    case first =>
      go_region_held3 (fun _ => True) (exact True.intro) (first | (go_at_call 26; refine (refDigest_any (s.extract 20 E) _ (by unfold maxLen; omega)).mono ?_; rintro e w4 ⟨rfl, hb4⟩) | fail)
      all_goals (go_wp2_with (fail); go_meet; exact ⟨rfl, HR2.out.drew.more hb4⟩)
    case rest =>
      obtain ⟨rfl, hr4⟩ := hcut
      have HR3 := Lib.hid hr4; clear hr4
      clear hq2
      go_wp2_with (fail)
      refine (refSectors_in (lenF s) _ hl).mono ?_; rintro e w' ⟨rfl, rfl⟩
      go_wp2_with (fail)
      rw [HS.out]
      go_loop [10] (fun i => ∃ k : Nat, F ≤ k ∧ k ≤ J ∧ i = .int .i64 k) (fun i => J - (intOf i).toNat)
      case atStart => exact ⟨F, Nat.le_refl _, hJ1, rfl⟩
      case round =>
        obtain ⟨k, hk1, hk2, rfl⟩ := hrel
        by_cases hlt : k < J
        · have hzk := HZ.out k hk1 hlt (by omega)
          have hki : (k : Int) < s.size := by omega
          go_wp2
          go_round
          case rel => exact ⟨k + 1, by omega, by omega, by go_num⟩
          case measure => simp [intOf]; omega
        · obtain rfl : k = J := by omega
          have hzk := HJ.out (by omega)
          have hki : (k : Int) < s.size := by omega
          have hkS : (k : Int) < S := by omega
          have c0 : wc.cell? ⟨w.heap.size, 0, none⟩ = some (.int .u64 0) := HR3.out.1.cell 0
          have c1 : wc.cell? ⟨w.heap.size, 1, none⟩ = some (.string ⟨#[]⟩) := HR3.out.1.cell 1
          have c2 : wc.cell? ⟨w.heap.size, 2, none⟩ = some (.int .i64 0) := HR3.out.1.cell 2
          have f0 := HR3.out.1.free 0
          have f1 := HR3.out.1.free 1
          have f2 := HR3.out.1.free 2
          have s0 : wc.setCell ⟨w.heap.size, 0, none⟩ (.int .u64 0) = wc := set_at HR3.out.1 rfl
          have s1 : wc.setCell ⟨w.heap.size, 1, none⟩ (.string ⟨#[]⟩) = wc := set_at HR3.out.1 rfl
          have s2 : wc.setCell ⟨w.heap.size, 2, none⟩ (.int .i64 0) = wc := set_at HR3.out.1 rfl
          go_wp2
          refine bodyPost_ret (results_frame rfl _ _ w.heap.size _ _ _ rfl HR3.out.1) rfl ?_
          exact ⟨rfl, HR3.out.2⟩
end Go.Proofs.YtoejfkalgmdjcaaDoor
