/- The frame with which a text begins, by the document's own words: where the head is right. -/
import Derived.Test.YtoejfkalgmdjcaaDoorFrameRefA
import Derived.Deep.RegionHeld3
namespace Go.Proofs.YtoejfkalgmdjcaaDoor
open Go.RowKit
set_option maxRecDepth 100000 in
set_option maxHeartbeats 1000000 in
theorem refGet_short (s : ByteArray) (w : World) (hs : s.size ≤ 100000) (hn : Begun s) (hd : s.extract 16 20 = digV (s.extract 0 16)) (hl : lenF s ≤ 65536) (hz : ¬ sizeF s ≤ s.size) :
    Calls Tryd.prog 15 #[.string s] w fun e w' => e = .returned (.tuple #[noF, .int .i64 50]) ∧ Below w.heap.size w w' := by
  have HR := Lib.hid (RefAt.new w)
  have h20n := hn.1
  have h1i : ¬ (s.size : Int) < 20 := by omega
  have h4 : (4 : Int) ≤ s.size := by omega
  have h16 : (16 : Int) ≤ s.size := by omega
  have h20 : (20 : Int) ≤ s.size := by omega
  have hb : ((s.extract 0 4).toList == [72, 71, 70, 82]) = true := mark_beq s _ (decide_eq_true hn.2)
  have hq : ((s.extract 16 20).toList == (digV (s.extract 0 16)).toList) = true := by rw [beqS, decide_eq_true hd]
  have n1 : bigR s 4 8 = numF s := bigR_yes (a := 4) (n := 8) (okB_yes (by omega))
  have n2 : bigR s 12 4 = lenF s := bigR_yes (a := 12) (n := 4) (okB_yes (by omega))
  have N1 := Lib.hid n1; have N2 := Lib.hid n2; clear n1 n2
  have ll := lenF_lt s
  have hli : ¬ (65536 : Int) < lenF s := by omega
  have hr := sec_room (lenF s)
  have hqq : secF (lenF s) ≤ 129 := by unfold secF; omega
  have hzi : (s.size : Int) < 512 * (secF (lenF s) : Nat) := by unfold sizeF at hz; omega
  have z16 := ext_size s 0 16 (by omega)
  have HN := Lib.hid hn; clear hn
  have HD := Lib.hid hd; clear hd
  go_enter Tryd.func15, Tryd.ntmps15
  go_upto_region 3 with (fail)
  go_cut [25] (fun s25 wx => s25 = .bool false ∧ RefAt w wx)
  case first =>
    go_region_with (go_at_call 26; refine (refDigest_any (s.extract 0 16) _ (by unfold maxLen; omega)).mono ?_; rintro e w1 ⟨rfl, hb1⟩)
    all_goals (go_wp2_with (fail); go_meet; exact ⟨rfl, HR.out.drew.more hb1⟩)
  case rest =>
    obtain ⟨rfl, hr⟩ := hcut
    have HR2 := Lib.hid hr; clear hr
    clear hq
    go_wp2_with (fail)
    refine (refBig_any s 4 8 _ (by unfold maxLen; omega)).mono ?_; rintro e w2 ⟨rfl, rfl⟩
    rw [N1.out]
    go_wp2_with (fail)
    refine (refBig_any s 12 4 _ (by unfold maxLen; omega)).mono ?_; rintro e w3 ⟨rfl, rfl⟩
    rw [N2.out]
    go_wp2_with (fail)
    refine (refSectors_in (lenF s) _ hl).mono ?_; rintro e w' ⟨rfl, rfl⟩
    have c0 : wc.cell? ⟨w.heap.size, 0, none⟩ = some (.int .u64 0) := HR2.out.1.cell 0
    have c1 : wc.cell? ⟨w.heap.size, 1, none⟩ = some (.string ⟨#[]⟩) := HR2.out.1.cell 1
    have c2 : wc.cell? ⟨w.heap.size, 2, none⟩ = some (.int .i64 0) := HR2.out.1.cell 2
    have f0 := HR2.out.1.free 0
    have f1 := HR2.out.1.free 1
    have f2 := HR2.out.1.free 2
    have s0 : wc.setCell ⟨w.heap.size, 0, none⟩ (.int .u64 0) = wc := set_at HR2.out.1 rfl
    have s1 : wc.setCell ⟨w.heap.size, 1, none⟩ (.string ⟨#[]⟩) = wc := set_at HR2.out.1 rfl
    have s2 : wc.setCell ⟨w.heap.size, 2, none⟩ (.int .i64 0) = wc := set_at HR2.out.1 rfl
    go_wp2
    refine bodyPost_ret (results_frame rfl _ _ w.heap.size _ _ _ rfl HR2.out.1) rfl ?_
    exact ⟨rfl, HR2.out.2⟩
set_option maxRecDepth 100000 in
set_option maxHeartbeats 1000000 in
theorem refGet_sum2 (s : ByteArray) (w : World) (hs : s.size ≤ 100000) (hn : Begun s) (hd : s.extract 16 20 = digV (s.extract 0 16)) (hl : lenF s ≤ 65536) (hz : sizeF s ≤ s.size) (hd2 : ¬ s.extract (20 + lenF s) (24 + lenF s) = digV (textF s)) :
    Calls Tryd.prog 15 #[.string s] w fun e w' => e = .returned (.tuple #[noF, .int .i64 51]) ∧ Below w.heap.size w w' := by
  have HR := Lib.hid (RefAt.new w)
  have h20n := hn.1
  have h1i : ¬ (s.size : Int) < 20 := by omega
  have h4 : (4 : Int) ≤ s.size := by omega
  have h16 : (16 : Int) ≤ s.size := by omega
  have h20 : (20 : Int) ≤ s.size := by omega
  have hb : ((s.extract 0 4).toList == [72, 71, 70, 82]) = true := mark_beq s _ (decide_eq_true hn.2)
  have hq : ((s.extract 16 20).toList == (digV (s.extract 0 16)).toList) = true := by rw [beqS, decide_eq_true hd]
  have n1 : bigR s 4 8 = numF s := bigR_yes (a := 4) (n := 8) (okB_yes (by omega))
  have n2 : bigR s 12 4 = lenF s := bigR_yes (a := 12) (n := 4) (okB_yes (by omega))
  have N1 := Lib.hid n1; have N2 := Lib.hid n2; clear n1 n2
  have ll := lenF_lt s
  have hli : ¬ (65536 : Int) < lenF s := by omega
  have hr := sec_room (lenF s)
  have hqq : secF (lenF s) ≤ 129 := by unfold secF; omega
  have hz' : 512 * secF (lenF s) ≤ s.size := hz
  have hzi : ¬ (s.size : Int) < 512 * (secF (lenF s) : Nat) := by omega
  obtain ⟨E, hE⟩ : ∃ E, E = 20 + lenF s := ⟨_, rfl⟩
  have hEi : (20 + (lenF s : Int)) = (E : Int) := by omega
  have ze : (s.extract 20 E).size = lenF s := by rw [ext_size s _ _ (by omega)]; omega
  have te : textF s = s.extract 20 E := by rw [hE]; rfl
  obtain ⟨F, hF⟩ : ∃ F, F = E + 4 := ⟨_, rfl⟩
  have hF1 : (E : Int) + 4 = (F : Int) := by omega
  have hF2 : IntKind.i64.wrap ((E : Int) + 4) = (F : Int) := by rw [IntKind.wrap_i64]; omega
  have hF3 : IntKind.i64.wrap (F : Int) = (F : Int) := by rw [IntKind.wrap_i64]; omega
  have hx0 : (E : Int) ≤ F := by omega
  have hx1 : (F : Int) ≤ s.size := by omega
  have hx2 : (E : Int) ≤ s.size := by omega
  have hx3 : (20 : Int) ≤ E := by omega
  have e24 : 24 + lenF s = F := by omega
  rw [← hE, e24, te] at hd2
  have HEi := Lib.hid hEi
  have HE := Lib.hid hE; have HF := Lib.hid hF; clear hE hEi hF
  have hq2 : ((s.extract E F).toList == (digV (s.extract 20 E)).toList) = false := by rw [beqS, decide_eq_false hd2]
  have HD2 := Lib.hid hd2; clear hd2
  have z16 := ext_size s 0 16 (by omega)
  have HN := Lib.hid hn; clear hn
  have HD := Lib.hid hd; clear hd
  go_enter Tryd.func15, Tryd.ntmps15
  go_upto_region 3 with (fail)
  go_cut [25] (fun s25 wx => s25 = .bool false ∧ RefAt w wx)
  case first =>
    go_region_with (go_at_call 26; refine (refDigest_any (s.extract 0 16) _ (by unfold maxLen; omega)).mono ?_; rintro e w1 ⟨rfl, hb1⟩)
    all_goals (go_wp2_with (fail); go_meet; exact ⟨rfl, HR.out.drew.more hb1⟩)
  case rest =>
    obtain ⟨rfl, hr⟩ := hcut
    have HR2 := Lib.hid hr; clear hr
    clear hq
    go_wp2_with (fail)
    refine (refBig_any s 4 8 _ (by unfold maxLen; omega)).mono ?_; rintro e w2 ⟨rfl, rfl⟩
    rw [N1.out]
    go_wp2_with (fail)
    refine (refBig_any s 12 4 _ (by unfold maxLen; omega)).mono ?_; rintro e w3 ⟨rfl, rfl⟩
    rw [N2.out]
    go_wp2_with (fail)
    refine (refSectors_in (lenF s) _ hl).mono ?_; rintro e w' ⟨rfl, rfl⟩
    go_upto_region 10 with (fail)
    rw [HEi.out]
    go_cut [61] (fun s61 wx => s61 = .bool true ∧ RefAt w wx)
    case first =>
      go_region_held3 (fun _ => True) (exact True.intro) (first | (go_at_call 26; refine (refDigest_any (s.extract 20 E) _ (by unfold maxLen; omega)).mono ?_; rintro e w4 ⟨rfl, hb4⟩) | fail)
      all_goals (go_wp2_with (fail); go_meet; exact ⟨rfl, HR2.out.drew.more hb4⟩)
    case rest =>
      obtain ⟨rfl, hr4⟩ := hcut
      have HR3 := Lib.hid hr4; clear hr4
      clear hq2
      have c0 : wc.cell? ⟨w.heap.size, 0, none⟩ = some (.int .u64 0) := HR3.out.1.cell 0
      have c1 : wc.cell? ⟨w.heap.size, 1, none⟩ = some (.string ⟨#[]⟩) := HR3.out.1.cell 1
      have c2 : wc.cell? ⟨w.heap.size, 2, none⟩ = some (.int .i64 0) := HR3.out.1.cell 2
      have f0 := HR3.out.1.free 0
      have f1 := HR3.out.1.free 1
      have f2 := HR3.out.1.free 2
      have s0 : wc.setCell ⟨w.heap.size, 0, none⟩ (.int .u64 0) = wc := set_at HR3.out.1 rfl
      have s1 : wc.setCell ⟨w.heap.size, 1, none⟩ (.string ⟨#[]⟩) = wc := set_at HR3.out.1 rfl
      have s2 : wc.setCell ⟨w.heap.size, 2, none⟩ (.int .i64 0) = wc := set_at HR3.out.1 rfl
      go_wp2
      refine bodyPost_ret (results_frame rfl _ _ w.heap.size _ _ _ rfl HR3.out.1) rfl ?_
      exact ⟨rfl, HR3.out.2⟩
end Go.Proofs.YtoejfkalgmdjcaaDoor
