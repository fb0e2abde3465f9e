/- DevWhole: the call returns true. -/
import Derived.Test.YtlcaokgdbocmiaaDevWholeMath
import Derived.Test.YtlcaokgdbocmiaaDevKeeps
namespace Go.Proofs.Ytlcaokgdbocmiaa
open Go.RowKit
set_option maxRecDepth 100000 in
theorem whole_long (i : Int) (A A2 : Option Addr) (fs : List UInt8) (ks : List Int) (c c2 : Nat) (w : World) (hl : 20 < fs.length) :
    Calls Try.prog 7 #[.int .i64 i, .slice A fs.length c, .slice A2 ks.length c2] w fun e w' => e = .returned (.bool true) ∧ Below w.heap.size w w' := by
  have hl' : (20 : Int) < fs.length := by omega
  clear hl
  go_enter Try.func7, Try.ntmps7
  go_wp2_with (fail)
  refine (wakes_any _).mono ?_
  rintro e w8 ⟨rfl, hb8⟩
  have H8 := Lib.hid hb8
  clear hb8
  go_wp2_with (fail)
  go_ret
  exact ⟨rfl, H8.out⟩
/-- Of the first loop in DevWhole. -/
def WhAt (w : World) (p q : Nat) (fs : List UInt8) (k : Nat) (c a : Value) (wr : World) : Prop :=
  ∃ i : Nat, c = .int .i64 (i : Int) ∧ i ≤ fs.length ∧ a = .string (catS ((blkL fs).take i)) ∧ Duo w.heap.size w (DvA q 32 (whSt fs k i)) (DvA p 32 (St.new 32)) wr
/-- Of the second one. -/
def WhBt (w : World) (q : Nat) (y : St) (A2 : Thing) (c a : Value) (wr : World) : Prop :=
  ∃ i : Nat, c = .int .i64 (i : Int) ∧ i ≤ 32 ∧ a = .string (catS (y.seen.take i)) ∧ Duo w.heap.size w (DvA q 32 y) A2 wr
set_option maxRecDepth 100000 in
set_option maxHeartbeats 1600000 in
theorem whole_any (n : Int) (A A2 : Option Addr) (fs : List UInt8) (ks : List Int) (c c2 : Nat) (w : World) (hl : fs.length ≤ 20) (hf : Byts w A fs) (hks : Nums w A2 ks) (hm : ks.length * 8 ≤ 140737488355328) :
    Calls Try.prog 7 #[.int .i64 n, .slice A fs.length c, .slice A2 ks.length c2] w fun e w' => e = .returned (.bool true) ∧ Below w.heap.size w w' := by
  have hB : w.heap.size ≤ w.heap.size := Nat.le_refl _
  have hl' : (fs.length : Int) ≤ 20 := by omega
  have he1 := Int.emod_nonneg n (show ((33 - fs.length : Nat) : Int) ≠ 0 by omega)
  have he2 := Int.emod_lt_of_pos n (show (0 : Int) < ((33 - fs.length : Nat) : Int) by omega)
  obtain ⟨k, hk⟩ : ∃ k : Nat, n % (33 - fs.length : Nat) = (k : Int) := ⟨(n % (33 - fs.length : Nat)).toNat, by omega⟩
  have hk1 : (k : Int) + fs.length ≤ 32 := by omega
  have HK := Lib.hid hk
  have HF := Lib.hid hf
  have HN := Lib.hid hks
  have HM := Lib.hid hm
  have HL := Lib.hid hl
  clear hk hf hks hm hl he1 he2
  go_enter Try.func7, Try.ntmps7
  go_wp2_with (fail)
  refine (d_new hB framed_no (Duo.start w) 32 (by omega) (by omega)).mono ?_
  rintro e w1 ⟨p, rfl, h1⟩
  have H1 := Lib.hid h1.swap
  clear h1
  go_wp2_with (fail)
  refine (d_new hB (framed_dv _ _ _) H1.out 32 (by omega) (by omega)).mono ?_
  rintro e w2 ⟨q, rfl, h2⟩
  have H2 := Lib.hid h2
  clear h2
  go_wp2_with (fail)
  have HC := mod_any n (33 - fs.length) (by have := HL.out; omega) (by omega) w2
  rw [HK.out, show ((33 - fs.length : Nat) : Int) = 32 - (fs.length : Int) + 1 by have := HL.out; omega] at HC
  refine HC.mono ?_
  rintro e w3 ⟨rfl, rfl⟩
  clear HC
  go_wp2_with (fail)
  go_loopw [13, 12] (fun c a wr => WhAt w p q fs k c a wr) (fun c _ _ => fs.length - (intOf c).toNat)
  case atStart => exact ⟨0, rfl, Nat.zero_le _, rfl, H2.out⟩
  case round =>
    obtain ⟨i, rfl, hi, rfl, hd⟩ := hrel
    have HD := Lib.hid hd
    clear hd
    by_cases hlt : i < fs.length
    · obtain ⟨fb, fo, v, rfl, hv, hc0⟩ := HF.out.at_ hlt
      have HV := Lib.hid hv
      have hcr := HD.out.cell hc0
      have hz1 : (catS ((blkL fs).take i)).size ≤ 10240 := by
        rw [catS_size (blkL_take fs i), List.length_take]
        have := HL.out
        omega
      have hz2 := bytesS_size 512 v
      have HB2 := Lib.hid (block_any v)
      have HZ := Lib.hid hz2
      have HA := Lib.hid (catS_snoc ((blkL fs).take i) (bytesS 512 v))
      have hz3 : ¬ (9223372036854775807 < (catS ((blkL fs).take i)).size + (bytesS 512 v).size) := by omega
      clear hv hz2
      go_wp2_with (fail)
      refine (HB2.out wr).mono ?_
      rintro e w4 ⟨rfl, hb4⟩
      have H4 := Lib.hid (HD.out.more hB (framed_dv _ _ _) (framed_dv _ _ _) hb4)
      clear hb4
      have hc4 := H4.out.cell hc0
      go_wp2_with (fail)
      refine (HB2.out w4).mono ?_
      rintro e w5 ⟨rfl, hb5⟩
      have H5 := Lib.hid (H4.out.more hB (framed_dv _ _ _) (framed_dv _ _ _) hb5)
      clear hb5
      go_wp2_with (fail)
      have HC := d_write1 hB (framed_dv _ _ _) H5.out (k + i) (bytesS 512 v) HZ.out (by omega) rfl rfl (show i ≤ 1000000000000 by omega)
      rw [Int.natCast_add, whSt_next HV.out] at HC
      refine HC.mono ?_
      rintro e w6 ⟨rfl, h6⟩
      have H6 := Lib.hid h6
      clear h6 HC
      go_wp2_with (fail)
      exact ⟨⟨i + 1, by go_num, hlt, by rw [HA.out, blkL_next HV.out], H6.out⟩, by simp [intOf]; omega⟩
    · obtain rfl : i = fs.length := by omega
      have HCat := Lib.hid (show catS ((blkL fs).take fs.length) = catS (blkL fs) by rw [List.take_of_length_le (by simp [blkL])])
      rw [HCat.out]
      have hz1 : (catS (blkL fs)).size = fs.length * 512 := by rw [catS_size (blkL_secs fs)]; simp [blkL]
      have HZ := Lib.hid hz1
      have HS := Lib.hid HD.out.swap
      clear hz1
      go_wp2_with (fail)
      have HC := d_write hB (framed_dv _ _ _) HS.out k fs.length (catS (blkL fs)) HZ.out (new_why 32 k fs.length (by omega)) (by decide)
      rw [whSt_whole] at HC
      refine HC.mono ?_
      rintro e w4 ⟨rfl, h4⟩
      have H4 := Lib.hid h4
      clear h4 HC
      rw [show wrCode true = 0 from rfl]
      go_wp2_with (fail)
      refine (d_ops H4.out).mono ?_
      rintro e w5 ⟨rfl, rfl⟩
      go_wp2_with (fail)
      refine (d_ops H4.out.swap).mono ?_
      rintro e w5 ⟨rfl, rfl⟩
      go_wp2_with (fail)
      have HC := d_held H4.out
      rw [show (whSt fs k fs.length).held.length = fs.length by simp [whSt]] at HC
      refine HC.mono ?_
      rintro e w5 ⟨rfl, rfl⟩
      clear HC
      have HOps := Lib.hid (show (whSt fs k fs.length).ops ≤ 1000000000000 by show fs.length ≤ _; omega)
      generalize whSt fs k fs.length = x at *
      have HN5 := Lib.hid (Nums.below (H4.out.nums HN.out) ((Below.refl w4.heap.size w4).alloc (Nat.le_refl _) (.cells #[] 3)) rfl)
      go_wp2_with (at_builtin; refine wpList_append_nums rfl (.tmp 88) (.tmp 89) rfl w4.heap.size (.slice (some ⟨w4.heap.size, 0, none⟩) 0 0) rfl (own_empty w4) A2 c2 ks rfl HN5.out HM.out (by simp) ?_; intro A3 c3 w5 hn3 hg3 hb3; have H5 := Lib.hid hn3; have HG5 := Lib.hid hg3; have HB5 := Lib.hid hb3; clear hn3 hg3 hb3)
      refine (d_crash hB (framed_dv _ _ _) H4.out (below_grown HG5.out (fun k hk => Nat.le_of_eq (Option.some.inj hk))) HOps.out A3 c3 ks H5.out (fun hn a ha => .inr (HB5.out hn a ha)) (by have := HM.out; unfold maxLen; omega)).mono ?_
      rintro e w6 ⟨rfl, h6⟩
      have H6 := Lib.hid h6.swap
      clear h6
      go_upto_region 18 with (fail)
      have HN7 := Lib.hid (Nums.below (H6.out.nums HN.out) ((Below.refl w6.heap.size w6).alloc (Nat.le_refl _) (.cells #[] 3)) rfl)
      go_wp2_with (at_builtin; refine wpList_append_nums rfl (.tmp 93) (.tmp 94) rfl w6.heap.size (.slice (some ⟨w6.heap.size, 0, none⟩) 0 0) rfl (own_empty w6) A2 c2 ks rfl HN7.out HM.out (by simp) ?_; intro A4 c4 w7 hn3 hg3 hb3; have H7 := Lib.hid hn3; have HG7 := Lib.hid hg3; have HB7 := Lib.hid hb3; clear hn3 hg3 hb3)
      refine (d_crash hB (framed_dv _ _ _) H6.out (below_grown HG7.out (fun k hk => Nat.le_of_eq (Option.some.inj hk))) HOps.out A4 c4 ks H7.out (fun hn a ha => .inr (HB7.out hn a ha)) (by have := HM.out; unfold maxLen; omega)).mono ?_
      rintro e w8 ⟨rfl, h8⟩
      have H8 := Lib.hid h8.swap
      have HDn := Lib.hid (show (x.crash ks).down = false from rfl)
      clear h8
      go_wp2_with (fail)
      generalize x.crash ks = y at *
      have hsl : y.seen.length = 32 := by
        obtain ⟨F, G, hd⟩ := H8.out
        rw [seen_length]; exact (Dv.good hd.one).size
      have HP := Lib.hid (show part y.seen 0 32 = y.seen.take 32 from part_pre _ _)
      have HSL := Lib.hid hsl
      have HSS := Lib.hid (show ∀ s ∈ y.seen, s.size = 512 from by
        obtain ⟨F, G, hd⟩ := H8.out
        exact seen_secs (Dv.good hd.one))
      clear hsl
      have HC := d_read hB (framed_dv _ _ _) H8.out 0 32 (why_ok (by omega) HDn.out)
      rw [HP.out] at HC
      refine HC.mono ?_
      rintro e w9 ⟨rfl, h9⟩
      have H9 := Lib.hid h9.swap
      clear h9 HC
      go_wp2_with (fail)
      go_loopw [17, 16] (fun c a wr => WhBt w q y (DvA p 32 y) c a wr) (fun c _ _ => 32 - (intOf c).toNat)
      case atStart => exact ⟨0, rfl, Nat.zero_le _, rfl, H9.out⟩
      case round =>
        obtain ⟨i, rfl, hi, rfl, hd⟩ := hrel
        have HD9 := Lib.hid hd
        clear hd
        by_cases hlt : i < 32
        · have hx : (i : Int) < 32 := by omega
          have HLT := Lib.hid hlt
          obtain ⟨s, hs⟩ : ∃ s, y.seen[i]? = some s := ⟨_, List.getElem?_eq_getElem (by have := HSL.out; omega)⟩
          have HSI := Lib.hid hs
          have hz1 : (catS (y.seen.take i)).size ≤ 16384 := by
            rw [catS_size (fun t ht => HSS.out t (List.mem_of_mem_take ht)), List.length_take]
            omega
          have hz2 : s.size = 512 := HSS.out s (List.mem_of_getElem? hs)
          have hz3 : ¬ (9223372036854775807 < (catS (y.seen.take i)).size + s.size) := by omega
          have HA := Lib.hid (catS_snoc (y.seen.take i) s)
          clear hs hz2 hlt hi
          go_wp2_with (fail)
          refine (d_read1 hB (framed_dv _ _ _) HD9.out i s HSI.out HLT.out HDn.out).mono ?_
          rintro e w10 ⟨rfl, h10⟩
          have H10 := Lib.hid h10
          clear h10
          go_wp2_with (fail)
          exact ⟨⟨i + 1, by go_num, HLT.out, by rw [HA.out, List.take_add_one, HSI.out]; rfl, H10.out⟩, by simp [intOf]; omega⟩
        · obtain rfl : i = 32 := by omega
          go_wp2_with (fail)
          refine (wakes_any _).mono ?_
          rintro e w12 ⟨rfl, hb12⟩
          have H12 := Lib.hid (HD9.out.more hB (framed_dv _ _ _) (framed_dv _ _ _) hb12)
          clear hb12
          go_wp2_with (fail)
          go_ret
          obtain ⟨F, G, hd⟩ := H12.out
          exact ⟨rfl, hd.below⟩
end Go.Proofs.Ytlcaokgdbocmiaa
