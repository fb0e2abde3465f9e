/- DevKeeps: the call returns true. -/
import Derived.Test.YtlcaokgdbocmiaaDevKeepsMath
import Derived.Deep.DeepCutAuto
import Derived.Deep.RegionWith
namespace Go.Proofs.Ytlcaokgdbocmiaa
open Go.RowKit
section
variable {B : Nat} {w0 w : World} {A2 : Thing} {p n : Nat} {x : St}
theorem d_write1 (hB : B ≤ w0.heap.size) (h2 : Framed A2) (h : Duo B w0 (DvA p n x) A2 w) (i : Nat) (s : ByteArray) (hs : s.size = 512) (hi : i < n) (hd : x.down = false) (ha : x.armed = false) (hk : x.ops ≤ 1000000000000) :
    Calls Try.prog 14 #[.pointer (some ⟨p, 0, none⟩), .int .i64 (i : Int), .string s] w fun e w' => e = .returned (.int .i64 0) ∧ Duo B w0 (DvA p n (x.oped.hold i s)) A2 w' := by
  have := d_write hB h2 h i 1 s (by omega) (why_ok (by omega) hd) hk
  rw [wr_go (due_no ha), sec_whole hs] at this
  exact this
theorem d_flush1 (hB : B ≤ w0.heap.size) (h2 : Framed A2) (h : Duo B w0 (DvA p n x) A2 w) (hd : x.down = false) (ha : x.armed = false) (hk : x.ops ≤ 1000000000000) :
    Calls Try.prog 18 #[.pointer (some ⟨p, 0, none⟩)] w fun e w' => e = .returned (.int .i64 0) ∧ Duo B w0 (DvA p n x.flushed) A2 w' := by
  have := d_flush hB h2 h hk
  rw [flush_yes ha hd] at this
  exact this
theorem d_read1 (hB : B ≤ w0.heap.size) (h2 : Framed A2) (h : Duo B w0 (DvA p n x) A2 w) (i : Nat) (s : ByteArray) (hs : x.seen[i]? = some s) (hi : i < n) (hd : x.down = false) :
    Calls Try.prog 16 #[.pointer (some ⟨p, 0, none⟩), .int .i64 (i : Int), .int .i64 1] w fun e w' => e = .returned (.tuple #[.string s, .int .i64 0]) ∧ Duo B w0 (DvA p n x) A2 w' := by
  have := d_read hB h2 h i 1 (why_ok (by omega) hd)
  rw [part_one hs, catS_one] at this
  exact this
end
theorem Duo.cell {w0 w : World} {A1 A2 : Thing} (h : Duo w0.heap.size w0 A1 A2 w) {p : Addr} {v : Value} (hc : w0.cell? p = some v) : w.cell? p = some v := by
  obtain ⟨F, G, h⟩ := h
  exact (h.below.cell (World.block_lt_of_cell? _ _ hc)).trans hc
theorem Duo.nums {w0 w : World} {A1 A2 : Thing} (h : Duo w0.heap.size w0 A1 A2 w) {A : Option Addr} {ks : List Int} (hk : Nums w0 A ks) : Nums w A ks := fun hn => by
  obtain ⟨b, o, rfl, hc⟩ := hk hn
  exact ⟨b, o, rfl, fun j v hj => h.cell (hc j v hj)⟩
theorem below_grown {w w3 : World} {o : Obj} {row : Option Nat} (hg : (w.alloc o).grownBy w3 row) (hr : ∀ k, row = some k → w.heap.size ≤ k) : Below w.heap.size w w3 :=
  ((Below.refl w.heap.size w).alloc (Nat.le_refl _) o).grown hg (by simp) hr
theorem own_empty (w : World) : (w.alloc (.cells #[] 3)).ownsRow w.heap.size 3 1 (.slice (some ⟨w.heap.size, 0, none⟩) 0 0) 0 [] := World.ownsRow_made w #[] 0 (Nat.le_refl _) (by decide) rfl
theorem keeps_long (A A2 : Option Addr) (fs : List UInt8) (ks : List Int) (c c2 : Nat) (n : Int) (w : World) (hl : 60 < fs.length) (hm : fs.length ≤ 9223372036854775807) :
    Calls Try.prog 4 #[.slice A fs.length c, .slice A2 ks.length c2, .int .i64 n] w fun e w' => e = .returned (.bool true) ∧ Below w.heap.size w w' := by
  have hB : w.heap.size ≤ w.heap.size := Nat.le_refl _
  have hl' : (60 : Int) < fs.length := by omega
  clear hl
  go_enter Try.func4, Try.ntmps4
  go_wp2_with (fail)
  refine (d_new hB framed_no (Duo.start w) 64 (by omega) (by omega)).mono ?_
  rintro e w1 ⟨p, rfl, h1⟩
  have H1 := Lib.hid h1
  clear h1
  go_wp2_with (fail)
  refine (wakes_any _).mono ?_
  rintro e w8 ⟨rfl, hb8⟩
  have H8 := Lib.hid (H1.out.more hB (framed_dv _ _ _) framed_no hb8)
  clear hb8
  go_wp2_with (fail)
  go_ret
  obtain ⟨F, G, hd⟩ := H8.out
  exact ⟨rfl, hd.below⟩
/-- Of the first loop in DevKeeps. -/
def KpAt (w : World) (p : Nat) (fs : List UInt8) (k : Nat) (c : Value) (wr : World) : Prop := ∃ (i : Nat) (x : St), c = .int .i64 (i : Int) ∧ i ≤ fs.length ∧ KpSt fs k i x ∧ Duo w.heap.size w (DvA p 64 x) NoA wr
/-- Of the second one. -/
def KpBt (w : World) (p m : Nat) (x : St) (c : Value) (wr : World) : Prop := ∃ i : Nat, c = .int .i64 (i : Int) ∧ i ≤ m ∧ Duo w.heap.size w (DvA p 64 x) NoA wr
set_option maxRecDepth 100000 in
set_option maxHeartbeats 1600000 in
theorem keeps_any (A A2 : Option Addr) (fs : List UInt8) (ks : List Int) (c c2 : Nat) (n : Int) (w : World) (hl : fs.length ≤ 60) (hf : Byts w A fs) (hks : Nums w A2 ks) (hm : ks.length * 8 ≤ 140737488355328) :
    Calls Try.prog 4 #[.slice A fs.length c, .slice A2 ks.length c2, .int .i64 n] w fun e w' => e = .returned (.bool true) ∧ Below w.heap.size w w' := by
  have hB : w.heap.size ≤ w.heap.size := Nat.le_refl _
  have hl' : (fs.length : Int) ≤ 60 := by omega
  have he1 := Int.emod_nonneg n (show ((fs.length + 1 : Nat) : Int) ≠ 0 by omega)
  have he2 := Int.emod_lt_of_pos n (show (0 : Int) < ((fs.length + 1 : Nat) : Int) by omega)
  obtain ⟨k, hk⟩ : ∃ k : Nat, n % (fs.length + 1 : Nat) = (k : Int) := ⟨(n % (fs.length + 1 : Nat)).toNat, by omega⟩
  have hk1 : (k : Int) ≤ fs.length := by omega
  clear he1 he2
  have HK := Lib.hid hk
  have HF := Lib.hid hf
  have HN := Lib.hid hks
  have HM := Lib.hid hm
  clear hk hf hks hm hl
  go_enter Try.func4, Try.ntmps4
  go_wp2_with (fail)
  refine (d_new hB framed_no (Duo.start w) 64 (by omega) (by omega)).mono ?_
  rintro e w1 ⟨p, rfl, h1⟩
  have H1 := Lib.hid h1
  clear h1
  go_wp2_with (fail)
  have HC := mod_any n (fs.length + 1) (by omega) (by omega) w1
  rw [HK.out, show ((fs.length + 1 : Nat) : Int) = (fs.length : Int) + 1 by omega] at HC
  refine HC.mono ?_
  rintro e w2 ⟨rfl, rfl⟩
  clear HC
  go_wp2_with (fail)
  have H0 := Lib.hid (show KpSt fs k 0 (St.new 64) from ⟨rfl, rfl, by rw [if_pos (Nat.zero_le _)]; rfl, by rw [if_pos (Nat.zero_le _)], by rw [if_pos (Nat.zero_le _)]; rfl⟩)
  go_loopw [10] (fun c wr => KpAt w p fs k c wr) (fun c _ => fs.length - (intOf c).toNat)
  case atStart => exact ⟨0, _, rfl, Nat.zero_le _, H0.out, H1.out⟩
  case round =>
    obtain ⟨i, x, rfl, hi, hx, hd⟩ := hrel
    have HD := Lib.hid hd
    have HX := Lib.hid hx
    have HO := Lib.hid (show x.ops ≤ 1000000000000 by have := hx.ops; rw [this]; split <;> omega)
    clear hd hx H0 H1
    by_cases hlt : i < fs.length
    · obtain ⟨fb, fo, v, rfl, hv, hc0⟩ := HF.out.at_ hlt
      have HV := Lib.hid hv
      clear hv
      by_cases hik : i = k
      · subst hik
        go_wp2_with (fail)
        refine (d_flush1 hB framed_no HD.out HX.out.down HX.out.armed HO.out).mono ?_
        rintro e w3 ⟨rfl, h3⟩
        have hc3 := h3.cell hc0
        have H3 := Lib.hid h3
        clear h3
        go_wp2_with (fail)
        refine (block_any v w3).mono ?_
        rintro e w4 ⟨rfl, hb4⟩
        have H4 := Lib.hid (H3.out.more hB (framed_dv _ _ _) framed_no hb4)
        clear hb4
        go_wp2_with (fail)
        refine (d_write1 hB framed_no H4.out i (bytesS 512 v) (bytesS_size 512 v) (by omega) HX.out.flush.down HX.out.flush.armed (by rw [HX.out.flush.ops]; omega)).mono ?_
        rintro e w5 ⟨rfl, h5⟩
        have H5 := Lib.hid h5
        clear h5
        go_wp2_with (fail)
        exact ⟨⟨i + 1, _, by go_num, hlt, HX.out.flush.next HV.out, H5.out⟩, by simp [intOf]; omega⟩
      · have hik' : ((i : Int) == (k : Int)) = false := by simp; omega
        have hcr := HD.out.cell hc0
        go_wp2_with (fail)
        refine (block_any v wr).mono ?_
        rintro e w4 ⟨rfl, hb4⟩
        have H4 := Lib.hid (HD.out.more hB (framed_dv _ _ _) framed_no hb4)
        clear hb4
        go_wp2_with (fail)
        refine (d_write1 hB framed_no H4.out i (bytesS 512 v) (bytesS_size 512 v) (by omega) HX.out.down HX.out.armed HO.out).mono ?_
        rintro e w5 ⟨rfl, h5⟩
        have H5 := Lib.hid h5
        clear h5
        go_wp2_with (fail)
        exact ⟨⟨i + 1, _, by go_num, hlt, HX.out.next HV.out hik, H5.out⟩, by simp [intOf]; omega⟩
    · obtain rfl : i = fs.length := by omega
      go_upto_region 12 with (fail)
      go_cut [67] (fun s67 wx => s67 = .bool false ∧ ∃ y, KpEnd fs k y ∧ Duo w.heap.size w (DvA p 64 y) NoA wx)
      case first =>
        by_cases hkl : k = fs.length
        · subst hkl
          go_wp2_with (fail)
          refine (d_flush1 hB framed_no HD.out HX.out.down HX.out.armed HO.out).mono ?_
          rintro e w3 ⟨rfl, h3⟩
          have H3 := Lib.hid h3
          clear h3
          go_wp2_with (fail)
          go_meet
          exact ⟨rfl, _, HX.out.flush.done, H3.out⟩
        · have hkl' : ((k : Int) == (fs.length : Int)) = false := by simp; omega
          go_wp2_with (fail)
          go_meet
          exact ⟨rfl, _, HX.out.done (by omega), HD.out⟩
      case rest =>
        obtain ⟨rfl, y, hy, hd⟩ := hcut
        have HE := Lib.hid hy
        have HD2 := Lib.hid hd
        clear hy hd
        have HN2 := Lib.hid (Nums.below (HD2.out.nums HN.out) ((Below.refl wc.heap.size wc).alloc (Nat.le_refl _) (.cells #[] 3)) rfl)
        go_wp2_with (at_builtin; refine wpList_append_nums rfl (.tmp 69) (.tmp 70) rfl wc.heap.size (.slice (some ⟨wc.heap.size, 0, none⟩) 0 0) rfl (own_empty wc) A2 c2 ks rfl HN2.out HM.out (by simp) ?_; intro A3 c3 w3 hn3 hg3 hb3; have H3 := Lib.hid hn3; have HG3 := Lib.hid hg3; have HB3 := Lib.hid hb3; clear hn3 hg3 hb3)
        refine (d_crash hB framed_no HD2.out (below_grown HG3.out (fun k hk => Nat.le_of_eq (Option.some.inj hk))) (by have := HE.out.ops; omega) A3 c3 ks H3.out (fun hn a ha => .inr (HB3.out hn a ha)) (by have := HM.out; unfold maxLen; omega)).mono ?_
        rintro e w4 ⟨rfl, h4⟩
        have H4 := Lib.hid h4
        clear h4
        go_wp2_with (fail)
        go_loopw [11] (fun c wr => KpBt w p fs.length (y.crash ks) c wr) (fun c _ => fs.length - (intOf c).toNat)
        case atStart => exact ⟨0, rfl, Nat.zero_le _, H4.out⟩
        case round =>
          obtain ⟨i, rfl, hi, hd⟩ := hrel
          have HD3 := Lib.hid hd
          clear hd
          by_cases hlt : i < fs.length
          · obtain ⟨fb, fo, v, rfl, hv, hc0⟩ := HF.out.at_ hlt
            have HV := Lib.hid hv
            clear hv
            by_cases hik : i < k
            · go_wp2_with (fail)
              refine (d_read1 hB framed_no HD3.out i _ (HE.out.low ks HV.out hik (by omega)) (by omega) rfl).mono ?_
              rintro e w5 ⟨rfl, h5⟩
              have hc5 := h5.cell hc0
              have H5 := Lib.hid h5
              clear h5
              go_wp2_with (fail)
              refine (block_any v _).mono ?_
              rintro e w6 ⟨rfl, hb6⟩
              have H6 := Lib.hid (H5.out.more hB (framed_dv _ _ _) framed_no hb6)
              clear hb6
              go_wp2_with (fail)
              exact ⟨⟨i + 1, by go_num, hlt, H6.out⟩, by simp [intOf]; omega⟩
            · go_wp2_with (fail)
              refine (d_read1 hB framed_no HD3.out i _ (HE.out.high ks HV.out (by omega) (by omega)) (by omega) rfl).mono ?_
              rintro e w5 ⟨rfl, h5⟩
              have hc5 := h5.cell hc0
              have H5 := Lib.hid h5
              clear h5
              go_upto_if 109 with (fail)
              go_cut [14] (fun s14 wx => s14 = .int .i64 ((kept ks (i - k) : Nat) : Int) ∧ wx = w5)
              case first =>
                by_cases hkk : i - k < ks.length
                · obtain ⟨kb, ko, u, rfl, hu, hcu⟩ := HN.out.at_ hkk
                  have HU := Lib.hid (kept_some hu)
                  have hku := H5.out.cell hcu
                  have hkk' : (i : Int) - k < ks.length := by omega
                  have hmm : max 0 (min u 512) = min (max u 0) 512 := by omega
                  have HMM := Lib.hid hmm
                  have HKK := Lib.hid hkk
                  clear hu hmm hkk hcu
                  go_wp2_with (fail)
                  go_meet
                  exact ⟨by rw [HU.out, ← HMM.out], rfl⟩
                · have hkk' : ¬ (i : Int) - k < ks.length := by omega
                  have HU := Lib.hid (kept_none (keep := ks) (k := i - k) (by omega))
                  go_wp2_with (fail)
                  go_meet
                  exact ⟨by rw [HU.out]; rfl, rfl⟩
              case rest =>
                obtain ⟨rfl, hwc⟩ := hcut
                rw [hwc]
                clear hwc
                have hkept := kept_le ks (i - k)
                rw [mix_zeros]
                generalize kept ks (i - k) = κ at *
                have hz1 : IntKind.i64.wrap (512 - (κ : Int)) = 512 - (κ : Int) := IntWalk.i64_in _ (by omega)
                have HZ : ∀ w, Calls Try.prog 32 #[.int .i64 (512 - (κ : Int))] w fun e w' => e = .returned (.string (bytesS (512 - κ) 0)) ∧ Below w.heap.size w w' := fun w => by
                  have := zeros_any (512 - κ) (by omega) w
                  rwa [show ((512 - κ : Nat) : Int) = 512 - (κ : Int) by omega] at this
                have HZ := Lib.hid HZ
                have HBl := Lib.hid (block_any v)
                have hbz : (bytesS 512 v).size = 512 := bytesS_size _ _
                have hzz : (bytesS (512 - κ) 0).size = 512 - κ := bytesS_size _ _
                generalize bytesS (512 - κ) 0 = Zs at *
                generalize bytesS 512 v = Bs at *
                have k1 : (κ : Int) ≤ Bs.size := by omega
                have k3 : ¬ (9223372036854775807 < min κ Bs.size + Zs.size) := by omega
                have HB1 := Lib.hid hbz
                have HZ1 := Lib.hid hzz
                clear hbz hzz
                go_upto_region 25 with (fail)
                go_cut [130] (fun s130 wx => s130 = .bool false ∧ Duo w.heap.size w (DvA p 64 (y.crash ks)) NoA wx)
                case first =>
                  go_region_with (first | (go_at_call 13; refine (HBl.out _).mono ?_; rintro e w6 ⟨rfl, hb6⟩; have HB6 := Lib.hid hb6; clear hb6) | (go_at_call 32; refine (HZ.out _).mono ?_; rintro e w7 ⟨rfl, hb7⟩; have HB7 := Lib.hid hb7; clear hb7))
                  go_wp2_with (fail)
                  go_meet
                  exact ⟨rfl, ((H5.out.drew hB (framed_dv _ _ _) framed_no).more hB (framed_dv _ _ _) framed_no HB6.out).more hB (framed_dv _ _ _) framed_no HB7.out⟩
                case rest =>
                  obtain ⟨rfl, hd⟩ := hcut
                  have H6 := Lib.hid hd
                  clear hd
                  go_wp2_with (fail)
                  exact ⟨⟨i + 1, by go_num, hlt, H6.out⟩, by simp [intOf]; omega⟩
          · obtain rfl : i = fs.length := by omega
            go_wp2_with (fail)
            refine (wakes_any _).mono ?_
            rintro e w8 ⟨rfl, hb8⟩
            have H8 := Lib.hid (HD3.out.more hB (framed_dv _ _ _) framed_no hb8)
            clear hb8
            go_wp2_with (fail)
            go_ret
            obtain ⟨F, G, hd⟩ := H8.out
            exact ⟨rfl, hd.below⟩
end Go.Proofs.Ytlcaokgdbocmiaa
