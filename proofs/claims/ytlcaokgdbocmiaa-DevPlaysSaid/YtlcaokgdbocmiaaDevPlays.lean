/- DevPlays: the call returns true. -/
import Derived.Test.YtlcaokgdbocmiaaDevBegin
import Derived.Deep.DeepCutAuto
import Derived.RegionTactic
import Derived.BigRegion
import Derived.Deep.RegionHeld3
namespace Go.Proofs.Ytlcaokgdbocmiaa
open Go.RowKit
theorem Bt.more {w0 w wz : World} {S : Nat → Prop} {P Q : Value} {n : Nat} {x y : OSt} (h : Bt wz S w0 P Q n x y w) {w' : World} (hb : Below w.heap.size w w') : Bt wz S w0 P Q n x y w' := by
  rcases h with ⟨h1, h2, h3, h4, h⟩ | ⟨p, q, x', y', h1, h2, h3, h4, h⟩
  · exact .inl ⟨h1, h2, h3, h4, h.more (Nat.le_refl _) framed_no (framed_snap _ _) hb⟩
  · exact .inr ⟨p, q, x', y', h1, h2, h3, h4, h.more (Nat.le_refl _) (framed_dv _ _ _) (framed_two (framed_rf _ _ _) (framed_snap _ _)) hb⟩
theorem Bt.drew {w0 w wz : World} {S : Nat → Prop} {P Q : Value} {n : Nat} {x y : OSt} (h : Bt wz S w0 P Q n x y w) : Bt wz S w0 P Q n x y w.drew := h.more (Below.refl _ _).drew
/-- The blocks made between u and v. -/
def Made (u v : World) (k : Nat) : Prop := u.heap.size ≤ k ∧ k < v.heap.size
theorem Bo.made {w0 w : World} {P Q : Value} {n : Nat} {x y : OSt} (h : Bo w0 P Q n x y w) {w' : World} (hb : Below w.heap.size w w') : Bt w' (Made w w') w0 P Q n x y w' := h.join hb fun _ hk => hk
theorem block_int (v : Int) (h0 : 0 ≤ v) (h1 : v < 256) (w : World) : Calls Try.prog 13 #[.int .u8 v] w fun e w' => ∃ z : ByteArray, e = .returned (.string z) ∧ z.size = 512 ∧ Below w.heap.size w w' := by
  obtain ⟨b, rfl⟩ : ∃ b : UInt8, v = (b.toNat : Int) := ⟨UInt8.ofNat v.toNat, by
    rw [UInt8.toNat_ofNat']
    omega⟩
  exact (block_any b w).mono fun e w' hq => ⟨_, hq.1, bytesS_size _ _, hq.2⟩
/-- Of the loop that joins the blocks. -/
def JoAt (wz : World) (j : Nat) (c a : Value) (wr : World) : Prop := ∃ (k : Nat) (z : ByteArray), c = .int .i64 (k : Int) ∧ k ≤ j ∧ a = .string z ∧ z.size = k * 512 ∧ Below wz.heap.size wz wr
/-- Of the loop over the steps. -/
def PlAt (w : World) (P Q : Value) (n : Nat) (len : Nat) (c : Value) (wr : World) : Prop :=
  ∃ (i : Nat) (x : OSt), c = .int .i64 (i : Int) ∧ i ≤ len ∧ i ≤ 60 ∧ oOps x ≤ 8 * i ∧ Bo w P Q n x x wr
set_option maxRecDepth 100000 in
set_option maxHeartbeats 8000000 in
theorem plays_any (m : Int) (A : Option Addr) (c : Nat) (ss : List Sp) (w : World) (hss : Steps w A ss) :
    Calls Try.prog 3 #[.int .i64 m, .slice A ss.length c] w fun e w' => e = .returned (.bool true) ∧ Below w.heap.size w w' := by
  have HS := Lib.hid hss
  clear hss
  go_enter Try.func3, Try.ntmps3
  go_upto_region 1 with (fail)
  go_cut [28] (fun s28 wx => s28 = .bool (decide (200 < m) && decide (m ≤ 8192)) ∧ w = wx)
  case first =>
    by_cases h : 200 < m
    · go_wp2_with (fail)
      go_meet
      exact ⟨by simp [h], rfl⟩
    · go_wp2_with (fail)
      go_meet
      exact ⟨by simp; omega, rfl⟩
  case rest =>
    obtain ⟨rfl, rfl⟩ := hcut
    go_upto_if 28 with (fail)
    go_cut [0] (fun s0 wx => (∃ k : Int, s0 = .int .i64 k) ∧ w = wx)
    case first =>
      by_cases h : 200 < m ∧ m ≤ 8192
      · have hd : (decide (200 < m) && decide (m ≤ 8192)) = true := by simp [h]
        go_wp2_with (fail)
        go_meet
        exact ⟨⟨_, rfl⟩, rfl⟩
      · have hd : (decide (200 < m) && decide (m ≤ 8192)) = false := by simp; omega
        go_wp2_with (fail)
        go_meet
        exact ⟨⟨_, rfl⟩, rfl⟩
    case rest =>
      obtain ⟨⟨m1, rfl⟩, rfl⟩ := hcut
      go_wp2_with (fail)
      refine (begin_p _ m1).mono ?_
      rintro e w1 ⟨a, k, rfl, h1⟩
      have H1 := Lib.hid h1
      clear h1
      go_wp2_with (fail)
      refine (begin_q H1.out).mono ?_
      rintro e w2 ⟨b, x, rfl, h2, h3⟩
      have H2 := Lib.hid h2
      have H3 := Lib.hid h3
      clear h2 h3
      go_upto_region 5 with (fail)
      go_cut [55] (fun s55 wx => s55 = .bool false ∧ w2 = wx)
      case first =>
        rcases H2.out with ⟨h1, h2, rfl, _, _⟩ | ⟨p, q, x', y', h1, h2, rfl, h4, _⟩
        · injection h1 with h1
          injection h2 with h2
          subst h1 h2
          go_wp2_with (fail)
          refine (bp_size H2.out).mono ?_
          rintro e w3 ⟨rfl, rfl⟩
          go_wp2_with (fail)
          refine (bq_size H2.out).mono ?_
          rintro e w3 ⟨rfl, rfl⟩
          go_wp2_with (fail)
          go_meet
          exact ⟨rfl, rfl⟩
        · injection h1 with h1
          injection h2 with h2
          subst h1 h2
          go_wp2_with (fail)
          refine (bp_size H2.out).mono ?_
          rintro e w3 ⟨rfl, rfl⟩
          go_wp2_with (fail)
          refine (bq_size H2.out).mono ?_
          rintro e w3 ⟨rfl, rfl⟩
          go_wp2_with (fail)
          go_meet
          exact ⟨rfl, rfl⟩
      case rest =>
        obtain ⟨rfl, rfl⟩ := hcut
        go_upto_region 7 with (fail)
        have HSx := HS.out.lie
        have HB := Lib.hid (Below.refl w.heap.size w)
        go_wp2_with (fail)
        go_loopw [9] (fun cv wr => PlAt w (.pointer a) (.pointer b) m1.toNat ss.length cv wr) (fun cv _ => 60 - (intOf cv).toNat)
        case atStart => exact ⟨0, x, rfl, Nat.zero_le _, Nat.zero_le _, by rw [H3.out]; exact Nat.zero_le _, H2.out⟩
        case round =>
          obtain ⟨i, x, rfl, hi, h60, hops, hb⟩ := hrel
          by_cases hlt : i < ss.length ∧ i < 60
          · obtain ⟨hl1, hl2⟩ := hlt
            obtain ⟨s, hs⟩ : ∃ s, ss[i]? = some s := ⟨_, List.getElem?_eq_getElem hl1⟩
            obtain ⟨g, o, rfl, hc⟩ := HS.out.lie (by omega)
            have hx1 : (i : Int) < (ss.length : Int) := by omega
            have hx2 : (i : Int) < 60 := by omega
            have c0 : wr.cell? ⟨g, o + i * 6, none⟩ = some (.int .i64 s.kind) := hb.cell (hc i s hs 0 _ rfl)
            have c1 : wr.cell? ⟨g, o + i * 6 + 1, none⟩ = some (.int .i64 s.pos) := hb.cell (hc i s hs 1 _ rfl)
            have c2 : wr.cell? ⟨g, o + i * 6 + 2, none⟩ = some (.int .i64 s.n) := hb.cell (hc i s hs 2 _ rfl)
            have c3 : wr.cell? ⟨g, o + i * 6 + 3, none⟩ = some (.int .u8 (s.fill.toNat : Int)) := hb.cell (hc i s hs 3 _ rfl)
            have c4 : wr.cell? ⟨g, o + i * 6 + 4, none⟩ = some (.string s.data) := hb.cell (hc i s hs 4 _ rfl)
            have c5 : wr.cell? ⟨g, o + i * 6 + 5, none⟩ = some (.slice s.A s.ks.length s.c) := hb.cell (hc i s hs 5 _ rfl)
            have HBO := Lib.hid hb
            have HK := Lib.hid hops
            have HOK := Lib.hid (HS.out.ok s (List.mem_of_getElem? hs))
            have HI := Lib.hid (show (i : Nat) < 60 from hl2)
            have HIL := Lib.hid hl1
            clear hb hops hs hc
            go_upto_region 11 with (fail)
            clear c0 c1 c2 c3 c4 c5
            have HX := Lib.hid (show Blk (wr.alloc (.cells s.cells 33)) wr.heap.size 33 s.cells from Blk.new wr 33 _)
            have HBL := Lib.hid ((Below.refl wr.heap.size wr).alloc (Nat.le_refl _) (.cells s.cells 33))
            have HSX := Lib.hid (show Made wr (wr.alloc (.cells s.cells 33)) wr.heap.size from ⟨Nat.le_refl _, by simp⟩)
            change Code.wp _ _ _ _ (wr.alloc (.cells s.cells 33))
            generalize wr.alloc (.cells s.cells 33) = wz at *
            obtain ⟨X, hX⟩ : ∃ X, X = wr.heap.size := ⟨_, rfl⟩
            rw [← hX] at HX
            replace HSX := Lib.hid (show Made wr wz X by rw [hX]; exact HSX.out)
            rw [← hX]
            clear hX
            have z0 : wz.cell? ⟨X, 0, none⟩ = some (.int .i64 s.kind) := HX.out.cell 0
            go_cut [71] (fun s71 wx => s71 = .int .i64 s.kind ∧ wz = wx)
            case first =>
              go_wp2_with (fail)
              go_meet
              exact ⟨rfl, rfl⟩
            case rest =>
            obtain ⟨rfl, rfl⟩ := hcut
            clear z0
            apply_assumption
            go_cut [14, 71] (fun _ _ wx => ∃ y, oOps y ≤ oOps x + 8 ∧ Bo w (.pointer a) (.pointer b) m1.toNat y y wx)
            case first =>
              have HKK := Lib.hid (show oOps x ≤ 1000000000000 by have := HK.out; have := HI.out; omega)
              have HT := Lib.hid (HBO.out.made HBL.out)
              by_cases k0 : s.kind = 0
              · as_aux_lemma =>
                  have z2 : wz.cell? ⟨X, 2, none⟩ = some (.int .i64 s.n) := HX.out.cell 2
                  obtain ⟨j, hj⟩ : ∃ j : Nat, s.n % 6 = (j : Int) := ⟨(s.n % 6).toNat, by omega⟩
                  have hj6 : j < 6 := by omega
                  have HJ := Lib.hid hj6
                  have HC := Lib.hid (show Calls Try.prog 12 #[.int .i64 s.n, .int .i64 6] wz fun e w' => e = .returned (.int .i64 (j : Int)) ∧ wz = w' by rw [← hj]; exact mod_any s.n 6 (by omega) (by omega) wz)
                  clear hj hj6
                  go_wp2_with (fail)
                  refine HC.out.mono ?_
                  rintro e w3 ⟨rfl, rfl⟩
                  clear HC
                  go_wp2_with (fail)
                  go_loopw [13, 12] (fun cv av wq => JoAt wz j cv av wq) (fun cv _ _ => j - (intOf cv).toNat)
                  case atStart => exact ⟨0, ⟨#[]⟩, rfl, Nat.zero_le _, rfl, rfl, Below.refl _ _⟩
                  case round =>
                    obtain ⟨q, z, rfl, hq, rfl, hz, hbq⟩ := hrel
                    by_cases hlt : q < j
                    · have HBQ := Lib.hid hbq
                      have z3 : wr.cell? ⟨X, 3, none⟩ = some (.int .u8 (s.fill.toNat : Int)) := (HX.out.below hbq HSX.out.2).cell 3
                      have HZ := Lib.hid hz
                      have HJ2 := Lib.hid HJ.out
                      have hq5 : q < 6 := by have := HJ.out; omega
                      clear hbq
                      go_wp2_with (fail)
                      have hf := s.fill.toNat_lt
                      refine (block_int _ (by omega) (by omega) wr).mono ?_
                      rintro e w5 ⟨z', rfl, hz', hb5⟩
                      have HB5 := Lib.hid (HBQ.out.trans (hb5.mono HBQ.out.size))
                      have HA := Lib.hid (show (z ++ z').size = (q + 1) * 512 by rw [ByteArray.size_append, HZ.out, hz']; omega)
                      have hs1 : z.size ≤ 2560 := by have := HZ.out; omega
                      have hs2 : ¬ (9223372036854775807 < z.size + z'.size) := by omega
                      clear hb5 hf hs1
                      go_wp2_with (fail)
                      exact ⟨⟨q + 1, _, by go_num, hlt, rfl, HA.out, HB5.out⟩, by simp [intOf]; omega⟩
                    · obtain rfl : q = j := by omega
                      have HBQ := Lib.hid hbq
                      have HZ := Lib.hid hz
                      clear hbq hz hlt hq
                      have HT := Lib.hid (HT.out.more HBQ.out)
                      have HSZ := Lib.hid (show z.size ≤ 2560 by have := HZ.out; have := HJ.out; omega)
                      have HZZ := Lib.hid (show z.size ≤ 140737488355328 by have := HSZ.out; omega)
                      have d1 : wr.drew.cell? ⟨X, 1, none⟩ = some (.int .i64 s.pos) := (HT.out.blk HSX.out HX.out).cell 1
                      go_upto_region 19 with (fail)
                      go_cut [100] (fun s100 wx => s100 = .bool false ∧ ∃ y, oOps y ≤ oOps x + 8 ∧ Bo w (.pointer a) (.pointer b) m1.toNat y y wx)
                      case first =>
                        go_region_held3 (fun v => v.cell? ⟨X, 1, none⟩ = some (.int .i64 s.pos)) (first | exact g1 | exact e1 | exact d1) (first | (go_at_call 14; refine (tp_write HT.out.drew s.pos z HOK.out.pos HZZ.out HKK.out).mono ?_; rintro e w3 ⟨rfl, hh⟩; have T3 := Lib.hid hh; clear hh; have e1 : w3.cell? ⟨X, 1, none⟩ = some (.int .i64 s.pos) := (T3.out.blk HSX.out HX.out).cell 1) | (go_at_call 14; refine (tp_write T3.out s.pos z HOK.out.pos HZZ.out HKK.out).mono ?_; rintro e w4 ⟨rfl, hh⟩; have T4 := Lib.hid hh; clear hh; have g1 : w4.cell? ⟨X, 1, none⟩ = some (.int .i64 s.pos) := (T4.out.blk HSX.out HX.out).cell 1) | (go_at_call 15; refine (tq_write HT.out.drew s.pos z HZZ.out HKK.out).mono ?_; rintro e w3 ⟨rfl, hh⟩; have T3 := Lib.hid hh; clear hh; have e1 : w3.cell? ⟨X, 1, none⟩ = some (.int .i64 s.pos) := (T3.out.blk HSX.out HX.out).cell 1) | (go_at_call 15; refine (tq_write T3.out s.pos z HZZ.out HKK.out).mono ?_; rintro e w4 ⟨rfl, hh⟩; have T4 := Lib.hid hh; clear hh; have g1 : w4.cell? ⟨X, 1, none⟩ = some (.int .i64 s.pos) := (T4.out.blk HSX.out HX.out).cell 1))
                        all_goals (go_wp2_with (fail); go_meet; exact ⟨by simp, _, oWrite_ops _ _ _ (by have := HSZ.out; omega) x, T4.out.drop⟩)
                      case rest =>
                        obtain ⟨rfl, y, hy, hb⟩ := hcut
                        have HY := Lib.hid (And.intro hy hb)
                        clear hy hb
                        go_wp2_with (fail)
                        go_meet
                        exact ⟨y, HY.out.1, HY.out.2⟩
              by_cases k1 : s.kind = 1
              · as_aux_lemma =>
                  have z1 : wz.cell? ⟨X, 1, none⟩ = some (.int .i64 s.pos) := HX.out.cell 1
                  have z2 : wz.cell? ⟨X, 2, none⟩ = some (.int .i64 s.n) := HX.out.cell 2
                  go_wp2_with (fail)
                  refine (tp_read HT.out s.pos s.n HOK.out.pos).mono ?_
                  rintro e w3 ⟨rfl, h3⟩
                  have T3 := Lib.hid h3
                  clear h3
                  have e1 : w3.cell? ⟨X, 1, none⟩ = some (.int .i64 s.pos) := (T3.out.blk HSX.out HX.out).cell 1
                  have e2 : w3.cell? ⟨X, 2, none⟩ = some (.int .i64 s.n) := (T3.out.blk HSX.out HX.out).cell 2
                  go_wp2_with (fail)
                  refine (bq_read T3.out.drop s.pos s.n).mono ?_
                  rintro e w4 ⟨rfl, h4⟩
                  have T4 := Lib.hid h4
                  clear h4
                  go_wp2_with (fail)
                  go_meet
                  exact ⟨x, by omega, T4.out⟩
              by_cases k2 : s.kind = 2
              · as_aux_lemma =>
                  go_wp2_with (fail)
                  refine (bp_flush (HBO.out.more HBL.out) HKK.out).mono ?_
                  rintro e w3 ⟨rfl, h3⟩
                  have T3 := Lib.hid h3
                  clear h3
                  go_wp2_with (fail)
                  refine (bq_flush T3.out HKK.out).mono ?_
                  rintro e w4 ⟨rfl, h4⟩
                  have T4 := Lib.hid h4
                  clear h4
                  go_wp2_with (fail)
                  go_meet
                  exact ⟨_, oFlush_ops x, T4.out⟩
              by_cases k3 : s.kind = 3
              · as_aux_lemma =>
                  have z2 : wz.cell? ⟨X, 2, none⟩ = some (.int .i64 s.n) := HX.out.cell 2
                  go_wp2_with (fail)
                  refine (tp_arm HT.out s.n HOK.out.n).mono ?_
                  rintro e w3 ⟨rfl, h3⟩
                  have T3 := Lib.hid h3
                  clear h3
                  have e2 : w3.cell? ⟨X, 2, none⟩ = some (.int .i64 s.n) := (T3.out.blk HSX.out HX.out).cell 2
                  go_wp2_with (fail)
                  refine (bq_arm T3.out.drop s.n HOK.out.n).mono ?_
                  rintro e w4 ⟨rfl, h4⟩
                  have T4 := Lib.hid h4
                  clear h4
                  go_wp2_with (fail)
                  go_meet
                  exact ⟨_, oArm_ops s.n x, T4.out⟩
              by_cases k4 : s.kind = 4
              · as_aux_lemma =>
                  have z5 : wz.cell? ⟨X, 5, none⟩ = some (.slice s.A s.ks.length s.c) := HX.out.cell 5
                  have z5' : (wz.alloc (.cells #[] 3)).cell? ⟨X, 5, none⟩ = some (.slice s.A s.ks.length s.c) := (HX.out.alloc _).cell 5
                  have HN := Lib.hid (Nums.below ((HBO.out.more HBL.out).nums HOK.out.nums) ((Below.refl wz.heap.size wz).alloc (Nat.le_refl _) (.cells #[] 3)) rfl)
                  go_wp2_with (at_builtin; refine wpList_append_nums rfl (.tmp 148) (.tmp 150) rfl wz.heap.size (.slice (some ⟨wz.heap.size, 0, none⟩) 0 0) rfl (own_empty wz) s.A s.c s.ks rfl HN.out HOK.out.few (by simp) ?_; intro A3 c3 w5 hn3 hg3 hb3; have H5 := Lib.hid hn3; have HG5 := Lib.hid hg3; have HB5 := Lib.hid hb3; clear hn3 hg3 hb3)
                  have HBZ := Lib.hid (below_grown HG5.out (fun k hk => Nat.le_of_eq (Option.some.inj hk)))
                  have HX5 := Lib.hid (HX.out.below HBZ.out HSX.out.2)
                  have HT5 := Lib.hid (HBO.out.made (HBL.out.trans (HBZ.out.mono HBL.out.size)))
                  have HS5 := Lib.hid (show Made wr w5 X from ⟨HSX.out.1, Nat.lt_of_lt_of_le HSX.out.2 HBZ.out.size⟩)
                  have HO5 := Lib.hid (show 0 < s.ks.length → ∀ a, A3 = some a → Made wr w5 a.block from fun hn a ha => ⟨Nat.le_trans HBL.out.size (HB5.out hn a ha), Nums.lt H5.out hn a ha⟩)
                  have HLK := Lib.hid (show s.ks.length ≤ maxLen by have := HOK.out.few; unfold maxLen; omega)
                  refine (tp_crash HT5.out HKK.out A3 c3 s.ks H5.out HO5.out HLK.out).mono ?_
                  rintro e w6 ⟨rfl, h6⟩
                  have T6 := Lib.hid h6
                  clear h6
                  have e6 : w6.cell? ⟨X, 5, none⟩ = some (.slice s.A s.ks.length s.c) := (T6.out.blk HS5.out HX5.out).cell 5
                  go_wp2_with (fail)
                  refine (tq_crash T6.out HKK.out s.A s.c s.ks (T6.out.drop.nums HOK.out.nums) (fun hn a ha => Nums.lt HOK.out.nums hn a ha) HLK.out).mono ?_
                  rintro e w7 ⟨rfl, h7⟩
                  have T7 := Lib.hid h7
                  clear h7
                  have e7 : w7.cell? ⟨X, 5, none⟩ = some (.slice s.A s.ks.length s.c) := (T7.out.blk HS5.out HX5.out).cell 5
                  go_wp2_with (fail)
                  refine (ints_any w7 A3 s.A c3 s.c s.ks (T7.out.nums H5.out HO5.out) (T7.out.drop.nums HOK.out.nums) HOK.out.few).mono ?_
                  rintro e w8 ⟨rfl, hb8⟩
                  have T8 := Lib.hid (T7.out.drop.more hb8)
                  clear hb8
                  go_wp2_with (fail)
                  go_meet
                  exact ⟨_, oCrash_ops s.ks x, T8.out⟩
              by_cases k5 : s.kind = 5
              · as_aux_lemma =>
                  have z4 : wz.cell? ⟨X, 4, none⟩ = some (.string s.data) := HX.out.cell 4
                  have z1 : wz.cell? ⟨X, 1, none⟩ = some (.int .i64 s.pos) := HX.out.cell 1
                  have d4 : wz.drew.cell? ⟨X, 4, none⟩ = some (.string s.data) := HX.out.cell 4
                  have d1 : wz.drew.cell? ⟨X, 1, none⟩ = some (.int .i64 s.pos) := HX.out.cell 1
                  by_cases hsz : s.data.size ≤ 3000
                  · have HSZ := Lib.hid hsz
                    have hsz' : (s.data.size : Int) ≤ 3000 := by omega
                    clear hsz
                    go_upto_region 39 with (fail)
                    go_cut [184, 71, 72, 73, 101, 102, 129, 130, 136, 137, 146, 147, 164, 165] (fun s184 _ _ _ _ _ _ _ _ _ _ _ _ _ wx => s184 = .bool false ∧ ∃ y, oOps y ≤ oOps x + 8 ∧ Bo w (.pointer a) (.pointer b) m1.toNat y y wx)
                    case first =>
                      have HZZ := Lib.hid HOK.out.data
                      go_region_held3 (fun v => v.cell? ⟨X, 1, none⟩ = some (.int .i64 s.pos) ∧ v.cell? ⟨X, 4, none⟩ = some (.string s.data)) (first | exact ⟨g1, g4⟩ | exact ⟨e1, e4⟩ | exact ⟨d1, d4⟩) (first | (go_at_call 14; refine (tp_write HT.out.drew s.pos s.data HOK.out.pos HZZ.out HKK.out).mono ?_; rintro e w3 ⟨rfl, hh⟩; have T3 := Lib.hid hh; clear hh; have e1 : w3.cell? ⟨X, 1, none⟩ = some (.int .i64 s.pos) := (T3.out.blk HSX.out HX.out).cell 1; have e4 : w3.cell? ⟨X, 4, none⟩ = some (.string s.data) := (T3.out.blk HSX.out HX.out).cell 4) | (go_at_call 14; refine (tp_write T3.out s.pos s.data HOK.out.pos HZZ.out HKK.out).mono ?_; rintro e w4 ⟨rfl, hh⟩; have T4 := Lib.hid hh; clear hh; have g1 : w4.cell? ⟨X, 1, none⟩ = some (.int .i64 s.pos) := (T4.out.blk HSX.out HX.out).cell 1; have g4 : w4.cell? ⟨X, 4, none⟩ = some (.string s.data) := (T4.out.blk HSX.out HX.out).cell 4) | (go_at_call 15; refine (tq_write HT.out.drew s.pos s.data HZZ.out HKK.out).mono ?_; rintro e w3 ⟨rfl, hh⟩; have T3 := Lib.hid hh; clear hh; have e1 : w3.cell? ⟨X, 1, none⟩ = some (.int .i64 s.pos) := (T3.out.blk HSX.out HX.out).cell 1; have e4 : w3.cell? ⟨X, 4, none⟩ = some (.string s.data) := (T3.out.blk HSX.out HX.out).cell 4) | (go_at_call 15; refine (tq_write T3.out s.pos s.data HZZ.out HKK.out).mono ?_; rintro e w4 ⟨rfl, hh⟩; have T4 := Lib.hid hh; clear hh; have g1 : w4.cell? ⟨X, 1, none⟩ = some (.int .i64 s.pos) := (T4.out.blk HSX.out HX.out).cell 1; have g4 : w4.cell? ⟨X, 4, none⟩ = some (.string s.data) := (T4.out.blk HSX.out HX.out).cell 4))
                      all_goals (go_wp2_with (fail); go_meet; exact ⟨by simp, _, oWrite_ops _ _ _ (by have := HSZ.out; omega) x, T4.out.drop⟩)
                    case rest =>
                      obtain ⟨rfl, y, hy, hb⟩ := hcut
                      have HY := Lib.hid (And.intro hy hb)
                      clear hy hb
                      go_wp2_with (fail)
                      go_meet
                      exact ⟨y, HY.out.1, HY.out.2⟩
                  · have hsz' : ¬ ((s.data.size : Int) ≤ 3000) := by omega
                    have hd : decide ((s.data.size : Int) ≤ 3000) = false := by simp; omega
                    clear hsz
                    go_upto_region 39 with (fail)
                    go_region
                    go_wp2_with (fail)
                    go_meet
                    exact ⟨x, by omega, (HBO.out.more HBL.out).drew⟩
              · go_wp2_with (fail)
                go_meet
                exact ⟨x, by omega, HBO.out.more HBL.out⟩
            case rest =>
              as_aux_lemma =>
                obtain ⟨y, hy, hb⟩ := hcut
                have HY := Lib.hid hy
                have H3 := Lib.hid hb
                clear hy hb
                go_wp2_with (fail)
                refine (bp_ops H3.out).mono ?_
                rintro e w3 ⟨rfl, rfl⟩
                go_wp2_with (fail)
                refine (bq_ops H3.out).mono ?_
                rintro e w3 ⟨rfl, rfl⟩
                go_wp2_with (fail)
                refine (bp_down H3.out).mono ?_
                rintro e w3 ⟨rfl, rfl⟩
                go_wp2_with (fail)
                refine (bq_down H3.out).mono ?_
                rintro e w3 ⟨rfl, rfl⟩
                go_wp2_with (fail)
                refine (bp_held H3.out).mono ?_
                rintro e w3 ⟨rfl, rfl⟩
                go_wp2_with (fail)
                refine (bq_held H3.out).mono ?_
                rintro e w3 ⟨rfl, rfl⟩
                go_wp2_with (fail)
                exact ⟨⟨i + 1, y, by go_num, HIL.out, HI.out, by have := HY.out; have := HK.out; omega, H3.out⟩, by simp [intOf]; omega⟩
          · as_aux_lemma =>
              have HBO := Lib.hid hb
              have HK := Lib.hid hops
              have HI := Lib.hid h60
              have HKK := Lib.hid (show oOps x ≤ 1000000000000 by omega)
              clear hb hops
              go_upto_region 8 with (fail)
              go_cut [63] (fun s63 wx => s63 = .bool false ∧ wr = wx)
              case first =>
                by_cases hx1 : i < ss.length
                · have hx2 : ¬ ((i : Int) < 60) := by omega
                  have hx3 : (i : Int) < (ss.length : Int) := by omega
                  go_wp2_with (fail)
                  go_meet
                  exact ⟨rfl, rfl⟩
                · have hx3 : ¬ ((i : Int) < (ss.length : Int)) := by omega
                  go_wp2_with (fail)
                  go_meet
                  exact ⟨rfl, rfl⟩
              case rest =>
                obtain ⟨rfl, rfl⟩ := hcut
                go_wp2_with (fail)
                refine (bp_crash HBO.out (Below.refl _ _) HKK.out none 0 [] (nums_nil _) (fun h => absurd h (Nat.not_lt_zero _)) (Nat.zero_le _)).mono ?_
                rintro e w3 ⟨rfl, h3⟩
                have T3 := Lib.hid h3
                clear h3
                go_wp2_with (fail)
                refine (bq_crash T3.out HKK.out none 0 [] (nums_nil _) (fun h => absurd h (Nat.not_lt_zero _)) (Nat.zero_le _)).mono ?_
                rintro e w4 ⟨rfl, h4⟩
                have T4 := Lib.hid h4
                clear h4
                generalize oCrash [] x = y at *
                go_wp2_with (fail)
                refine (bp_size T4.out).mono ?_
                rintro e w5 ⟨rfl, rfl⟩
                go_wp2_with (fail)
                refine (bp_read T4.out 0 _ (by omega)).mono ?_
                rintro e w5 ⟨rfl, h5⟩
                have T5 := Lib.hid h5
                clear h5
                go_wp2_with (fail)
                refine (bq_size T5.out).mono ?_
                rintro e w6 ⟨rfl, rfl⟩
                go_wp2_with (fail)
                refine (bq_read T5.out 0 _).mono ?_
                rintro e w6 ⟨rfl, h6⟩
                have T6 := Lib.hid h6
                clear h6
                go_wp2_with (fail)
                refine (wakes_any _).mono ?_
                rintro e w7 ⟨rfl, hb7⟩
                have T7 := Lib.hid (T6.out.more hb7)
                clear hb7
                go_wp2_with (fail)
                go_ret
                exact ⟨rfl, T7.out.below⟩
end Go.Proofs.Ytlcaokgdbocmiaa
