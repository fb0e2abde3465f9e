/- The document's Parse. -/
import Derived.Test.YtdopcliicjmjeaaExPb
import Derived.Test.YtdopcliicjmjeaaExH
namespace Go.Proofs.Ytdopcliicjmjeaa
open Go.RowKit
set_option maxHeartbeats 2000000 in
theorem refParse_any (s : ByteArray) (w : World) (hs : s.size ≤ maxLen) :
    Calls Try.prog 26 #[.string s] w fun e w' => ∃ A c, e = .returned (.tuple #[.slice A (parseR s).1.length c, .int .i64 (parseR s).2]) ∧ Exts w' A (parseR s).1 ∧ Below w.heap.size w w' := by
  have HB := Lib.hid (fun v => show Calls Try.prog 41 #[.string s, .int .i64 0, .int .i64 4] v fun e w' => e = .returned (.tuple #[.int .u64 (n4 s 0 : Nat), .bool (okB s 0 4)]) ∧ v = w' from refBig_any s 0 4 v hs)
  have hl := n4_lt s 0
  have hs' := hs
  unfold maxLen at hs'
  by_cases hok : okB s 0 4 = true
  · by_cases hn : n4 s 0 ≤ 4096
    · by_cases hz : s.size = 4 + 12 * n4 s 0
      · have HSO := Lib.hid (show SizeOk s from ⟨hok, hn, hz⟩)
        have HY := Lib.hid (fun h => parse_yes HSO.out h)
        have HN := Lib.hid (fun h => parse_bad (s := s) h)
        rw [hok] at HB
        obtain ⟨n, hn0⟩ : ∃ n, n4 s 0 = n := ⟨_, rfl⟩
        rw [hn0] at HB HY HN hn hz hl
        obtain ⟨r, hr⟩ : ∃ r, parseR s = r := ⟨_, rfl⟩
        rw [hr] at HY HN ⊢
        clear hr hn0 hok
        have hgt : decide (((n : Nat) : Int) > 4096) = false := decide_eq_false (by omega)
        have hw1 : IntKind.i64.wrap ((n : Nat) : Int) = ((n : Nat) : Int) := i64w _ (by omega)
        have hw2 : IntKind.i64.wrap (12 * ((n : Nat) : Int)) = 12 * ((n : Nat) : Int) := i64w _ (by omega)
        have hw3 : IntKind.i64.wrap (4 + 12 * ((n : Nat) : Int)) = 4 + 12 * ((n : Nat) : Int) := i64w _ (by omega)
        have hne : (((s.size : Nat) : Int) != 4 + 12 * ((n : Nat) : Int)) = false := by rw [bne_eq_false_iff_eq]; omega
        clear hz
        obtain ⟨i0, hi0, hz0, hz1, hz2⟩ := info_parts info32
        go_enter Try.func26, Try.ntmps26
        go_wp2_with (fail)
        refine (HB.out _).mono ?_; rintro e w1 ⟨rfl, hww⟩
        cases hww
        go_wp2_with (fail)
        go_loopw [6, 7] (fun v i wr => ∃ k : Nat, i = .int .i64 k ∧ k ≤ n ∧ wr.ownsRow w.heap.size 32 3 v (listX s k).length (exCells (listX s k)) ∧ Below w.heap.size w wr) (fun _ i _ => n - (intOf i).toNat)
        case atStart => exact ⟨0, rfl, Nat.zero_le _, World.ownsRow_nil _ _ _ _, Below.refl _ _⟩
        case round =>
          obtain ⟨k, rfl, hk, hrow, hb⟩ := hrel
          have HBK := Lib.hid hb; have HROW := Lib.hid hrow
          obtain ⟨A, c, rfl⟩ := own_form hrow
          clear hb hrow
          by_cases hlt : k < n
          · have hki : (k : Int) < n := by omega
            have hw4 : IntKind.i64.wrap (12 * (k : Int)) = 12 * (k : Int) := i64w _ (by omega)
            have hw5 : IntKind.i64.wrap (4 + 12 * (k : Int)) = 4 + 12 * (k : Int) := i64w _ (by omega)
            have hw6 : IntKind.i64.wrap (8 + 12 * (k : Int)) = 8 + 12 * (k : Int) := i64w _ (by omega)
            have hw7 : IntKind.i64.wrap (12 + 12 * (k : Int)) = 12 + 12 * (k : Int) := i64w _ (by omega)
            have HC0 := Lib.hid (fun v => show Calls Try.prog 41 #[.string s, .int .i64 (4 + 12 * (k : Int)), .int .i64 4] v fun e w' => e = .returned (.tuple #[.int .u64 (exR s k).l, .bool (okB s (4 + 12 * (k : Int)) 4)]) ∧ v = w' from refBig_any s _ 4 v hs)
            have HC1 := Lib.hid (fun v => show Calls Try.prog 41 #[.string s, .int .i64 (8 + 12 * (k : Int)), .int .i64 4] v fun e w' => e = .returned (.tuple #[.int .u64 (exR s k).b, .bool (okB s (8 + 12 * (k : Int)) 4)]) ∧ v = w' from refBig_any s _ 4 v hs)
            have HC2 := Lib.hid (fun v => show Calls Try.prog 41 #[.string s, .int .i64 (12 + 12 * (k : Int)), .int .i64 4] v fun e w' => e = .returned (.tuple #[.int .u64 (exR s k).a, .bool (okB s (12 + 12 * (k : Int)) 4)]) ∧ v = w' from refBig_any s _ 4 v hs)
            have hwf := exR_wf s k
            have HPN := Lib.hid (listX_succ s k)
            have hll := listX_length s k
            obtain ⟨y, hy⟩ : ∃ y, exR s k = y := ⟨_, rfl⟩
            rw [hy] at HC0 HC1 HC2 hwf HPN
            obtain ⟨Q, hQ⟩ : ∃ Q, listX s k = Q := ⟨_, rfl⟩
            rw [hQ] at HROW HPN hll
            rw [hQ]
            generalize okB s (4 + 12 * (k : Int)) 4 = b0 at HC0
            generalize okB s (8 + 12 * (k : Int)) 4 = b1 at HC1
            generalize okB s (12 + 12 * (k : Int)) 4 = b2 at HC2
            obtain ⟨f1, f2, f3, f4, f5, f6⟩ := hwf
            have hy1 : IntKind.i64.wrap y.l = y.l := i64w _ ⟨f1, f2⟩
            have hy2 : IntKind.i64.wrap y.b = y.b := i64w _ ⟨f3, f4⟩
            have hy3 : IntKind.i64.wrap y.a = y.a := i64w _ ⟨f5, f6⟩
            have HM1 := Lib.hid (show Q.length + 1 ≤ maxLen by unfold maxLen; omega)
            have HM2 := Lib.hid (show (Q.length + 1) * 24 ≤ 140737488355328 by omega)
            have HKN := Lib.hid hlt
            clear hy hQ f1 f2 f3 f4 f5 f6 hll
            go_wp2_with (fail)
            refine (HC0.out _).mono ?_; rintro e w1 ⟨rfl, hww⟩; cases hww
            go_wp2_with (fail)
            refine (HC1.out _).mono ?_; rintro e w1 ⟨rfl, hww⟩; cases hww
            go_wp2_with (fail)
            refine (HC2.out _).mono ?_; rintro e w1 ⟨rfl, hww⟩; cases hww
            have hbld := build32 y.l y.b y.a wr
            have HO := Lib.hid (HROW.out.alloc (.cells #[.int .i64 y.l, .int .i64 y.b, .int .i64 y.a] 32))
            have HM3 := Lib.hid (show w.heap.size ≤ (World.alloc wr (.cells #[.int .i64 y.l, .int .i64 y.b, .int .i64 y.a] 32)).heap.size by have := HBK.out.size; simp only [World.size_alloc]; omega)
            go_wp2_with (at_builtin; refine wpList_append_own_at _ rfl (.tmp 64) (.tmp 72) 22 rfl w.heap.size 32 i0 _ 3 24 Try.underlying22 hi0 hz0 hz1 hz2 rfl (by omega) (.slice A Q.length c) Q.length (exCells Q) rfl HO.out _ 1 1 [.int .i64 y.l, .int .i64 y.b, .int .i64 y.a] rfl rfl (cells_three _ _ _ _ _) three_cells HM1.out HM2.out HM3.out ?_; intro v4 w4 hown4 hg4 hn4 hat4; have HW4 := Lib.hid hown4; have HG4 := Lib.hid hg4; clear hown4 hg4 hn4 hat4)
            have HB4 := Lib.hid ((HBK.out.alloc HBK.out.size _).grown HG4.out HM3.out (fun g hg => (HROW.out.lt g hg).1))
            go_roundw
            case rel => exact ⟨k + 1, by go_num, HKN.out, by rw [HPN.out, exCells_snoc, List.length_append]; exact HW4.out, HB4.out⟩
            case measure => have := HKN.out; simp [intOf]; omega
          · obtain rfl : k = n := by omega
            obtain ⟨A', c', he, hx, _⟩ := exts_of_own HROW.out (fun x hx => by
              obtain ⟨j, _, rfl⟩ := List.mem_map.1 hx
              exact exR_wf s j)
            injection he with hA _ hc
            subst hA; subst hc
            have HE := Lib.hid hx
            clear hx
            have HGD := Lib.hid (fun v (h : Exts v A (listX s k)) => refGood_any A c (listX s k) v h)
            by_cases hgd : goodB (listX s k) = true
            · have hrr := HY.out hgd
              subst hrr
              rw [hgd] at HGD
              go_wp2_with (fail)
              refine (HGD.out _ HE.out).mono ?_; rintro e w2 ⟨rfl, hb2⟩
              have HB2 := Lib.hid (HBK.out.trans (hb2.mono HBK.out.size))
              have HE2 := Lib.hid (HE.out.below hb2)
              clear hb2
              go_wp2_with (fail)
              go_ret2
              first | exact ⟨A, c, rfl, HE2.out, HB2.out⟩ | exact ⟨A, ⟨c, rfl⟩, HE2.out, HB2.out⟩
            · have hgd : goodB (listX s k) = false := by simpa using hgd
              have hrr := HN.out hgd
              subst hrr
              rw [hgd] at HGD
              go_wp2_with (fail)
              refine (HGD.out _ HE.out).mono ?_; rintro e w2 ⟨rfl, hb2⟩
              have HB2 := Lib.hid (HBK.out.trans (hb2.mono HBK.out.size))
              clear hb2
              go_wp2_with (fail)
              go_ret2
              first | exact ⟨none, 0, rfl, Exts.nil _ _, HB2.out⟩ | exact ⟨none, ⟨0, rfl⟩, Exts.nil _ _, HB2.out⟩
      · rw [parse_no (fun h => hz h.2.2)]
        rw [hok] at HB
        generalize n4 s 0 = n at *
        have hgt : decide (((n : Nat) : Int) > 4096) = false := decide_eq_false (by omega)
        have hw1 : IntKind.i64.wrap ((n : Nat) : Int) = ((n : Nat) : Int) := i64w _ (by omega)
        have hw2 : IntKind.i64.wrap (12 * ((n : Nat) : Int)) = 12 * ((n : Nat) : Int) := i64w _ (by omega)
        have hw3 : IntKind.i64.wrap (4 + 12 * ((n : Nat) : Int)) = 4 + 12 * ((n : Nat) : Int) := i64w _ (by omega)
        have hne : (((s.size : Nat) : Int) != 4 + 12 * ((n : Nat) : Int)) = true := by rw [bne_iff_ne]; omega
        clear hz
        go_enter Try.func26, Try.ntmps26
        go_wp2_with (fail)
        refine (HB.out _).mono ?_; rintro e w1 ⟨rfl, hww⟩; cases hww
        go_wp2_with (fail)
        go_ret2
        first | exact ⟨none, 0, rfl, Exts.nil _ _, Below.refl _ _⟩ | exact ⟨none, ⟨0, rfl⟩, Exts.nil _ _, Below.refl _ _⟩
    · rw [parse_no (fun h => hn h.2.1)]
      rw [hok] at HB
      generalize n4 s 0 = n at *
      have hgt : decide (((n : Nat) : Int) > 4096) = true := decide_eq_true (by omega)
      go_enter Try.func26, Try.ntmps26
      go_wp2_with (fail)
      refine (HB.out _).mono ?_; rintro e w1 ⟨rfl, hww⟩; cases hww
      go_wp2_with (fail)
      go_ret2
      first | exact ⟨none, 0, rfl, Exts.nil _ _, Below.refl _ _⟩ | exact ⟨none, ⟨0, rfl⟩, Exts.nil _ _, Below.refl _ _⟩
  · rw [parse_no (fun h => hok h.1)]
    rw [show okB s 0 4 = false by simpa using hok] at HB
    generalize n4 s 0 = n at *
    go_enter Try.func26, Try.ntmps26
    go_wp2_with (fail)
    refine (HB.out _).mono ?_; rintro e w1 ⟨rfl, hww⟩; cases hww
    go_wp2_with (fail)
    go_ret2
    first | exact ⟨none, 0, rfl, Exts.nil _ _, Below.refl _ _⟩ | exact ⟨none, ⟨0, rfl⟩, Exts.nil _ _, Below.refl _ _⟩
end Go.Proofs.Ytdopcliicjmjeaa
