/- The document's Set where it refuses; its Drop; what wakes. -/
import Derived.Test.YtdopcliicjmjeaaExH
namespace Go.Proofs.Ytdopcliicjmjeaa
open Go.RowKit
set_option maxRecDepth 100000 in
set_option maxHeartbeats 2000000 in
theorem refSet_no (A : Option Addr) (c : Nat) (l : List Ex) (x : Ex) (w : World) (hl : Exts w A l) (hx : x.Wf) (hno : (goodB l && fitsB x) = false) :
    Calls Try.prog 20 #[.slice A l.length c, exV x] w fun e w' => e = .returned (.tuple #[.slice none 0 0, .int .i64 70]) ∧ Below w.heap.size w w' := by
  have HGA := Lib.hid (fun v (h : Exts v A l) => refGood_any A c l v h)
  have HO := Lib.hid (fun v => one_any x hx v)
  obtain ⟨hb1, hb2⟩ := one_box w x _ rfl
  have HX := Lib.hid hb1; have HB := Lib.hid hb2
  have HL0 := Lib.hid hl
  clear hl hb1 hb2
  unfold exV at HO ⊢
  go_enter Try.func20, Try.ntmps20
  go_upto_region 1 with (fail)
  change Code.wp _ _ _ _ (w.alloc (.cells #[.int .i64 x.l, .int .i64 x.b, .int .i64 x.a] 32))
  generalize w.alloc (.cells #[.int .i64 x.l, .int .i64 x.b, .int .i64 x.a] 32) = w0 at *
  have HL := Lib.hid (HL0.out.below HB.out)
  cases hg : goodB l with
  | false =>
    rw [hg] at HGA
    clear hg hno
    go_wp2_with (fail)
    refine (HGA.out _ HL.out).mono ?_; rintro e w1 ⟨rfl, hb1⟩
    have HB1 := Lib.hid (HB.out.trans (hb1.mono HB.out.size))
    clear hb1
    have hnt := not_false w1
    go_wp2_with (fail)
    go_ret2
    exact ⟨rfl, HB1.out⟩
  | true =>
    have hf : fitsB x = false := by rw [hg] at hno; simpa using hno
    rw [hg] at HGA
    rw [hf] at HO
    clear hg hno hf
    go_wp2_with (fail)
    refine (HGA.out _ HL.out).mono ?_; rintro e w1 ⟨rfl, hb1⟩
    have HB1 := Lib.hid (HB.out.trans (hb1.mono HB.out.size))
    obtain ⟨a0, a1, a2⟩ := blk_cells3 HX.out hb1
    clear hb1
    have hnt := not_true w1
    go_wp2_with (fail)
    refine (HO.out _).mono ?_; rintro e w2 ⟨rfl, hb2⟩
    have HB2 := Lib.hid (HB1.out.trans (hb2.mono HB1.out.size))
    clear hb2 hnt a0 a1 a2
    have hnt := not_false w2
    go_wp2_with (fail)
    go_ret2
    exact ⟨rfl, HB2.out⟩
set_option maxRecDepth 100000 in
set_option maxHeartbeats 2000000 in
theorem refDrop_ok (A : Option Addr) (c : Nat) (l : List Ex) (lba n : Int) (w : World) (hl : Exts w A l) (hg : goodB l = true) (h1 : 0 ≤ lba) (h2 : 0 ≤ n) (h3 : n ≤ 4096 - lba) :
    Calls Try.prog 22 #[.slice A l.length c, .int .i64 lba, .int .i64 n] w fun e w' => ∃ A' c', e = .returned (.tuple #[.slice A' (dropX l lba n).length c', .int .i64 0]) ∧ Exts w' A' (dropX l lba n) ∧ Below w.heap.size w w' := by
  have HGA := Lib.hid (fun v (h : Exts v A l) => refGood_any A c l v h)
  have HSP := Lib.hid (fun v (h : Exts v A l) => spread_any A c l v h hg)
  obtain ⟨gs1, gs2⟩ := gath_drop hg h1 h2 h3
  have HGS := Lib.hid (fun g v (h : Blk v g 3 (Arr (cutM (mX l) lba n))) => gather_any g _ v h gs1 _ gs2)
  obtain ⟨L, hL⟩ : ∃ L : Nat, lba = L := ⟨lba.toNat, by omega⟩
  have HFF := Lib.hid (And.intro h1 (And.intro h2 h3))
  have HLL := Lib.hid hL
  have HL := Lib.hid hl
  rw [hg] at HGA
  have g1 : ¬ lba < 0 := by omega
  have g2 : ¬ n < 0 := by omega
  have g3 : ¬ n > 4096 - lba := by omega
  have g4 : ¬ lba > 4096 := by omega
  have e1 : IntKind.i64.wrap (4096 - lba) = 4096 - lba := i64w _ (by omega)
  clear hl hg gs1 gs2 hL h1 h2 h3
  go_enter Try.func22, Try.ntmps22
  go_wp2_with (fail)
  refine (HGA.out _ HL.out).mono ?_; rintro e w1 ⟨rfl, hb1⟩
  have HL1 := Lib.hid (HL.out.below hb1)
  have HB1 := Lib.hid hb1
  clear hb1
  have hnt := not_true w1
  go_wp2_with (fail)
  refine (HSP.out _ HL1.out).mono ?_; rintro e w3 ⟨g, rfl, hk3, hgs, hb3⟩
  have HB3 := Lib.hid (HB1.out.trans (hb3.mono HB1.out.size))
  have HK3 := Lib.hid hk3
  have HGW := Lib.hid (show w.heap.size ≤ g from Nat.le_trans HB1.out.size hgs)
  clear hb3 hk3 hgs hnt g1 g2 g3 g4 e1
  go_wp2_with (fail)
  go_loopw [9] (fun i v => ∃ j : Nat, i = .int .i64 j ∧ (j : Int) ≤ n ∧ Blk v g 3 (Arr (cutM (mX l) lba j)) ∧ Below w.heap.size w v) (fun i _ => n.toNat - (intOf i).toNat)
  case atStart => exact ⟨0, rfl, by have := HFF.out; show (0 : Int) ≤ n; omega, by rw [show ((0 : Nat) : Int) = 0 from rfl, cutM_zero]; exact HK3.out, HB3.out⟩
  case round =>
    obtain ⟨j, rfl, hj, hbk, hb⟩ := hrel
    have HV := Lib.hid hb; have HKV := Lib.hid hbk
    clear hb hbk
    have hff := HFF.out
    have hL := HLL.out
    by_cases hjl : (j : Int) < n
    · have e1 : IntKind.i64.wrap (lba + j) = (L : Int) + (j : Int) := by rw [IntKind.wrap_i64]; omega
      have hLj : L + j < 4096 := by omega
      have hLi : (L : Int) + (j : Int) < 4096 := by omega
      have hL0 : 0 ≤ (L : Int) + (j : Int) := by omega
      have hto : ((L : Int) + (j : Int)).toNat = L + j := by omega
      have d0 : wr.cell? ⟨g, L + j, none⟩ = some (.int .i64 (cutM (mX l) lba j (L + j))) := by rw [HKV.out.cell]; exact arr_at _ _ hLj
      have d1 := HKV.out.free (L + j)
      have HSET := Lib.hid (show (Arr (cutM (mX l) lba j)).setIfInBounds (L + j) (.int .i64 0) = Arr (cutM (mX l) lba ((j : Int) + 1)) by
        rw [arr_set _ _ hLj, ← cutM_succ (mX l) lba j (by omega), show (lba + j).toNat = L + j by omega])
      have HK2 := Lib.hid (show Blk (wr.setCell ⟨g, L + j, none⟩ (.int .i64 0)) g 3 (Arr (cutM (mX l) lba ((j : Int) + 1))) by
        rw [← HSET.out]; exact Blk.put HKV.out (L + j) _)
      have HV2 := Lib.hid (HV.out.setCell (p := ⟨g, L + j, none⟩) HGW.out (.int .i64 0))
      clear hff hL
      generalize cutM (mX l) lba j (L + j) = old at *
      go_wp2_with (fail)
      go_roundw
      case rel => exact ⟨j + 1, by go_num, by omega, HK2.out, HV2.out⟩
      case measure => simp [intOf]; omega
    · have HKE := Lib.hid (show Blk wr g 3 (Arr (cutM (mX l) lba n)) by rw [show n = (j : Int) by omega]; exact HKV.out)
      have HGA := Lib.hid (HGS.out g wr HKE.out)
      clear hff hL
      go_wp2_with (fail)
      refine HGA.out.mono ?_; rintro e w5 ⟨A', c', rfl, hx5, hb5⟩
      have HX5 := Lib.hid hx5
      have HB5 := Lib.hid (HV.out.trans (hb5.mono HV.out.size))
      clear hx5 hb5
      go_wp2_with (fail)
      go_ret2
      exact ⟨_, _, rfl, HX5.out, HB5.out⟩
set_option maxRecDepth 100000 in
set_option maxHeartbeats 2000000 in
theorem refDrop_no (A : Option Addr) (c : Nat) (l : List Ex) (lba n : Int) (w : World) (hl : Exts w A l) (hb : goodB l = false ∨ lba < 0 ∨ n < 0 ∨ 4096 - lba < n) (hw1 : -9223372036854775808 ≤ lba ∧ lba ≤ 9223372036854775807) :
    Calls Try.prog 22 #[.slice A l.length c, .int .i64 lba, .int .i64 n] w fun e w' => e = .returned (.tuple #[.slice none 0 0, .int .i64 70]) ∧ Below w.heap.size w w' := by
  have HL := Lib.hid hl
  clear hl
  have HGA := Lib.hid (fun v (h : Exts v A l) => refGood_any A c l v h)
  go_enter Try.func22, Try.ntmps22
  cases hg : goodB l with
  | false =>
    rw [hg] at HGA
    clear hg hb
    go_wp2_with (fail)
    refine (HGA.out _ HL.out).mono ?_; rintro e w1 ⟨rfl, hb1⟩
    have HB1 := Lib.hid hb1
    clear hb1
    have hnt := not_false w1
    go_wp2_with (fail)
    go_ret2
    exact ⟨rfl, HB1.out⟩
  | true =>
    rw [hg] at HGA hb
    clear hg
    go_wp2_with (fail)
    refine (HGA.out _ HL.out).mono ?_; rintro e w1 ⟨rfl, hb1⟩
    have HB1 := Lib.hid hb1
    clear hb1
    have hnt := not_true w1
    by_cases g1 : lba < 0
    · clear hb
      go_wp2_with (fail)
      go_ret2
      exact ⟨rfl, HB1.out⟩
    · by_cases g2 : n < 0
      · clear hb
        go_wp2_with (fail)
        go_ret2
        exact ⟨rfl, HB1.out⟩
      · by_cases g4 : lba > 4096
        · clear hb
          go_wp2_with (fail)
          go_ret2
          exact ⟨rfl, HB1.out⟩
        · have g3 : n > 4096 - lba := by
            rcases hb with h | h | h | h
            · cases h
            · omega
            · omega
            · omega
          have e1 : IntKind.i64.wrap (4096 - lba) = 4096 - lba := i64w _ (by omega)
          clear hb
          go_wp2_with (fail)
          go_ret2
          exact ⟨rfl, HB1.out⟩
set_option maxHeartbeats 1000000 in
theorem large_any (A : Option Addr) (c n : Nat) (w : World) : Calls Try.prog 9 #[.slice A n c] w fun e w' => e = .returned (.bool (decide ((300 < n ∧ n ≤ 4096) ∨ 5000 < n))) ∧ w = w' := by
  obtain ⟨r, hr⟩ : ∃ r, decide ((300 < n ∧ n ≤ 4096) ∨ 5000 < n) = r := ⟨_, rfl⟩
  rw [hr]
  go_enter Try.func9, Try.ntmps9
  by_cases h1 : 300 < n
  · have i1 : (300 : Int) < (n : Int) := by omega
    by_cases h2 : n ≤ 4096
    · have i2 : (n : Int) ≤ 4096 := by omega
      obtain rfl : r = true := by rw [← hr]; exact decide_eq_true (.inl ⟨h1, h2⟩)
      clear hr
      go_wp2_with (fail)
      go_ret
      exact ⟨rfl, rfl⟩
    · have i2 : ¬ (n : Int) ≤ 4096 := by omega
      by_cases h3 : 5000 < n
      · have i3 : (5000 : Int) < (n : Int) := by omega
        obtain rfl : r = true := by rw [← hr]; exact decide_eq_true (.inr h3)
        clear hr
        go_wp2_with (fail)
        go_ret
        exact ⟨rfl, rfl⟩
      · have i3 : ¬ (5000 : Int) < (n : Int) := by omega
        obtain rfl : r = false := by rw [← hr]; exact decide_eq_false (by omega)
        clear hr
        go_wp2_with (fail)
        go_ret
        exact ⟨rfl, rfl⟩
  · have i1 : ¬ (300 : Int) < (n : Int) := by omega
    have i3 : ¬ (5000 : Int) < (n : Int) := by omega
    obtain rfl : r = false := by rw [← hr]; exact decide_eq_false (by omega)
    clear hr
    go_wp2_with (fail)
    go_ret
    exact ⟨rfl, rfl⟩
end Go.Proofs.Ytdopcliicjmjeaa
