/- The document's Find, Used, Set, Drop, Same. -/
import Derived.Test.YtdopcliicjmjeaaExG
namespace Go.Proofs.Ytdopcliicjmjeaa
open Go.RowKit
theorem refGood_any (A : Option Addr) (c : Nat) (l : List Ex) (w : World) (hl : Exts w A l) :
    Calls Try.prog 15 #[.slice A l.length c] w fun e w' => e = .returned (.bool (goodB l)) ∧ Below w.heap.size w w' := by
  by_cases h : l.length ≤ 4096
  · exact refGood_few A c l w hl h
  · have hg : goodB l = false := by
      cases hg : goodB l with
      | false => rfl
      | true => exact absurd (good_length hg) h
    have hi : (4096 : Int) < l.length := by omega
    rw [hg]
    clear hg h
    go_enter Try.func15, Try.ntmps15
    go_wp2_with (fail)
    go_ret
    exact ⟨rfl, Below.refl _ _⟩
set_option maxRecDepth 100000 in
set_option maxHeartbeats 2000000 in
theorem refUsed_any (A : Option Addr) (c : Nat) (l : List Ex) (w : World) (hl : Exts w A l) (hn : l.length ≤ 100000) :
    Calls Try.prog 17 #[.slice A l.length c] w fun e w' => e = .returned (.int .i64 (usedX l)) ∧ Below w.heap.size w w' := by
  have HL := Lib.hid hl
  clear hl
  have HGA := Lib.hid (fun v (h : Exts v A l) => refGood_any A c l v h)
  unfold usedX
  go_enter Try.func17, Try.ntmps17
  cases hg : goodB l with
  | false =>
    rw [hg] at HGA
    clear hg
    rw [if_neg (by simp)]
    go_wp2_with (fail)
    refine (HGA.out _ HL.out).mono ?_; rintro e w1 ⟨rfl, hb1⟩
    have HB1 := Lib.hid hb1
    clear hb1
    go_wp2_with (fail)
    go_ret
    exact ⟨rfl, HB1.out⟩
  | true =>
    have HF := Lib.hid (good_asc hg).fits
    rw [hg] at HGA
    clear hg
    rw [if_pos rfl]
    go_wp2_with (fail)
    refine (HGA.out _ HL.out).mono ?_; rintro e w1 ⟨rfl, hb1⟩
    have HB1 := Lib.hid hb1
    clear hb1
    go_wp2_with (fail)
    go_loopw [4, 3] (fun i s wr => ∃ k : Nat, i = .int .i64 k ∧ k ≤ l.length ∧ s = .int .i64 (sumB (l.take k)) ∧ Below w.heap.size w wr) (fun i _ _ => l.length - (intOf i).toNat)
    case atStart => exact ⟨0, rfl, Nat.zero_le _, rfl, HB1.out⟩
    case round =>
      obtain ⟨k, rfl, hk, rfl, hb⟩ := hrel
      have HB := Lib.hid hb; clear hb
      by_cases hlt : k < l.length
      · have hki : (k : Int) < l.length := by omega
        obtain ⟨b, o, x, rfl, hat, wf, c0, c1, c2⟩ := (HL.out.below HB.out).at_ hlt
        have HS := Lib.hid (sumB_next hat)
        have hf := HF.out x (List.mem_of_getElem? hat)
        have hs := sumB_small (l := l.take k) (fun y hy => HF.out y (List.mem_of_mem_take hy))
        rw [List.length_take, Nat.min_eq_left hk] at hs
        unfold Ex.Fits at hf
        have hw : IntKind.i64.wrap (sumB (l.take k) + x.b) = sumB (l.take k) + x.b := i64w _ (by omega)
        clear hat wf hf hs
        generalize sumB (l.take k) = sk at *
        go_wp2_with (fail)
        go_roundw
        case rel => exact ⟨k + 1, by go_num, by omega, by rw [HS.out], HB.out⟩
        case measure => simp [intOf]; omega
      · obtain rfl : k = l.length := by omega
        rw [List.take_length]
        go_wp2
        go_ret
        exact ⟨rfl, HB.out⟩
set_option maxRecDepth 100000 in
set_option maxHeartbeats 1000000 in
theorem same_eq (A1 A2 : Option Addr) (c1 c2 : Nat) (l : List Ex) (w : World) (h1 : Exts w A1 l) (h2 : Exts w A2 l) (hl : l.length ≤ 100000) :
    Calls Try.prog 18 #[.slice A1 l.length c1, .slice A2 l.length c2] w fun e w' => e = .returned (.bool true) ∧ Below w.heap.size w w' := by
  have H1 := Lib.hid h1; have H2 := Lib.hid h2; clear h1 h2
  go_enter Try.func18, Try.ntmps18
  go_wp2_with (fail)
  go_loopw [5] (fun i wr => ∃ k : Nat, i = .int .i64 k ∧ k ≤ l.length ∧ Below w.heap.size w wr) (fun i _ => l.length - (intOf i).toNat)
  case atStart => exact ⟨0, rfl, Nat.zero_le _, Below.refl _ _⟩
  case round =>
    obtain ⟨k, rfl, hk, hb⟩ := hrel
    have HB := Lib.hid hb; clear hb
    by_cases hlt : k < l.length
    · have hki : (k : Int) < l.length := by omega
      obtain ⟨b1, o1, x1, rfl, hat1, _, d1, d2, d3⟩ := (H1.out.below HB.out).at_ hlt
      obtain ⟨b2, o2, x2, rfl, hat2, _, d4, d5, d6⟩ := (H2.out.below HB.out).at_ hlt
      obtain rfl : x1 = x2 := by rw [hat1] at hat2; exact Option.some.inj hat2
      clear hat1 hat2
      have n1 : (x1.l != x1.l) = false := by simp
      have n2 : (x1.b != x1.b) = false := by simp
      have n3 : (x1.a != x1.a) = false := by simp
      go_upto_region 6 with (fail)
      go_quiet (fail)
      go_wp2_with (fail)
      go_roundw
      case rel => exact ⟨k + 1, by go_num, by omega, below_drewN HB.out _⟩
      case measure => simp [intOf]; omega
    · obtain rfl : k = l.length := by omega
      go_wp2
      go_ret
      exact ⟨rfl, HB.out⟩
set_option maxRecDepth 100000 in
set_option maxHeartbeats 2000000 in
theorem refFind_any (A : Option Addr) (c : Nat) (l : List Ex) (n : Int) (w : World) (hl : Exts w A l) :
    Calls Try.prog 13 #[.slice A l.length c, .int .i64 n] w fun e w' => e = .returned (findV (findX l n)) ∧ Below w.heap.size w w' := by
  have HL := Lib.hid hl
  clear hl
  have HGA := Lib.hid (fun v (h : Exts v A l) => refGood_any A c l v h)
  unfold findX
  go_enter Try.func13, Try.ntmps13
  cases hg : goodB l with
  | false =>
    rw [hg] at HGA
    clear hg
    rw [if_neg (by simp)]
    go_wp2_with (fail)
    refine (HGA.out _ HL.out).mono ?_; rintro e w1 ⟨rfl, hb1⟩
    have HB1 := Lib.hid hb1
    clear hb1
    have hnt := not_false w1
    go_wp2_with (fail)
    go_ret2
    exact ⟨rfl, HB1.out⟩
  | true =>
    have ha := good_asc hg
    have HSP := Lib.hid (fun v (h : Exts v A l) => spread_any A c l v h hg)
    have HMX := Lib.hid (mX_is hg)
    have hmr := mX_range hg
    rw [hg] at HGA
    rw [if_pos rfl]
    by_cases q1 : n < 0
    · have HV := Lib.hid (ha.none_below n q1)
      rw [HV.out]
      clear hg ha hmr
      go_wp2_with (fail)
      refine (HGA.out _ HL.out).mono ?_; rintro e w1 ⟨rfl, hb1⟩
      have HB1 := Lib.hid hb1
      clear hb1
      have hnt := not_true w1
      go_wp2_with (fail)
      go_ret2
      exact ⟨rfl, HB1.out⟩
    · by_cases q2 : n ≥ 4096
      · have HV := Lib.hid (ha.none_above n q2)
        rw [HV.out]
        clear hg ha hmr
        go_wp2_with (fail)
        refine (HGA.out _ HL.out).mono ?_; rintro e w1 ⟨rfl, hb1⟩
        have HB1 := Lib.hid hb1
        clear hb1
        have hnt := not_true w1
        go_wp2_with (fail)
        go_ret2
        exact ⟨rfl, HB1.out⟩
      · obtain ⟨N, hN⟩ : ∃ N : Nat, n = N := ⟨n.toNat, by omega⟩
        subst hN
        have hNl : N < 4096 := by omega
        have hNi : (N : Int) < 4096 := by omega
        have hmx := HMX.out N
        have hmr := hmr N
        obtain ⟨mv, hmv⟩ : ∃ mv, mX l N = mv := ⟨_, rfl⟩
        rw [hmv] at hmx hmr
        have HMV := Lib.hid hmv
        clear hmv
        have hw : IntKind.i64.wrap (mv - 1) = mv - 1 := i64w _ (by omega)
        by_cases hz : mv = 0
        · have h1 : (mv == 0) = true := by simpa using hz
          have HV := Lib.hid (show whereX l (N : Int) = none by
            cases hx : whereX l (N : Int) with
            | none => rfl
            | some v => rw [hx] at hmx; have := where_range ha hx; have hmx : mv = v + 1 := hmx; omega)
          rw [HV.out]
          clear hg ha hmr hmx hz q1 q2
          have q3 : ¬ (4096 : Int) ≤ (N : Int) := by omega
          have q4 : ¬ (N : Int) < 0 := by omega
          go_wp2_with (fail)
          refine (HGA.out _ HL.out).mono ?_; rintro e w1 ⟨rfl, hb1⟩
          have HB1 := Lib.hid hb1
          have HL1 := Lib.hid (HL.out.below hb1)
          clear hb1
          have hnt := not_true w1
          go_wp2_with (fail)
          refine (HSP.out _ HL1.out).mono ?_; rintro e w2 ⟨g, rfl, hk2, _, hb2⟩
          have c0 : w2.cell? ⟨g, N, none⟩ = some (.int .i64 mv) := by rw [hk2.cell, arr_at _ _ hNl, HMV.out]
          have HB2 := Lib.hid (HB1.out.trans (hb2.mono HB1.out.size))
          clear hk2 hb2 hnt
          go_wp2_with (fail)
          go_ret2
          exact ⟨rfl, HB2.out⟩
        · have h1 : (mv == 0) = false := by simpa using hz
          have HV := Lib.hid (show whereX l (N : Int) = some (mv - 1) by
            cases hx : whereX l (N : Int) with
            | none => rw [hx] at hmx; exact absurd hmx hz
            | some v => rw [hx] at hmx; have hmx : mv = v + 1 := hmx; exact congrArg some (by omega))
          rw [HV.out]
          clear hg ha hmr hmx hz q1 q2
          have q3 : ¬ (4096 : Int) ≤ (N : Int) := by omega
          have q4 : ¬ (N : Int) < 0 := by omega
          go_wp2_with (fail)
          refine (HGA.out _ HL.out).mono ?_; rintro e w1 ⟨rfl, hb1⟩
          have HB1 := Lib.hid hb1
          have HL1 := Lib.hid (HL.out.below hb1)
          clear hb1
          have hnt := not_true w1
          go_wp2_with (fail)
          refine (HSP.out _ HL1.out).mono ?_; rintro e w2 ⟨g, rfl, hk2, _, hb2⟩
          have c0 : w2.cell? ⟨g, N, none⟩ = some (.int .i64 mv) := by rw [hk2.cell, arr_at _ _ hNl, HMV.out]
          have HB2 := Lib.hid (HB1.out.trans (hb2.mono HB1.out.size))
          have HL2 := Lib.hid (HL1.out.below hb2)
          clear hk2 hb2 hnt
          go_wp2_with (fail)
          refine (HSP.out _ HL2.out).mono ?_; rintro e w3 ⟨g3, rfl, hk3, _, hb3⟩
          have c1 : w3.cell? ⟨g3, N, none⟩ = some (.int .i64 mv) := by rw [hk3.cell, arr_at _ _ hNl, HMV.out]
          have HB3 := Lib.hid (HB2.out.trans (hb3.mono HB2.out.size))
          clear hk3 hb3
          go_wp2_with (fail)
          go_ret2
          exact ⟨rfl, HB3.out⟩
theorem one_box (w : World) (x : Ex) : ∀ v, v = w.alloc (.cells #[.int .i64 x.l, .int .i64 x.b, .int .i64 x.a] 32) → Blk v w.heap.size 32 (exC x) ∧ Below w.heap.size w v := by
  rintro v rfl
  exact ⟨Blk.new w _ _, (Below.refl _ _).alloc (Nat.le_refl _) _⟩
set_option maxRecDepth 100000 in
set_option maxHeartbeats 2000000 in
theorem refSet_ok (A : Option Addr) (c : Nat) (l : List Ex) (x : Ex) (w : World) (hl : Exts w A l) (hg : goodB l = true) (hx : x.Wf) (hf : fitsB x = true) :
    Calls Try.prog 20 #[.slice A l.length c, exV x] w fun e w' => ∃ A' c', e = .returned (.tuple #[.slice A' (setX l x).length c', .int .i64 0]) ∧ Exts w' A' (setX l x) ∧ Below w.heap.size w w' := by
  have HGA := Lib.hid (fun v (h : Exts v A l) => refGood_any A c l v h)
  have HSP := Lib.hid (fun v (h : Exts v A l) => spread_any A c l v h hg)
  have HO := Lib.hid (fun v => one_any x hx v)
  obtain ⟨gs1, gs2⟩ := gath_set hg ((fitsB_iff x).1 hf)
  have HGS := Lib.hid (fun g v (h : Blk v g 3 (Arr (putM (mX l) x x.b))) => gather_any g _ v h gs1 _ gs2)
  have hff := (fitsB_iff x).1 hf
  unfold Ex.Fits at hff
  obtain ⟨L, hL⟩ : ∃ L : Nat, x.l = L := ⟨x.l.toNat, by omega⟩
  have HFF := Lib.hid hff
  have HLL := Lib.hid hL
  obtain ⟨hb1, hb2⟩ := one_box w x _ rfl
  have HX := Lib.hid hb1; have HB := Lib.hid hb2
  have HL0 := Lib.hid hl
  rw [hg] at HGA
  rw [hf] at HO
  clear hl hg hx hf gs1 gs2 hff hL hb1 hb2
  unfold exV at HO ⊢
  go_enter Try.func20, Try.ntmps20
  go_upto_region 1 with (fail)
  change Code.wp _ _ _ _ (w.alloc (.cells #[.int .i64 x.l, .int .i64 x.b, .int .i64 x.a] 32))
  generalize w.alloc (.cells #[.int .i64 x.l, .int .i64 x.b, .int .i64 x.a] 32) = w0 at *
  have HL := Lib.hid (HL0.out.below HB.out)
  go_wp2_with (fail)
  refine (HGA.out _ HL.out).mono ?_; rintro e w1 ⟨rfl, hb1⟩
  have HL1 := Lib.hid (HL.out.below hb1)
  have HX1 := Lib.hid (HX.out.below hb1 HX.out.lt)
  have HB1 := Lib.hid (HB.out.trans (hb1.mono HB.out.size))
  obtain ⟨a0, a1, a2⟩ := blk_cells3 HX.out hb1
  clear hb1
  have hnt := not_true w1
  go_wp2_with (fail)
  refine (HO.out _).mono ?_; rintro e w2 ⟨rfl, hb2⟩
  have HL2 := Lib.hid (HL1.out.below hb2)
  have HX2 := Lib.hid (HX1.out.below hb2 HX1.out.lt)
  have HB2 := Lib.hid (HB1.out.trans (hb2.mono HB1.out.size))
  clear hb2 hnt a0 a1 a2
  have hnt := not_true w2
  go_wp2_with (fail)
  refine (HSP.out _ HL2.out).mono ?_; rintro e w3 ⟨g, rfl, hk3, hgs, hb3⟩
  have HX3 := Lib.hid (HX2.out.below hb3 HX2.out.lt)
  have HB3 := Lib.hid (HB2.out.trans (hb3.mono HB2.out.size))
  have HK3 := Lib.hid hk3
  have HGW := Lib.hid (show w.heap.size ≤ g from Nat.le_trans HB2.out.size hgs)
  have HGX := Lib.hid (show w.heap.size ≠ g by have := HX2.out.lt; omega)
  clear hb3 hk3 hgs hnt
  go_wp2_with (fail)
  go_loopw [7] (fun i v => ∃ j : Nat, i = .int .i64 j ∧ (j : Int) ≤ x.b ∧ Blk v g 3 (Arr (putM (mX l) x j)) ∧ Blk v w.heap.size 32 (exC x) ∧ Below w.heap.size w v) (fun i _ => x.b.toNat - (intOf i).toNat)
  case atStart => exact ⟨0, rfl, by have := HFF.out; show (0 : Int) ≤ x.b; omega, by rw [show ((0 : Nat) : Int) = 0 from rfl, putM_zero]; exact HK3.out, HX3.out, HB3.out⟩
  case round =>
    obtain ⟨j, rfl, hj, hbk, hbx, hb⟩ := hrel
    have HV := Lib.hid hb; have HKV := Lib.hid hbk; have HXV := Lib.hid hbx
    have a0 := hbx.cell 0
    have a1 := hbx.cell 1
    have a2 := hbx.cell 2
    clear hb hbk hbx
    have hff := HFF.out
    have hL := HLL.out
    by_cases hjl : (j : Int) < x.b
    · have e1 : IntKind.i64.wrap (x.l + j) = (L : Int) + (j : Int) := by rw [IntKind.wrap_i64]; omega
      have e2 : IntKind.i64.wrap (x.a + j) = x.a + j := i64w _ (by omega)
      have e3 : IntKind.i64.wrap (x.a + j + 1) = x.a + j + 1 := i64w _ (by omega)
      have hLj : L + j < 4096 := by omega
      have hLi : (L : Int) + (j : Int) < 4096 := by omega
      have hL0 : 0 ≤ (L : Int) + (j : Int) := by omega
      have hto : ((L : Int) + (j : Int)).toNat = L + j := by omega
      have d0 : wr.cell? ⟨g, L + j, none⟩ = some (.int .i64 (putM (mX l) x j (L + j))) := by rw [HKV.out.cell]; exact arr_at _ _ hLj
      have d1 := HKV.out.free (L + j)
      have HSET := Lib.hid (show (Arr (putM (mX l) x j)).setIfInBounds (L + j) (.int .i64 (x.a + j + 1)) = Arr (putM (mX l) x ((j : Int) + 1)) by
        rw [arr_set _ _ hLj, ← putM_succ (mX l) x j (by omega), show (x.l + j).toNat = L + j by omega])
      have HK2 := Lib.hid (show Blk (wr.setCell ⟨g, L + j, none⟩ (.int .i64 (x.a + j + 1))) g 3 (Arr (putM (mX l) x ((j : Int) + 1))) by
        rw [← HSET.out]; exact Blk.put HKV.out (L + j) _)
      have HX2 := Lib.hid (HXV.out.far (p := ⟨g, L + j, none⟩) HGX.out (.int .i64 (x.a + j + 1)))
      have HV2 := Lib.hid (HV.out.setCell (p := ⟨g, L + j, none⟩) HGW.out (.int .i64 (x.a + j + 1)))
      clear hff hL
      generalize putM (mX l) x j (L + j) = old at *
      go_wp2_with (fail)
      go_roundw
      case rel => exact ⟨j + 1, by go_num, by omega, HK2.out, HX2.out, HV2.out⟩
      case measure => simp [intOf]; omega
    · have HKE := Lib.hid (show Blk wr g 3 (Arr (putM (mX l) x x.b)) by rw [show x.b = (j : Int) by omega]; exact HKV.out)
      have HGA := Lib.hid (HGS.out g wr HKE.out)
      clear hff hL
      go_wp2_with (fail)
      refine HGA.out.mono ?_; rintro e w5 ⟨A', c', rfl, hx5, hb5⟩
      have HX5 := Lib.hid hx5
      have HB5 := Lib.hid (HV.out.trans (hb5.mono HV.out.size))
      clear hx5 hb5
      go_wp2_with (fail)
      go_ret2
      exact ⟨_, _, rfl, HX5.out, HB5.out⟩
end Go.Proofs.Ytdopcliicjmjeaa
