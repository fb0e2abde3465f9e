/- The document's spread and gather. -/
import Derived.Test.YtdopcliicjmjeaaExV
import Derived.Test.YtdopcliicjmjeaaExY
namespace Go.Proofs.Ytdopcliicjmjeaa
open Go.RowKit
theorem info3 : (Try.prog.info? 3).map (fun i => (i.zero, i.size, i.bytes)) = some (some (.int .i64 0), 1, 8) := by kernel_rfl
theorem make_arr (w : World) : (Instr.makeSlice 52 (.int .i64 4096) (.int .i64 4096)).run Try.prog w = .ok (.slice (some ⟨w.heap.size, 0, none⟩) 4096 4096) (w.alloc (.cells (Arr (fun _ => 0)) 3)) := by
  obtain ⟨i0, hi0, hz0, hz1, hz2⟩ := info_parts info3
  have := run_make (P := Try.prog) w 52 3 i0 _ Try.underlying52 hi0 hz0 .i64 .i64 4096 4096 (by omega) (by omega) (by rw [hz2]; omega) (by omega)
  rw [this, hz1, ← arr_made]
  rfl
theorem Exts.under {w v : World} {A : Option Addr} {l : List Ex} (h : Exts w A l) (hb : Below w.heap.size w v) : Exts v A l := h.below hb
set_option maxRecDepth 100000 in
set_option maxHeartbeats 4000000 in
theorem spread_any (A : Option Addr) (c : Nat) (l : List Ex) (w : World) (hl : Exts w A l) (hg : goodB l = true) :
    Calls Try.prog 28 #[.slice A l.length c] w fun e w' => ∃ g, e = .returned (.slice (some ⟨g, 0, none⟩) 4096 4096) ∧ Blk w' g 3 (Arr (mX l)) ∧ w.heap.size ≤ g ∧ Below w.heap.size w w' := by
  have HL := Lib.hid hl; have HF := Lib.hid (good_asc hg).fits
  have hn := good_length hg
  clear hl hg
  have hmk := make_arr w
  have HK0 := Lib.hid (Blk.new w 3 (Arr (fun _ => 0)))
  have HB0 := Lib.hid ((Below.refl w.heap.size w).alloc (Nat.le_refl _) (.cells (Arr (fun _ => 0)) 3))
  go_enter Try.func28, Try.ntmps28
  go_wp2_with (fail)
  clear hmk
  generalize w.alloc (.cells (Arr (fun _ => 0)) 3) = w0 at *
  go_loopw [4] (fun i wr => ∃ k : Nat, i = .int .i64 k ∧ k ≤ l.length ∧ Blk wr w.heap.size 3 (Arr (spreadM (fun _ => 0) (l.take k))) ∧ Below w.heap.size w wr) (fun i _ => l.length - (intOf i).toNat)
  case atStart => exact ⟨0, rfl, Nat.zero_le _, HK0.out, HB0.out⟩
  case round =>
    obtain ⟨k, rfl, hk, hbk, hb⟩ := hrel
    generalize wr = W1 at *
    have HB := Lib.hid hb; have HK := Lib.hid hbk; clear hb hbk
    by_cases hlt : k < l.length
    · have hki : (k : Int) < l.length := by omega
      obtain ⟨b, o, x, rfl, hat, wf, c0, c1, c2⟩ := (HL.out.below HB.out).at_ hlt
      have hbw : b < w.heap.size := HL.out.lt (by omega) _ rfl
      have HN := Lib.hid (spreadM_next (fun _ => 0) hat)
      have hf := HF.out x (List.mem_of_getElem? hat)
      unfold Ex.Fits at hf
      obtain ⟨L, hL⟩ : ∃ L : Nat, x.l = L := ⟨x.l.toNat, by omega⟩
      have HC := Lib.hid (fun v (h : Below w.heap.size W1 v) => (⟨(h.cell (p := ⟨b, o + k * 3, none⟩) hbw).trans c0, (h.cell (p := ⟨b, o + k * 3 + 1, none⟩) hbw).trans c1, (h.cell (p := ⟨b, o + k * 3 + 2, none⟩) hbw).trans c2⟩ : v.cell? ⟨b, o + k * 3, none⟩ = some (.int .i64 x.l) ∧ v.cell? ⟨b, o + k * 3 + 1, none⟩ = some (.int .i64 x.b) ∧ v.cell? ⟨b, o + k * 3 + 2, none⟩ = some (.int .i64 x.a)))
      clear hat wf c0 c1 c2
      obtain ⟨m, hm⟩ : ∃ m, spreadM (fun _ => 0) (l.take k) = m := ⟨_, rfl⟩
      rw [hm] at HK HN
      clear hm
      go_wp2_with (fail)
      go_loopw [5] (fun i v => ∃ j : Nat, i = .int .i64 j ∧ (j : Int) ≤ x.b ∧ Blk v w.heap.size 3 (Arr (putM m x j)) ∧ Below w.heap.size W1 v) (fun i _ => x.b.toNat - (intOf i).toNat)
      case atStart => exact ⟨0, rfl, by show (0 : Int) ≤ x.b; omega, by rw [show ((0 : Nat) : Int) = 0 from rfl, putM_zero]; exact HK.out, Below.refl _ _⟩
      case round =>
        obtain ⟨j, rfl, hj, hbk, hb⟩ := hrel
        have HV := Lib.hid hb; have HKV := Lib.hid hbk; clear hb hbk
        obtain ⟨c0, c1, c2⟩ := HC.out _ HV.out
        by_cases hjl : (j : Int) < x.b
        · have e1 : IntKind.i64.wrap (x.l + j) = (L : Int) + (j : Int) := by rw [IntKind.wrap_i64]; omega
          have e2 : IntKind.i64.wrap (x.a + j) = x.a + j := i64w _ (by omega)
          have e3 : IntKind.i64.wrap (x.a + j + 1) = x.a + j + 1 := i64w _ (by omega)
          have hLj : L + j < 4096 := by omega
          have hLi : (L : Int) + (j : Int) < 4096 := by omega
          have hL0 : 0 ≤ (L : Int) + (j : Int) := by omega
          have hto : ((L : Int) + (j : Int)).toNat = L + j := by omega
          have d0 : wr.cell? ⟨w.heap.size, L + j, none⟩ = some (.int .i64 (putM m x j (L + j))) := by rw [HKV.out.cell]; exact arr_at _ _ hLj
          have d1 := HKV.out.free (L + j)
          have HSET := Lib.hid (show (Arr (putM m x j)).setIfInBounds (L + j) (.int .i64 (x.a + j + 1)) = Arr (putM m x ((j : Int) + 1)) by
            rw [arr_set _ _ hLj, ← putM_succ m x j (by omega), show (x.l + j).toNat = L + j by omega])
          clear hL
          go_upto_region 8 with (fail)
          go_still_tail 17, (by kernel_rfl)
          change wpList _ _ _ _ _ wr.drew
          have f0 : wr.drew.cell? ⟨w.heap.size, L + j, none⟩ = some (.int .i64 (putM m x j (L + j))) := d0
          have f1 : wr.drew.frozen? ⟨w.heap.size, L + j, none⟩ = false := d1
          have HK2 := Lib.hid (show Blk (wr.drew.setCell ⟨w.heap.size, L + j, none⟩ (.int .i64 (x.a + j + 1))) w.heap.size 3 (Arr (putM m x ((j : Int) + 1))) by
            rw [← HSET.out]; exact Blk.put (w := wr.drew) HKV.out (L + j) _)
          have HV2 := Lib.hid (HV.out.drew.setCell (p := ⟨w.heap.size, L + j, none⟩) (Nat.le_refl _) (.int .i64 (x.a + j + 1)))
          clear d0 d1
          go_wp2_with (fail)
          go_roundw
          case rel => exact ⟨j + 1, by go_num, by omega, HK2.out, HV2.out⟩
          case measure => simp [intOf]; omega
        · have HKE := Lib.hid (show Blk wr w.heap.size 3 (Arr (spreadM (fun _ => 0) (l.take (k + 1)))) by rw [HN.out, show x.b = (j : Int) by omega]; exact HKV.out)
          have HBE := Lib.hid (HB.out.trans HV.out)
          clear hL
          go_wp2_with (fail)
          go_roundw
          case rel => exact ⟨k + 1, by go_num, by omega, HKE.out, HBE.out⟩
          case measure => simp [intOf]; omega
    · obtain rfl : k = l.length := by omega
      have HKE := Lib.hid (show Blk W1 w.heap.size 3 (Arr (mX l)) by have := HK.out; rw [List.take_length] at this; exact this)
      go_wp2
      go_ret
      exact ⟨_, rfl, HKE.out, Nat.le_refl _, HB.out⟩
theorem push_new {m : Nat → Int} (hm : ∀ n, 0 ≤ m n ∧ m n ≤ 8192) {k : Nat} (hk : k ≤ 4096) (h0 : m k ≠ 0) (h : ¬ (0 < k ∧ m (k - 1) ≠ 0 ∧ m k = m (k - 1) + 1)) : gathX m (k + 1) = gathX m k ++ [⟨k, 1, m k - 1⟩] := by
  rw [gath_push h0]
  obtain ⟨i1, _⟩ := gath_last m hm k hk
  generalize gathX m k = Q at *
  by_cases hn : Q = []
  · subst hn; rfl
  · obtain ⟨r, y, rfl⟩ := split_last hn
    rw [push_last, if_neg]
    intro hg
    have hg := of_decide_eq_true (show decide ((k : Int) = y.l + y.b ∧ m k - 1 = y.a + y.b) = true from hg)
    obtain ⟨h1, h2, h3⟩ := (i1 y (by simp)).2 hg.1.symm
    exact h ⟨h1, h2, by omega⟩
theorem push_old {m : Nat → Int} (hm : ∀ n, 0 ≤ m n ∧ m n ≤ 8192) {k : Nat} (hk : k ≤ 4096) (h0 : m k ≠ 0) (h : 0 < k ∧ m (k - 1) ≠ 0 ∧ m k = m (k - 1) + 1) :
    ∃ r y, gathX m k = r ++ [y] ∧ gathX m (k + 1) = r ++ [⟨y.l, y.b + 1, y.a⟩] ∧ y.Fits := by
  rw [gath_push h0]
  obtain ⟨i1, i2⟩ := gath_last m hm k hk
  have hg := (gath_good m hm k hk).1
  obtain ⟨y, h1, h2⟩ := i2 h.1 h.2.1
  generalize gathX m k = Q at *
  have hn : Q ≠ [] := fun e => by subst e; cases h1
  obtain ⟨r, z, rfl⟩ := split_last hn
  have hzy : z = y := by simpa using h1
  subst hzy
  obtain ⟨_, _, h3⟩ := (i1 z h1).2 h2
  refine ⟨r, z, rfl, ?_, (good_asc hg).fits z (by simp)⟩
  rw [push_last, if_pos]
  exact decide_eq_true (show (k : Int) = z.l + z.b ∧ m k - 1 = z.a + z.b by omega)
set_option maxRecDepth 100000 in
set_option maxHeartbeats 2000000 in
theorem gather_any (g : Nat) (m : Nat → Int) (w : World) (hbk : Blk w g 3 (Arr m)) (hm : ∀ n, 0 ≤ m n ∧ m n ≤ 8192) (r : List Ex) (hr : gathX m 4096 = r) :
    Calls Try.prog 34 #[.slice (some ⟨g, 0, none⟩) 4096 4096] w fun e w' => ∃ A c, e = .returned (.slice A r.length c) ∧ Exts w' A r ∧ Below w.heap.size w w' := by
  have HK := Lib.hid hbk; have HM := Lib.hid hm; have HR := Lib.hid hr
  have hgl := hbk.lt
  clear hbk hm hr
  obtain ⟨i0, hi0, hz0, hz1, hz2⟩ := info_parts info32
  obtain ⟨N, hN⟩ : ∃ N, N = 4096 := ⟨_, rfl⟩
  have HNN := Lib.hid hN
  clear hN
  go_enter Try.func34, Try.ntmps34
  go_wp2_with (fail)
  go_loopw [3, 4] (fun v i wr => ∃ k : Nat, i = .int .i64 k ∧ k ≤ N ∧ wr.ownsRow w.heap.size 32 3 v (gathX m k).length (exCells (gathX m k)) ∧ Below w.heap.size w wr) (fun _ i _ => N - (intOf i).toNat)
  case atStart => exact ⟨0, rfl, by omega, World.ownsRow_nil _ _ _ _, Below.refl _ _⟩
  case round =>
    obtain ⟨k, rfl, hk, hrow, hb⟩ := hrel
    have HB := Lib.hid hb; have HROW0 := Lib.hid hrow
    obtain ⟨A, c, rfl⟩ := own_form hrow
    clear hb hrow
    have hNN := HNN.out
    by_cases hlt : k < 4096
    · have hki : (k : Int) < 4096 := by omega
      have hkn : (0 : Int) ≤ (k : Int) := by omega
      have HKN := Lib.hid (show k < N by omega)
      have hk4 : k ≤ 4096 := by omega
      have hQG := (gath_good m HM.out k hk4).1
      have hQl := good_length hQG
      have HN0 := Lib.hid (fun h => push_new (k := k) HM.out hk4 h)
      have HO0 := Lib.hid (fun h => push_old (k := k) HM.out hk4 h)
      have HZ0 := Lib.hid (fun h => gath_zero (m := m) (k := k) h)
      obtain ⟨Q, hQ⟩ : ∃ Q, gathX m k = Q := ⟨_, rfl⟩
      rw [hQ] at HROW0 HN0 HO0 HZ0 hQl
      have HROW := HROW0
      clear HROW0 hQG
      rw [hQ]
      have hcell : ∀ n, n < 4096 → wr.cell? ⟨g, n, none⟩ = some (.int .i64 (m n)) := fun n hn => (HB.out.cell (p := ⟨g, n, none⟩) hgl).trans (by rw [HK.out.cell]; exact arr_at m n hn)
      have c0 := hcell k hlt
      have HC := Lib.hid hcell
      clear hcell
      have hmk := HM.out k
      clear hk4 hk
      by_cases hz : m k = 0
      · have h1 : (m k == 0) = true := by simpa using hz
        have HZ := Lib.hid (HZ0.out hz)
        clear hz hmk hQ hNN
        go_wp2_with (fail)
        go_roundw
        case rel => exact ⟨k + 1, by go_num, HKN.out, by rw [HZ.out]; exact HROW.out, HB.out⟩
        case measure => have := HKN.out; simp [intOf]; omega
      · have h1 : (m k == 0) = false := by simpa using hz
        have hwm : IntKind.i64.wrap (m k - 1) = m k - 1 := i64w _ (by omega)
        by_cases hc : 0 < k ∧ m (k - 1) ≠ 0 ∧ m k = m (k - 1) + 1
        · obtain ⟨Q', y, hQy, hQ2, hyf⟩ := HO0.out hz hc
          obtain ⟨p, hp⟩ : ∃ p, k = p + 1 := ⟨k - 1, by omega⟩
          rw [show k - 1 = p by omega] at hc
          have cp := HC.out p (by omega)
          have hmp := HM.out p
          obtain ⟨mk, hmkk⟩ : ∃ mk, m k = mk := ⟨_, rfl⟩
          obtain ⟨mp, hmpp⟩ : ∃ mp, m p = mp := ⟨_, rfl⟩
          rw [hmkk] at c0 h1 hwm hmk hc
          rw [hmpp] at cp hmp hc
          have hw1 : IntKind.i64.wrap ((k : Int) - 1) = (p : Int) := by rw [IntKind.wrap_i64]; omega
          have hp1 : (p : Int) < 4096 := by omega
          have hp0 : (0 : Int) ≤ (p : Int) := by omega
          have hgt : decide ((k : Int) > 0) = true := decide_eq_true (by omega)
          have hgn : decide (0 < k) = true := decide_eq_true (by omega)
          have hwp : IntKind.i64.wrap (mp + 1) = mp + 1 := i64w _ (by omega)
          have h2 : decide (mp > 0) = true := decide_eq_true (by omega)
          have h3 : (mk == mp + 1) = true := by simpa using hc.2.2
          subst hQy
          have hln : (Q' ++ [y]).length = Q'.length + 1 := by simp
          rw [hln] at HROW hQl
          obtain ⟨gq, cur, rfl, hg1, hgb, hgt2⟩ := own_some HROW.out (by omega)
          have hyat : (Q' ++ [y])[Q'.length]? = some y := by simp
          obtain ⟨y0, y1, y2⟩ := exCells_at hyat
          rw [← hgt2, List.getElem?_take, if_pos (by omega)] at y1
          have q1 : wr.cell? ⟨gq, Q'.length * 3 + 1, none⟩ = some (.int .i64 y.b) := by rw [hgb.cell]; simpa using y1
          have hfr := hgb.free (Q'.length * 3 + 1)
          unfold Ex.Fits at hyf
          have hwb : IntKind.i64.wrap (y.b + 1) = y.b + 1 := i64w _ (by omega)
          have hwq : IntKind.i64.wrap ((Q'.length : Int) + 1 - 1) = (Q'.length : Int) := by rw [IntKind.wrap_i64]; omega
          have hql : (Q'.length : Int) < (Q'.length : Int) + 1 := by omega
          have hput := own_put HROW.out (Q'.length * 3 + 1) (.int .i64 (y.b + 1))
          rw [exCells_last] at hput
          have HQ2 := Lib.hid hQ2
          have HGQ := Lib.hid hg1
          rw [hln]
          clear hz hc hmk hmp hQ hp hmpp hmkk HN0 HO0 HZ0 hNN hlt hgb hgt2 hyat y0 y1 y2 hyf hln hQ2 hg1
          go_upto_region 8 with (fail)
          go_quiet (fail)
          have HBW := Lib.hid (below_drewN HB.out nq)
          have ck : (wr.drewN nq).cell? ⟨gq, Q'.length * 3 + 1, none⟩ = some (.int .i64 y.b) := q1
          have cf : (wr.drewN nq).frozen? ⟨gq, Q'.length * 3 + 1, none⟩ = false := hfr
          have HRQ := Lib.hid (show World.ownsRow ((wr.drewN nq).setCell ⟨gq, Q'.length * 3 + 1, none⟩ (.int .i64 (y.b + 1))) w.heap.size 32 3 (.slice (some ⟨gq, 0, none⟩) (Q'.length + 1) c) (Q'.length + 1) (exCells (Q' ++ [⟨y.l, y.b + 1, y.a⟩])) from hput)
          clear c0 cp HROW HB HC q1 hfr hput
          generalize wr.drewN nq = wq at *
          have HB4 := Lib.hid (HBW.out.setCell (p := ⟨gq, Q'.length * 3 + 1, none⟩) HGQ.out (.int .i64 (y.b + 1)))
          go_wp2_with (fail)
          go_roundw
          case rel => exact ⟨k + 1, by go_num, HKN.out, by rw [HQ2.out, show (Q' ++ [(⟨y.l, y.b + 1, y.a⟩ : Ex)]).length = Q'.length + 1 by simp]; exact HRQ.out, HB4.out⟩
          case measure => have := HKN.out; simp [intOf]; omega
        · have HPN := Lib.hid (HN0.out hz hc)
          obtain ⟨mk, hmkk⟩ : ∃ mk, m k = mk := ⟨_, rfl⟩
          rw [hmkk] at HPN c0 h1 hwm hmk
          have HM1 := Lib.hid (show Q.length + 1 ≤ maxLen by unfold maxLen; omega)
          have HM2 := Lib.hid (show (Q.length + 1) * 24 ≤ 140737488355328 by omega)
          by_cases hkz : k = 0
          · have hgt : decide ((k : Int) > 0) = false := decide_eq_false (by omega)
            have hgn : decide (0 < k) = false := decide_eq_false (by omega)
            clear hz hc hmk hQ hkz hmkk HN0 HO0 HZ0 hNN hlt
            go_upto_region 8 with (fail)
            go_quiet (fail)
            have HBW := Lib.hid (below_drewN HB.out nq)
            have ck : (wr.drewN nq).cell? ⟨g, k, none⟩ = some (.int .i64 mk) := c0
            have HRQ := Lib.hid (show World.ownsRow (wr.drewN nq) w.heap.size 32 3 (.slice A Q.length c) Q.length (exCells Q) from HROW.out)
            clear c0 HROW HB HC
            generalize wr.drewN nq = wq at *
            have hbld := build32 (k : Int) 1 (mk - 1) wq
            have HO := Lib.hid (HRQ.out.alloc (.cells #[.int .i64 (k : Int), .int .i64 1, .int .i64 (mk - 1)] 32))
            have HM3 := Lib.hid (show w.heap.size ≤ (World.alloc wq (.cells #[.int .i64 (k : Int), .int .i64 1, .int .i64 (mk - 1)] 32)).heap.size by have := HBW.out.size; simp only [World.size_alloc]; omega)
            go_wp2_with (at_builtin; refine wpList_append_own_at _ rfl (.tmp 14) (.tmp 22) 22 rfl w.heap.size 32 i0 _ 3 24 Try.underlying22 hi0 hz0 hz1 hz2 rfl (by omega) (.slice A Q.length c) Q.length (exCells Q) rfl HO.out _ 1 1 [.int .i64 (k : Int), .int .i64 1, .int .i64 (mk - 1)] rfl rfl (cells_three _ _ _ _ _) three_cells HM1.out HM2.out HM3.out ?_; intro v4 w4 hown4 hg4 hn4 hat4; have HW4 := Lib.hid hown4; have HG4 := Lib.hid hg4; clear hown4 hg4 hn4 hat4)
            have HB4 := Lib.hid ((HBW.out.alloc HBW.out.size _).grown HG4.out HM3.out (fun g hg => (HRQ.out.lt g hg).1))
            go_roundw
            case rel => exact ⟨k + 1, by go_num, HKN.out, by rw [HPN.out, exCells_snoc, List.length_append]; exact HW4.out, HB4.out⟩
            case measure => have := HKN.out; simp [intOf]; omega
          · obtain ⟨p, hp⟩ : ∃ p, k = p + 1 := ⟨k - 1, by omega⟩
            have hw1 : IntKind.i64.wrap ((k : Int) - 1) = (p : Int) := by rw [IntKind.wrap_i64]; omega
            have hp1 : (p : Int) < 4096 := by omega
            have hp0 : (0 : Int) ≤ (p : Int) := by omega
            have cp := HC.out p (by omega)
            have hmp := HM.out p
            have hgt : decide ((k : Int) > 0) = true := decide_eq_true (by omega)
            have hgn : decide (0 < k) = true := decide_eq_true (by omega)
            rw [show k - 1 = p by omega] at hc
            obtain ⟨mp, hmpp⟩ : ∃ mp, m p = mp := ⟨_, rfl⟩
            rw [hmpp] at cp hmp hc
            have hwp : IntKind.i64.wrap (mp + 1) = mp + 1 := i64w _ (by omega)
            by_cases hz2 : mp = 0
            · have h2 : decide (mp > 0) = false := decide_eq_false (by omega)
              clear hz hc hmk hmp hz2 hQ hkz hp hmpp hmkk HN0 HO0 HZ0 hNN hlt
              go_upto_region 8 with (fail)
              go_quiet (fail)
              have HBW := Lib.hid (below_drewN HB.out nq)
              have ck : (wr.drewN nq).cell? ⟨g, k, none⟩ = some (.int .i64 mk) := c0
              have HRQ := Lib.hid (show World.ownsRow (wr.drewN nq) w.heap.size 32 3 (.slice A Q.length c) Q.length (exCells Q) from HROW.out)
              clear c0 HROW HB HC
              generalize wr.drewN nq = wq at *
              have hbld := build32 (k : Int) 1 (mk - 1) wq
              have HO := Lib.hid (HRQ.out.alloc (.cells #[.int .i64 (k : Int), .int .i64 1, .int .i64 (mk - 1)] 32))
              have HM3 := Lib.hid (show w.heap.size ≤ (World.alloc wq (.cells #[.int .i64 (k : Int), .int .i64 1, .int .i64 (mk - 1)] 32)).heap.size by have := HBW.out.size; simp only [World.size_alloc]; omega)
              go_wp2_with (at_builtin; refine wpList_append_own_at _ rfl (.tmp 14) (.tmp 22) 22 rfl w.heap.size 32 i0 _ 3 24 Try.underlying22 hi0 hz0 hz1 hz2 rfl (by omega) (.slice A Q.length c) Q.length (exCells Q) rfl HO.out _ 1 1 [.int .i64 (k : Int), .int .i64 1, .int .i64 (mk - 1)] rfl rfl (cells_three _ _ _ _ _) three_cells HM1.out HM2.out HM3.out ?_; intro v4 w4 hown4 hg4 hn4 hat4; have HW4 := Lib.hid hown4; have HG4 := Lib.hid hg4; clear hown4 hg4 hn4 hat4)
              have HB4 := Lib.hid ((HBW.out.alloc HBW.out.size _).grown HG4.out HM3.out (fun g hg => (HRQ.out.lt g hg).1))
              go_roundw
              case rel => exact ⟨k + 1, by go_num, HKN.out, by rw [HPN.out, exCells_snoc, List.length_append]; exact HW4.out, HB4.out⟩
              case measure => have := HKN.out; simp [intOf]; omega
            · have h2 : decide (mp > 0) = true := decide_eq_true (by omega)
              have h3 : (mk == mp + 1) = false := by
                rw [beq_eq_false_iff_ne]
                intro e
                exact hc ⟨by omega, hz2, by rw [hmkk]; exact e⟩
              clear hz hc hmk hmp hz2 hQ hkz hp hmpp hmkk HN0 HO0 HZ0 hNN hlt
              go_upto_region 8 with (fail)
              go_quiet (fail)
              have HBW := Lib.hid (below_drewN HB.out nq)
              have ck : (wr.drewN nq).cell? ⟨g, k, none⟩ = some (.int .i64 mk) := c0
              have HRQ := Lib.hid (show World.ownsRow (wr.drewN nq) w.heap.size 32 3 (.slice A Q.length c) Q.length (exCells Q) from HROW.out)
              clear c0 HROW HB HC
              generalize wr.drewN nq = wq at *
              have hbld := build32 (k : Int) 1 (mk - 1) wq
              have HO := Lib.hid (HRQ.out.alloc (.cells #[.int .i64 (k : Int), .int .i64 1, .int .i64 (mk - 1)] 32))
              have HM3 := Lib.hid (show w.heap.size ≤ (World.alloc wq (.cells #[.int .i64 (k : Int), .int .i64 1, .int .i64 (mk - 1)] 32)).heap.size by have := HBW.out.size; simp only [World.size_alloc]; omega)
              go_wp2_with (at_builtin; refine wpList_append_own_at _ rfl (.tmp 14) (.tmp 22) 22 rfl w.heap.size 32 i0 _ 3 24 Try.underlying22 hi0 hz0 hz1 hz2 rfl (by omega) (.slice A Q.length c) Q.length (exCells Q) rfl HO.out _ 1 1 [.int .i64 (k : Int), .int .i64 1, .int .i64 (mk - 1)] rfl rfl (cells_three _ _ _ _ _) three_cells HM1.out HM2.out HM3.out ?_; intro v4 w4 hown4 hg4 hn4 hat4; have HW4 := Lib.hid hown4; have HG4 := Lib.hid hg4; clear hown4 hg4 hn4 hat4)
              have HB4 := Lib.hid ((HBW.out.alloc HBW.out.size _).grown HG4.out HM3.out (fun g hg => (HRQ.out.lt g hg).1))
              go_roundw
              case rel => exact ⟨k + 1, by go_num, HKN.out, by rw [HPN.out, exCells_snoc, List.length_append]; exact HW4.out, HB4.out⟩
              case measure => have := HKN.out; simp [intOf]; omega
    · have hkN : k = N := by omega
      have HRO := Lib.hid (show wr.ownsRow w.heap.size 32 3 (.slice A r.length c) r.length (exCells r) by
        have := HROW0.out
        have e : gathX m k = r := by rw [hkN, hNN]; exact HR.out
        rw [e] at this
        exact this)
      have hlen : (gathX m k).length = r.length := by rw [hkN, hNN, HR.out]
      rw [hlen]
      have hwf : ∀ x ∈ r, x.Wf := fun x hx => by
        have hg := (gath_good m HM.out N (by omega)).1
        rw [hNN, HR.out] at hg
        have := (good_asc hg).fits x hx
        unfold Ex.Fits at this
        exact ⟨by omega, by omega, by omega, by omega, by omega, by omega⟩
      obtain ⟨A', c', he, hx, _⟩ := exts_of_own HRO.out hwf
      injection he with hA _ hc
      subst hA; subst hc
      have HX := Lib.hid hx
      have hkk : ¬ (k : Int) < 4096 := by omega
      clear hx HRO hlen HROW0 hwf hkN hNN hk hlt
      go_wp2
      go_ret
      first | exact ⟨_, _, rfl, HX.out, HB.out⟩ | exact ⟨_, ⟨_, rfl⟩, HX.out, HB.out⟩
end Go.Proofs.Ytdopcliicjmjeaa
