/- The code's Ranges; what the code's functions come to. -/
import Derived.Test.YtgncllhhajjnlaaInS
namespace Go.Proofs.Ytgncllhhajjnlaa
open Go.RowKit
/-- A range as the code reads it. -/
def rdC (s : ByteArray) (i : Nat) : Rn := ⟨IntKind.i64.wrap (big s (8 + 16 * i) 8 : Int), (big s (8 + 16 * i + 8) 4 : Int)⟩
def listC (s : ByteArray) (n : Nat) : List Rn := (List.range n).map (rdC s)
theorem listC_length (s : ByteArray) (n : Nat) : (listC s n).length = n := by simp [listC]
theorem listC_succ (s : ByteArray) (n : Nat) : listC s (n + 1) = listC s n ++ [rdC s n] := by simp [listC, List.range_succ]
theorem listC_wf {s : ByteArray} {n : Nat} : ∀ x ∈ listC s n, x.Wf := fun x h => by
  obtain ⟨i, _, rfl⟩ := List.mem_map.1 h
  have h4 := big_lt s (8 + 16 * i + 8) 4
  have e4 : (256 : Nat) ^ 4 = 4294967296 := rfl
  refine ⟨?_, ?_⟩
  · show In64 (IntKind.i64.wrap _)
    rw [IntKind.wrap_i64]
    unfold In64
    omega
  · show In64 ((big s (8 + 16 * i + 8) 4 : Nat) : Int)
    unfold In64
    omega
theorem ra_not {s : ByteArray} {N : Nat} (hN : N = (s.size - 8) / 16 ∧ N ≤ 16 ∨ N = 16 ∧ 16 < (s.size - 8) / 16) (h : unX (listC s N) ≠ some s) : raX s = none := by
  cases hr : raX s with
  | none => rfl
  | some l =>
    refine absurd ?_ h
    have hb := ra_back hr
    obtain ⟨hs, hn⟩ := un_size hb
    have hNl : N = l.length := by omega
    have hl : listR s N = l := by
      unfold raX at hr
      split at hr
      · rw [← Option.some.inj hr]
        congr 1
        omega
      · cases hr
    have hg : l.all goodR = true := by
      unfold unX at hb
      split at hb
      · rename_i hc; exact hc.2
      · cases hb
    have hc : listC s N = listR s N := by
      refine List.map_congr_left fun i hi => ?_
      have hm : rdR s i ∈ l := by rw [← hl]; exact List.mem_map.2 ⟨i, hi, rfl⟩
      obtain ⟨_, h2, _, _⟩ := of_decide_eq_true ((List.all_eq_true.1 hg) _ hm)
      have h2' : ((big s (8 + 16 * i) 8 : Nat) : Int) < 2147483648 := h2
      show (⟨IntKind.i64.wrap (big s (8 + 16 * i) 8 : Int), (big s (8 + 16 * i + 8) 4 : Int)⟩ : Rn) = ⟨(big s (8 + 16 * i) 8 : Int), (big s (8 + 16 * i + 8) 4 : Int)⟩
      rw [IntWalk.i64_in _ (by omega)]
    rw [hc, hl]
    exact hb
set_option maxRecDepth 100000 in
set_option maxHeartbeats 4000000 in
theorem ranges_few (s : ByteArray) (w : World) (N : Nat) (D : Int) (hz : s.size ≤ 100000) (hN16 : N ≤ 16) (hin : 16 * N + 8 ≤ s.size ∨ N = 0) (hno : unX (listC s N) ≠ some s → raX s = none) (e1 : IntKind.i64.wrap ((s.size : Int) - 8) = D) (e2 : wrap64 (D.tdiv 16) = (N : Int)) : Calls Try.prog 18 #[.string s] w (RgOut (raX s) w) := by
  have HZ := Lib.hid hz
  have HN := Lib.hid hN16
  have HIN := Lib.hid hin
  have HNO := Lib.hid hno
  have q2 : ¬ (16 : Int) < (N : Int) := by omega
  have HB0 := Lib.hid (Below.refl w.heap.size w)
  obtain ⟨i0, hi0, hz0, hz1, hz2⟩ := info_parts infoRg
  have HUN := Lib.hid (fun (A : Option Addr) (c : Nat) (v : World) (h : Rngs v A (listC s N)) => unmap_any A c (listC s N) v h)
  rw [listC_length] at HUN
  clear hz hN16 hin hno
  go_enter Try.func18, Try.ntmps18
  go_wp2_with (fail)
  clear e1 e2 q2
  go_loopw [4, 17] (fun v i wr => ∃ k : Nat, k ≤ N ∧ i = .int .i64 k ∧ Hid (wr.ownsRow w.heap.size 58 2 v k (rcs (listC s k))) ∧ Hid (Below w.heap.size w wr)) (fun _ i _ => N - (intOf i).toNat)
  case atStart => exact ⟨0, by omega, rfl, Lib.hid (World.ownsRow_nil _ _ _ _), HB0⟩
  case round =>
    clear HB0
    obtain ⟨k, hk, rfl, HOW, HB⟩ := hrel
    obtain ⟨A1, c1, rfl⟩ := own_form HOW.out
    by_cases hkN : k < N
    · have hkn : (k : Int) < (N : Int) := by omega
      have hk16 : k ≤ 16 := by have := HN.out; omega
      have hin : 8 + 16 * k + 16 ≤ s.size := by have := HIN.out; omega
      have h8 := big8_at hin
      have h4 := big4_at hin
      obtain ⟨Ja, hJa⟩ : ∃ J : Nat, J = 8 + 16 * k := ⟨_, rfl⟩
      obtain ⟨Jb, hJb⟩ : ∃ J : Nat, J = 8 + 16 * k + 8 := ⟨_, rfl⟩
      have HRD := Lib.hid (show listC s (k + 1) = listC s k ++ [⟨IntKind.i64.wrap (big s Ja 8 : Int), (big s Jb 4 : Int)⟩] by rw [listC_succ, hJa, hJb]; rfl)
      have hok8 : okB s (Ja : Int) 8 = true := okB_yes (by omega)
      have hok4 : okB s (Jb : Int) 4 = true := okB_yes (by omega)
      have hb4 := big_lt s Jb 4
      have hp4 : (256 : Nat) ^ 4 = 4294967296 := rfl
      have hw4 : IntKind.i64.wrap ((big s Jb 4 : Nat) : Int) = ((big s Jb 4 : Nat) : Int) := IntWalk.i64_in _ (by omega)
      rw [← hJa] at h8
      rw [← hJb] at h4
      have hB1 := Lib.hid (fun v => big_any s (Ja : Int) 8 v (by have := HZ.out; unfold maxLen; omega))
      have hB2 := Lib.hid (fun v => big_any s (Jb : Int) 4 v (by have := HZ.out; unfold maxLen; omega))
      rw [h8, hok8] at hB1
      rw [h4, hok4] at hB2
      have HLA := Lib.hid (fun v => lbaAt_any k (by omega) v)
      have HBA := Lib.hid (fun v => blocksAt_any k (by omega) v)
      rw [show 8 + 16 * k = Ja from hJa.symm] at HLA
      rw [show 16 + 16 * k = Jb by omega] at HBA
      clear h8 h4 hb4 hp4 hok8 hok4 hJa hJb hin
      generalize ((big s Ja 8 : Nat) : Int) = u8 at *
      generalize ((big s Jb 4 : Nat) : Int) = x4 at *
      obtain ⟨x8, hx8⟩ : ∃ x, IntKind.i64.wrap u8 = x := ⟨_, rfl⟩
      rw [hx8] at HRD
      have HM := Lib.hid (show k + 1 ≤ maxLen by unfold maxLen; omega)
      have HY := Lib.hid (show (k + 1) * 16 ≤ 140737488355328 by omega)
      go_wp2_with (fail)
      refine (HLA.out _).mono ?_; rintro e y ⟨rfl, rfl⟩
      go_wp2_with (fail)
      refine (hB1.out _).mono ?_; rintro e v1 ⟨rfl, hb⟩
      have HB1 := Lib.hid (HB.out.trans (hb.mono HB.out.size)); have HO1 := Lib.hid (own_belowP HOW.out hb)
      clear hb
      go_wp2_with (fail)
      refine (HBA.out _).mono ?_; rintro e y ⟨rfl, rfl⟩
      go_wp2_with (fail)
      refine (hB2.out _).mono ?_; rintro e v2 ⟨rfl, hb⟩
      have HB2 := Lib.hid (HB1.out.trans (hb.mono HB1.out.size)); have HO2 := Lib.hid (own_belowP HO1.out hb)
      have HO3 := Lib.hid (HO2.out.alloc (.cells #[.int .i64 x8, .int .i64 x4] 58))
      have HBS := Lib.hid (show w.heap.size ≤ (v2.alloc (.cells #[.int .i64 x8, .int .i64 x4] 58)).heap.size by have := HB2.out.size; simp; omega)
      clear hb
      go_wp2_with (at_builtin; refine wpList_append_own_at _ rfl (.tmp 34) (.tmp 40) _ rfl w.heap.size 58 i0 _ 2 16 Try.underlying33 hi0 hz0 hz1 hz2 rfl (by omega) (.slice A1 k c1) k (rcs (listC s k)) rfl HO3.out _ 1 1 [.int .i64 x8, .int .i64 x4] rfl rfl (cells_twoI _ _ _ _ rfl) two_cellsI HM.out HY.out HBS.out ?_; intro v4 w4 hown4 hg4 hn4 hat4; have HW4 := Lib.hid hown4; have HG4 := Lib.hid hg4; clear hown4 hg4 hn4 hat4)
      go_roundw
      case rel =>
        refine ⟨k + 1, by omega, by go_num, ?_, ?_⟩
        · rw [HRD.out, ← rcs_snoc]
          exact HW4
        · exact Lib.hid ((HB2.out.alloc HB2.out.size _).grown HG4.out HBS.out (fun g hg => (HO3.out.lt g hg).1))
      case measure => simp [intOf]; omega
    · obtain rfl : k = N := by omega
      have hkn : ¬ (k : Int) < (k : Int) := by omega
      obtain ⟨A2, c2, hAc, hw, hbase⟩ := rngs_of_own HOW.out (listC_length s k) listC_wf
      have HLN := Lib.hid (listC_length s k)
      rw [HLN.out] at hAc
      injection hAc with hA1 _ hc1
      subst hA1; subst hc1
      have HRW := Lib.hid hw; clear hw hbase HOW
      have HUM := Lib.hid (fun v (h : Rngs v A1 (listC s k)) => HUN.out A1 c1 v h)
      cases hu : unX (listC s k) with
      | none =>
        have HV := Lib.hid (HNO.out (by rw [hu]; exact fun h => by cases h))
        rw [hu] at HUM
        have HUZ : Hid (∀ v, Rngs v A1 (listC s k) → Calls Try.prog 16 #[.slice A1 k c1] v fun e w' => e = .returned (.tuple #[.string ⟨#[]⟩, .int .i64 180]) ∧ Below v.heap.size v w') := Lib.hid (fun v hv => HUM.out v hv)
        clear hu HUN HUM HNO
        go_wp2_with (fail)
        refine (HUZ.out _ HRW.out).mono ?_; rintro e v1 ⟨rfl, hb⟩
        have HB1 := Lib.hid (HB.out.trans (hb.mono HB.out.size)); clear hb
        go_wp2_with (fail)
        go_ret2
        exact rg_none HV.out rfl HB1.out
      | some t =>
        rw [hu] at HUM
        have HUZ : Hid (∀ v, Rngs v A1 (listC s k) → Calls Try.prog 16 #[.slice A1 k c1] v fun e w' => e = .returned (.tuple #[.string t, .int .i64 0]) ∧ Below v.heap.size v w') := Lib.hid (fun v hv => HUM.out v hv)
        by_cases ht : t = s
        · subst ht
          have HV := Lib.hid (un_back hu)
          have q5 : (t.toList != t.toList) = false := by simp
          clear hu HUN HUM HNO
          go_wp2_with (fail)
          refine (HUZ.out _ HRW.out).mono ?_; rintro e v1 ⟨rfl, hb⟩
          have HB1 := Lib.hid (HB.out.trans (hb.mono HB.out.size)); have HR1 := Lib.hid (HRW.out.below hb); clear hb
          go_wp2_with (fail)
          go_ret2
          exact rg_some HV.out HLN.out rfl HR1.out HB1.out
        · have HV := Lib.hid (HNO.out (by rw [hu]; exact fun h => ht (Option.some.inj h)))
          have q5 : ¬ t.toList = s.toList := fun h => ht (toList_inj17 h)
          have q6 : (t.toList == s.toList) = false := by rw [beq_eq_false_iff_ne]; exact q5
          clear hu HUN HUM HNO ht
          go_wp2_with (fail)
          refine (HUZ.out _ HRW.out).mono ?_; rintro e v1 ⟨rfl, hb⟩
          have HB1 := Lib.hid (HB.out.trans (hb.mono HB.out.size)); clear hb
          go_wp2_with (fail)
          go_ret2
          exact rg_none HV.out rfl HB1.out
set_option maxRecDepth 100000 in
set_option maxHeartbeats 4000000 in
theorem ranges_lot (s : ByteArray) (w : World) (N : Nat) (D : Int) (hz : s.size ≤ 100000) (hN16 : N ≤ 16) (hin : 16 * N + 8 ≤ s.size ∨ N = 0) (hno : unX (listC s N) ≠ some s → raX s = none) (e1 : IntKind.i64.wrap ((s.size : Int) - 8) = D) (q : Nat) (hN6 : N = 16) (e2 : wrap64 (D.tdiv 16) = (q : Int)) (hq : 16 < q) : Calls Try.prog 18 #[.string s] w (RgOut (raX s) w) := by
  have HZ := Lib.hid hz
  have HN := Lib.hid hN16
  have HIN := Lib.hid hin
  have HNO := Lib.hid hno
  have HN6 := Lib.hid hN6
  have q2 : (16 : Int) < (q : Int) := by omega
  clear hN6 hq
  have HB0 := Lib.hid (Below.refl w.heap.size w)
  obtain ⟨i0, hi0, hz0, hz1, hz2⟩ := info_parts infoRg
  have HUN := Lib.hid (fun (A : Option Addr) (c : Nat) (v : World) (h : Rngs v A (listC s N)) => unmap_any A c (listC s N) v h)
  rw [listC_length] at HUN
  clear hz hN16 hin hno
  go_enter Try.func18, Try.ntmps18
  go_wp2_with (fail)
  clear e1 e2 q2
  go_loopw [4, 17] (fun v i wr => ∃ k : Nat, k ≤ N ∧ i = .int .i64 k ∧ Hid (wr.ownsRow w.heap.size 58 2 v k (rcs (listC s k))) ∧ Hid (Below w.heap.size w wr)) (fun _ i _ => N - (intOf i).toNat)
  case atStart => exact ⟨0, by omega, rfl, Lib.hid (World.ownsRow_nil _ _ _ _), HB0⟩
  case round =>
    clear HB0
    obtain ⟨k, hk, rfl, HOW, HB⟩ := hrel
    obtain ⟨A1, c1, rfl⟩ := own_form HOW.out
    by_cases hkN : k < N
    · have hkn : (k : Int) < 16 := by have := HN6.out; omega
      have hk16 : k ≤ 16 := by have := HN.out; omega
      have hin : 8 + 16 * k + 16 ≤ s.size := by have := HIN.out; omega
      have h8 := big8_at hin
      have h4 := big4_at hin
      obtain ⟨Ja, hJa⟩ : ∃ J : Nat, J = 8 + 16 * k := ⟨_, rfl⟩
      obtain ⟨Jb, hJb⟩ : ∃ J : Nat, J = 8 + 16 * k + 8 := ⟨_, rfl⟩
      have HRD := Lib.hid (show listC s (k + 1) = listC s k ++ [⟨IntKind.i64.wrap (big s Ja 8 : Int), (big s Jb 4 : Int)⟩] by rw [listC_succ, hJa, hJb]; rfl)
      have hok8 : okB s (Ja : Int) 8 = true := okB_yes (by omega)
      have hok4 : okB s (Jb : Int) 4 = true := okB_yes (by omega)
      have hb4 := big_lt s Jb 4
      have hp4 : (256 : Nat) ^ 4 = 4294967296 := rfl
      have hw4 : IntKind.i64.wrap ((big s Jb 4 : Nat) : Int) = ((big s Jb 4 : Nat) : Int) := IntWalk.i64_in _ (by omega)
      rw [← hJa] at h8
      rw [← hJb] at h4
      have hB1 := Lib.hid (fun v => big_any s (Ja : Int) 8 v (by have := HZ.out; unfold maxLen; omega))
      have hB2 := Lib.hid (fun v => big_any s (Jb : Int) 4 v (by have := HZ.out; unfold maxLen; omega))
      rw [h8, hok8] at hB1
      rw [h4, hok4] at hB2
      have HLA := Lib.hid (fun v => lbaAt_any k (by omega) v)
      have HBA := Lib.hid (fun v => blocksAt_any k (by omega) v)
      rw [show 8 + 16 * k = Ja from hJa.symm] at HLA
      rw [show 16 + 16 * k = Jb by omega] at HBA
      clear h8 h4 hb4 hp4 hok8 hok4 hJa hJb hin
      generalize ((big s Ja 8 : Nat) : Int) = u8 at *
      generalize ((big s Jb 4 : Nat) : Int) = x4 at *
      obtain ⟨x8, hx8⟩ : ∃ x, IntKind.i64.wrap u8 = x := ⟨_, rfl⟩
      rw [hx8] at HRD
      have HM := Lib.hid (show k + 1 ≤ maxLen by unfold maxLen; omega)
      have HY := Lib.hid (show (k + 1) * 16 ≤ 140737488355328 by omega)
      go_wp2_with (fail)
      refine (HLA.out _).mono ?_; rintro e y ⟨rfl, rfl⟩
      go_wp2_with (fail)
      refine (hB1.out _).mono ?_; rintro e v1 ⟨rfl, hb⟩
      have HB1 := Lib.hid (HB.out.trans (hb.mono HB.out.size)); have HO1 := Lib.hid (own_belowP HOW.out hb)
      clear hb
      go_wp2_with (fail)
      refine (HBA.out _).mono ?_; rintro e y ⟨rfl, rfl⟩
      go_wp2_with (fail)
      refine (hB2.out _).mono ?_; rintro e v2 ⟨rfl, hb⟩
      have HB2 := Lib.hid (HB1.out.trans (hb.mono HB1.out.size)); have HO2 := Lib.hid (own_belowP HO1.out hb)
      have HO3 := Lib.hid (HO2.out.alloc (.cells #[.int .i64 x8, .int .i64 x4] 58))
      have HBS := Lib.hid (show w.heap.size ≤ (v2.alloc (.cells #[.int .i64 x8, .int .i64 x4] 58)).heap.size by have := HB2.out.size; simp; omega)
      clear hb
      go_wp2_with (at_builtin; refine wpList_append_own_at _ rfl (.tmp 34) (.tmp 40) _ rfl w.heap.size 58 i0 _ 2 16 Try.underlying33 hi0 hz0 hz1 hz2 rfl (by omega) (.slice A1 k c1) k (rcs (listC s k)) rfl HO3.out _ 1 1 [.int .i64 x8, .int .i64 x4] rfl rfl (cells_twoI _ _ _ _ rfl) two_cellsI HM.out HY.out HBS.out ?_; intro v4 w4 hown4 hg4 hn4 hat4; have HW4 := Lib.hid hown4; have HG4 := Lib.hid hg4; clear hown4 hg4 hn4 hat4)
      go_roundw
      case rel =>
        refine ⟨k + 1, by omega, by go_num, ?_, ?_⟩
        · rw [HRD.out, ← rcs_snoc]
          exact HW4
        · exact Lib.hid ((HB2.out.alloc HB2.out.size _).grown HG4.out HBS.out (fun g hg => (HO3.out.lt g hg).1))
      case measure => simp [intOf]; omega
    · obtain rfl : k = N := by omega
      have hkn : ¬ (k : Int) < 16 := by have := HN6.out; omega
      obtain ⟨A2, c2, hAc, hw, hbase⟩ := rngs_of_own HOW.out (listC_length s k) listC_wf
      have HLN := Lib.hid (listC_length s k)
      rw [HLN.out] at hAc
      injection hAc with hA1 _ hc1
      subst hA1; subst hc1
      have HRW := Lib.hid hw; clear hw hbase HOW
      have HUM := Lib.hid (fun v (h : Rngs v A1 (listC s k)) => HUN.out A1 c1 v h)
      cases hu : unX (listC s k) with
      | none =>
        have HV := Lib.hid (HNO.out (by rw [hu]; exact fun h => by cases h))
        rw [hu] at HUM
        have HUZ : Hid (∀ v, Rngs v A1 (listC s k) → Calls Try.prog 16 #[.slice A1 k c1] v fun e w' => e = .returned (.tuple #[.string ⟨#[]⟩, .int .i64 180]) ∧ Below v.heap.size v w') := Lib.hid (fun v hv => HUM.out v hv)
        clear hu HUN HUM HNO
        go_wp2_with (fail)
        refine (HUZ.out _ HRW.out).mono ?_; rintro e v1 ⟨rfl, hb⟩
        have HB1 := Lib.hid (HB.out.trans (hb.mono HB.out.size)); clear hb
        go_wp2_with (fail)
        go_ret2
        exact rg_none HV.out rfl HB1.out
      | some t =>
        rw [hu] at HUM
        have HUZ : Hid (∀ v, Rngs v A1 (listC s k) → Calls Try.prog 16 #[.slice A1 k c1] v fun e w' => e = .returned (.tuple #[.string t, .int .i64 0]) ∧ Below v.heap.size v w') := Lib.hid (fun v hv => HUM.out v hv)
        by_cases ht : t = s
        · subst ht
          have HV := Lib.hid (un_back hu)
          have q5 : (t.toList != t.toList) = false := by simp
          clear hu HUN HUM HNO
          go_wp2_with (fail)
          refine (HUZ.out _ HRW.out).mono ?_; rintro e v1 ⟨rfl, hb⟩
          have HB1 := Lib.hid (HB.out.trans (hb.mono HB.out.size)); have HR1 := Lib.hid (HRW.out.below hb); clear hb
          go_wp2_with (fail)
          go_ret2
          exact rg_some HV.out HLN.out rfl HR1.out HB1.out
        · have HV := Lib.hid (HNO.out (by rw [hu]; exact fun h => ht (Option.some.inj h)))
          have q5 : ¬ t.toList = s.toList := fun h => ht (toList_inj17 h)
          have q6 : (t.toList == s.toList) = false := by rw [beq_eq_false_iff_ne]; exact q5
          clear hu HUN HUM HNO ht
          go_wp2_with (fail)
          refine (HUZ.out _ HRW.out).mono ?_; rintro e v1 ⟨rfl, hb⟩
          have HB1 := Lib.hid (HB.out.trans (hb.mono HB.out.size)); clear hb
          go_wp2_with (fail)
          go_ret2
          exact rg_none HV.out rfl HB1.out
theorem ranges_any (s : ByteArray) (w : World) (hz : s.size ≤ 100000) : Calls Try.prog 18 #[.string s] w (RgOut (raX s) w) := by
  have e1 : IntKind.i64.wrap ((s.size : Int) - 8) = (s.size : Int) - 8 := IntWalk.i64_in _ (by omega)
  have key : wrap64 (((s.size : Int) - 8).tdiv 16) = (((s.size - 8) / 16 : Nat) : Int) := by
    by_cases h8 : s.size < 8
    · have hd : ((s.size : Int) - 8).tdiv 16 = 0 := by
        rw [show (s.size : Int) - 8 = -((8 - s.size : Nat) : Int) by omega, Int.neg_tdiv, show ((8 - s.size : Nat) : Int).tdiv 16 = (((8 - s.size) / 16 : Nat) : Int) from rfl, show (8 - s.size) / 16 = 0 by omega]
        rfl
      rw [hd, show (s.size - 8) / 16 = 0 by omega, IntWalk.wrap64_in _ (by decide)]
      rfl
    · rw [show (s.size : Int) - 8 = ((s.size - 8 : Nat) : Int) by omega, show ((s.size - 8 : Nat) : Int).tdiv 16 = (((s.size - 8) / 16 : Nat) : Int) from rfl, IntWalk.wrap64_in _ (by omega)]
  by_cases hq : (s.size - 8) / 16 ≤ 16
  · exact ranges_few s w ((s.size - 8) / 16) _ hz hq (by omega) (fun h => ra_not (Or.inl ⟨rfl, hq⟩) h) e1 key
  · exact ranges_lot s w 16 _ hz (by decide) (by omega) (fun h => ra_not (Or.inr ⟨rfl, by omega⟩) h) e1 _ rfl key (by omega)
theorem code17 : Code17 fun _ => True where
  bel := fun _ _ _ _ => trivial
  page := fun n id th p w _ _ _ _ => page_any n id th p w
  cap := fun b w _ _ => cap_any b w
  list := fun n w _ _ => list_any n w
theorem code17b : Code17b fun _ => True where
  unmap := fun A c l w _ h _ => unmap_any A c l w h
  ranges := fun s w _ hz => ranges_any s w hz
end Go.Proofs.Ytgncllhhajjnlaa
