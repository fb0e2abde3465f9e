/- The ranges of any list: the document's Ranges. -/
import Derived.Test.YtgncllhhajjnlaaInI
namespace Go.Proofs.Ytgncllhhajjnlaa
open Go.RowKit
def rdR (s : ByteArray) (i : Nat) : Rn := ⟨(big s (8 + 16 * i) 8 : Int), (big s (8 + 16 * i + 8) 4 : Int)⟩
def listR (s : ByteArray) (n : Nat) : List Rn := (List.range n).map (rdR s)
theorem listR_length (s : ByteArray) (n : Nat) : (listR s n).length = n := by simp [listR]
theorem listR_succ (s : ByteArray) (n : Nat) : listR s (n + 1) = listR s n ++ [rdR s n] := by simp [listR, List.range_succ]
theorem listR_mem {s : ByteArray} {n : Nat} {x : Rn} (h : x ∈ listR s n) : ∃ i, i < n ∧ x = rdR s i := by
  obtain ⟨i, hi, rfl⟩ := List.mem_map.1 h
  exact ⟨i, List.mem_range.1 hi, rfl⟩
/-- The ranges whose list this is. -/
def raX (s : ByteArray) : Option (List Rn) := if 8 ≤ s.size ∧ (s.size - 8) % 16 = 0 ∧ (s.size - 8) / 16 ≤ 16 ∧ unX (listR s ((s.size - 8) / 16)) = some s then some (listR s ((s.size - 8) / 16)) else none
/-- What Ranges answers. -/
def RgOut (o : Option (List Rn)) (w : World) (e : Ending) (w' : World) : Prop :=
  (∃ A c, e = .returned (.tuple #[.slice A (o.getD []).length c, .int .i64 (if o.isSome = true then 0 else 180)]) ∧ Rngs w' A (o.getD [])) ∧ Below w.heap.size w w'
theorem rg_none {o : Option (List Rn)} {w w' : World} {e : Ending} (h : o = none) (he : e = .returned (.tuple #[.slice none 0 0, .int .i64 180])) (hb : Below w.heap.size w w') : RgOut o w e w' := by
  subst h
  exact ⟨⟨none, 0, he, fun hn => absurd hn (Nat.not_lt_zero _)⟩, hb⟩
theorem rg_some {o : Option (List Rn)} {l : List Rn} {w w' : World} {e : Ending} {A : Option Addr} {c n : Nat} (h : o = some l) (hn : l.length = n) (he : e = .returned (.tuple #[.slice A n c, .int .i64 0])) (hr : Rngs w' A l) (hb : Below w.heap.size w w') : RgOut o w e w' := by
  subst h hn
  exact ⟨⟨A, c, he, hr⟩, hb⟩
theorem ra_short {s : ByteArray} (h : s.size < 8) : raX s = none := by
  unfold raX
  rw [if_neg (fun hc => by omega)]
theorem ra_odd {s : ByteArray} {m : Nat} (hs : s.size = m + 8) (h : m % 16 ≠ 0) : raX s = none := by
  unfold raX
  rw [if_neg (fun hc => h (by have := hc.2.1; rw [hs] at this; simpa using this))]
theorem ra_many {s : ByteArray} {m : Nat} (hs : s.size = m + 8) (h : 16 < m / 16) : raX s = none := by
  unfold raX
  rw [if_neg (fun hc => by have := hc.2.2.1; rw [hs] at this; simp at this; omega)]
theorem ra_bad {s : ByteArray} {n k : Nat} (hs : s.size = 8 + 16 * n) (hk : k < n) (h : goodR (rdR s k) = false) : raX s = none := by
  unfold raX
  rw [if_neg]
  rintro ⟨_, _, _, hu⟩
  rw [show (s.size - 8) / 16 = n by omega] at hu
  unfold unX at hu
  split at hu
  · rename_i hc
    have := (List.all_eq_true.1 hc.2) (rdR s k) (List.mem_map.2 ⟨k, List.mem_range.2 hk, rfl⟩)
    rw [h] at this
    cases this
  · cases hu
theorem ra_no {s : ByteArray} {n : Nat} (hs : s.size = 8 + 16 * n) (h : unX (listR s n) ≠ some s) : raX s = none := by
  unfold raX
  rw [if_neg]
  rintro ⟨_, _, _, hu⟩
  rw [show (s.size - 8) / 16 = n by omega] at hu
  exact h hu
theorem ra_yes {s : ByteArray} {n : Nat} (hs : s.size = 8 + 16 * n) (hn : n ≤ 16) (h : unX (listR s n) = some s) : raX s = some (listR s n) := by
  unfold raX
  have e : (s.size - 8) / 16 = n := by omega
  rw [e, if_pos ⟨by omega, by omega, hn, h⟩]
theorem cells_twoI (w : World) (x y : Value) (t : TypeId) {m : Nat} (hm : w.heap.size = m) : ∀ j u, [x, y][j]? = some u → (w.alloc (.cells #[x, y] t)).cell? ((⟨m, 0, none⟩ : Addr).add j) = some u := by
  subst hm
  intro j u hj
  match j, hj with
  | 0, hj => simp at hj; subst hj; simp [Addr.add]
  | 1, hj => simp at hj; subst hj; simp [Addr.add]
theorem two_cellsI {i j : Int} : ∀ u ∈ [Value.int .i64 i, .int .i64 j], u.oneCell' = true := by
  intro u hu
  simp at hu
  rcases hu with rfl | rfl <;> rfl
theorem rcs_snoc : ∀ (l : List Rn) (x : Rn), rcs l ++ [.int .i64 x.l, .int .i64 x.b] = rcs (l ++ [x])
  | [], _ => rfl
  | y :: l, x => by
    show (.int .i64 y.l : Value) :: .int .i64 y.b :: (rcs l ++ _) = .int .i64 y.l :: .int .i64 y.b :: rcs (l ++ [x])
    rw [rcs_snoc l x]
theorem toList_inj17 {a b : ByteArray} (h : a.toList = b.toList) : a = b := bytes_ext (by rw [← ByteArray.toList_eq, ← ByteArray.toList_eq]; exact h)
theorem big8_at {s : ByteArray} {k : Nat} (h : 8 + 16 * k + 16 ≤ s.size) : bigR s ((8 + 16 * k : Nat) : Int) 8 = big s (8 + 16 * k) 8 := bigR_yes (a := 8 + 16 * k) (n := 8) (okB_yes (by omega))
theorem big4_at {s : ByteArray} {k : Nat} (h : 8 + 16 * k + 16 ≤ s.size) : bigR s ((8 + 16 * k + 8 : Nat) : Int) 4 = big s (8 + 16 * k + 8) 4 := bigR_yes (a := 8 + 16 * k + 8) (n := 4) (okB_yes (by omega))
set_option maxRecDepth 100000 in
set_option maxHeartbeats 8000000 in
theorem refRanges_any (s : ByteArray) (w : World) (hz : s.size ≤ 100000) : Calls Try.prog 19 #[.string s] w (RgOut (raX s) w) := by
  by_cases h8 : s.size < 8
  · have HV := Lib.hid (ra_short h8)
    have hi : (s.size : Int) < 8 := by omega
    clear hz
    go_enter Try.func19, Try.ntmps19
    go_wp2_with (fail)
    go_ret2
    exact rg_none HV.out rfl (Below.refl _ _)
  obtain ⟨m, hm⟩ : ∃ m, s.size = m + 8 := ⟨s.size - 8, by omega⟩
  have hi : ¬ (s.size : Int) < 8 := by omega
  have e1 : IntKind.i64.wrap ((s.size : Int) - 8) = (m : Int) := by rw [hm]; rw [show (((m + 8 : Nat) : Int) - 8) = (m : Int) by omega]; exact IntWalk.i64_in _ (by omega)
  by_cases hodd : m % 16 = 0
  · by_cases hmany : m / 16 ≤ 16
    · obtain ⟨n, hn⟩ : ∃ n, n = m / 16 := ⟨_, rfl⟩
      have hmn : m = 16 * n := by omega
      have hn16 : n ≤ 16 := by omega
      clear hn hodd hmany
      subst hmn
      have hsz : s.size = 8 + 16 * n := by omega
      clear hm
      have hq : ((16 * n : Nat) : Int) % 16 = 0 := by omega
      have ed : wrap64 (((16 * n : Nat) : Int) / 16) = (n : Int) := by rw [IntWalk.wrap64_in _ (by omega)]; omega
      have hq2 : ¬ (16 : Int) < (n : Int) := by omega
      obtain ⟨M, hM⟩ : ∃ M : Nat, M = 16 * n := ⟨_, rfl⟩
      rw [← hM] at e1 hq ed
      obtain ⟨S, hS⟩ : ∃ S : Nat, S = s.size := ⟨_, rfl⟩
      rw [← hS] at hi e1
      obtain ⟨i0, hi0, hz0, hz1, hz2⟩ := info_parts infoRg
      have HSZ := Lib.hid hsz
      have HSS := Lib.hid hS
      have HM16 := Lib.hid hn16
      have hsS : (s.size : Int) = (S : Int) := by rw [hS]
      clear hsz hM hS hz
      go_enter Try.func19, Try.ntmps19
      go_upto_if 28 with (fail)
      go_wp2_with (fail)
      clear e1 hi hq ed hq2
      go_loopw [4, 5] (fun v i wr => ∃ k I : Nat, k ≤ n ∧ I = 8 + 16 * k ∧ i = .int .i64 (I : Int) ∧ Hid (wr.ownsRow w.heap.size 58 2 v k (rcs (listR s k))) ∧ Hid (∀ j, j < k → (rdR s j).l < 2147483648) ∧ Hid (Below w.heap.size w wr)) (fun _ i _ => 8 + 16 * n - (intOf i).toNat)
      case atStart => exact ⟨0, 8, by omega, rfl, rfl, Lib.hid (World.ownsRow_nil _ _ _ _), Lib.hid (fun j h => by omega), Lib.hid (Below.refl _ _)⟩
      case round =>
        obtain ⟨k, I, hk, hI, rfl, HOW, HJ, HBL⟩ := hrel
        obtain ⟨A1, c1, rfl⟩ := own_form HOW.out
        have HI := Lib.hid hI
        by_cases hlt : k < n
        · have hki : (I : Int) < (S : Int) := by have h1 := HSS.out; have h2 := HSZ.out; omega
          have hin : 8 + 16 * k + 16 ≤ s.size := by have := HSZ.out; omega
          have h8 := big8_at hin
          have h4 := big4_at hin
          rw [← hI] at h8 h4
          obtain ⟨J, hJ⟩ : ∃ J, J = I + 8 := ⟨_, rfl⟩
          have hRD := Lib.hid (show rdR s k = ⟨(big s I 8 : Int), (big s J 4 : Int)⟩ by unfold rdR; rw [hJ, hI])
          have hok8 : okB s (I : Int) 8 = true := okB_yes (by omega)
          have hok4 : okB s (J : Int) 4 = true := okB_yes (by omega)
          rw [← hJ] at h4
          have e2 : IntKind.i64.wrap ((I : Int) + 8) = (J : Int) := by rw [hJ]; exact IntWalk.i64_in _ (by omega)
          have hb4 := big_lt s J 4
          have hB1 := Lib.hid (fun v => refBig_any s (I : Int) 8 v (by have := HSZ.out; unfold maxLen; omega))
          have hB2 := Lib.hid (fun v => refBig_any s (J : Int) 4 v (by have := HSZ.out; unfold maxLen; omega))
          rw [h8, hok8] at hB1
          rw [h4, hok4] at hB2
          have HP8 := Lib.hid (show (0 : Int) ≤ ((big s I 8 : Nat) : Int) by omega)
          have HP4 := Lib.hid (show (0 : Int) ≤ ((big s J 4 : Nat) : Int) ∧ ((big s J 4 : Nat) : Int) < 4294967296 by have : (256 : Nat) ^ 4 = 4294967296 := rfl; omega)
          clear h8 h4 hb4
          generalize ((big s I 8 : Nat) : Int) = x8 at *
          generalize ((big s J 4 : Nat) : Int) = x4 at *
          obtain ⟨I2, hI2⟩ : ∃ I2, I2 = I + 16 := ⟨_, rfl⟩
          have e3 : wrap64 ((I : Int) + 16) = (I2 : Int) := by rw [hI2, IntWalk.wrap64_in _ (by omega)]; omega
          have HI2 := Lib.hid hI2
          clear hok8 hok4 hI hJ hin hI2
          by_cases hbig : (2147483648 : Int) ≤ x8
          · have HV := Lib.hid (ra_bad HSZ.out hlt (by rw [hRD.out]; exact decide_eq_false (fun h => by have := h.2.1; dsimp only at this; omega)))
            have hbi := hbig
            go_wp2_with (fail)
            refine (hB1.out _).mono ?_; rintro e v1 ⟨rfl, rfl⟩
            go_wp2_with (fail)
            refine (hB2.out _).mono ?_; rintro e v2 ⟨rfl, rfl⟩
            go_wp2_with (fail)
            go_ret2
            exact rg_none HV.out rfl HBL.out
          · have h0x := HP8.out; have hbi := hbig
            have hw8 : IntKind.i64.wrap x8 = x8 := IntWalk.i64_in _ (by omega)
            have hw4 : IntKind.i64.wrap x4 = x4 := IntWalk.i64_in _ (by have := HP4.out; omega)
            have HO3 := Lib.hid (HOW.out.alloc (.cells #[.int .i64 x8, .int .i64 x4] 58))
            have HM := Lib.hid (show k + 1 ≤ maxLen by unfold maxLen; have := HM16.out; omega)
            have HY := Lib.hid (show (k + 1) * 16 ≤ 140737488355328 by have := HM16.out; omega)
            have HBS := Lib.hid (show w.heap.size ≤ (wr.alloc (.cells #[.int .i64 x8, .int .i64 x4] 58)).heap.size by have := HBL.out.size; simp; omega)
            have HX8 := Lib.hid (show x8 < 2147483648 by omega)
            clear hbig h0x
            go_wp2_with (fail)
            refine (hB1.out _).mono ?_; rintro e v1 ⟨rfl, rfl⟩
            go_wp2_with (fail)
            refine (hB2.out _).mono ?_; rintro e v2 ⟨rfl, rfl⟩
            go_wp2_with (at_builtin; refine wpList_append_own_at _ rfl (.tmp 50) (.tmp 56) _ rfl w.heap.size 58 i0 _ 2 16 Try.underlying33 hi0 hz0 hz1 hz2 rfl (by omega) (.slice A1 k c1) k (rcs (listR s k)) rfl HO3.out _ 1 1 [.int .i64 x8, .int .i64 x4] rfl rfl (cells_twoI _ _ _ _ rfl) two_cellsI HM.out HY.out HBS.out ?_; intro v4 w4 hown4 hg4 hn4 hat4; have HW4 := Lib.hid hown4; have HG4 := Lib.hid hg4; clear hown4 hg4 hn4 hat4)
            go_roundw
            case rel =>
              refine ⟨k + 1, I2, by omega, by have := HI.out; have := HI2.out; omega, ?_, ?_, ?_, ?_⟩
              · rw [e3]
              · rw [listR_succ, hRD.out, ← rcs_snoc]
                exact HW4
              · refine Lib.hid (fun j hj => ?_)
                by_cases hjk : j = k
                · subst hjk; rw [hRD.out]; exact HX8.out
                · exact HJ.out j (by omega)
              · exact Lib.hid ((HBL.out.alloc HBL.out.size _).grown HG4.out HBS.out (fun g hg => (HOW.out.lt g hg).1))
            case measure =>
              rw [e3]
              have := HI.out; have := HI2.out
              simp only [intOf, Int.toNat_natCast]
              omega
        · obtain rfl : k = n := by omega
          have hki : ¬ (I : Int) < (S : Int) := by have h1 := HSS.out; have h2 := HSZ.out; omega
          obtain ⟨A2, c2, hAc, hw, hbase⟩ := rngs_of_own HOW.out (listR_length s k) (fun x hx => by
            obtain ⟨j, hj, rfl⟩ := listR_mem hx
            have h1 := HJ.out j hj
            have h2 : (rdR s j).l = ((big s (8 + 16 * j) 8 : Nat) : Int) := rfl
            have h3 : (rdR s j).b = ((big s (8 + 16 * j + 8) 4 : Nat) : Int) := rfl
            have h4 := big_lt s (8 + 16 * j + 8) 4
            have h5 : (256 : Nat) ^ 4 = 4294967296 := rfl
            exact ⟨by unfold In64; omega, by unfold In64; omega⟩)
          have HLN := Lib.hid (listR_length s k)
          rw [HLN.out] at hAc
          injection hAc with hA1 _ hc1
          subst hA1; subst hc1
          have HRW := Lib.hid hw; clear hw hbase HOW
          have HUN : Hid (∀ v, Rngs v A1 (listR s k) → Calls Try.prog 17 #[.slice A1 k c1] v fun e w' => e = .returned (pageV (unX (listR s k))) ∧ Below v.heap.size v w') := Lib.hid (fun v hv => by
            have := refUnmap_any A1 c1 (listR s k) v hv (by rw [HLN.out]; have := HM16.out; omega)
            rwa [HLN.out] at this)
          cases hu : unX (listR s k) with
          | none =>
            have HV := Lib.hid (ra_no HSZ.out (by rw [hu]; exact fun h => by cases h))
            rw [hu] at HUN
            have HUZ : Hid (∀ v, Rngs v A1 (listR s k) → Calls Try.prog 17 #[.slice A1 k c1] v fun e w' => e = .returned (.tuple #[.string ⟨#[]⟩, .int .i64 180]) ∧ Below v.heap.size v w') := Lib.hid (fun v hv => HUN.out v hv)
            clear hu HUN
            go_wp2_with (fail)
            refine (HUZ.out _ HRW.out).mono ?_; rintro e v1 ⟨rfl, hb⟩
            have HB1 := Lib.hid (HBL.out.trans (hb.mono HBL.out.size)); clear hb
            go_wp2_with (fail)
            go_ret2
            exact rg_none HV.out rfl HB1.out
          | some t =>
            rw [hu] at HUN
            have HUZ : Hid (∀ v, Rngs v A1 (listR s k) → Calls Try.prog 17 #[.slice A1 k c1] v fun e w' => e = .returned (.tuple #[.string t, .int .i64 0]) ∧ Below v.heap.size v w') := Lib.hid (fun v hv => HUN.out v hv)
            by_cases ht : t = s
            · subst ht
              have HV := Lib.hid (ra_yes HSZ.out HM16.out hu)
              have q5 : (t.toList != t.toList) = false := by simp
              clear hu HUN
              go_wp2_with (fail)
              refine (HUZ.out _ HRW.out).mono ?_; rintro e v1 ⟨rfl, hb⟩
              have HB1 := Lib.hid (HBL.out.trans (hb.mono HBL.out.size)); have HR1 := Lib.hid (HRW.out.below hb); clear hb
              go_wp2_with (fail)
              go_ret2
              exact rg_some HV.out HLN.out rfl HR1.out HB1.out
            · have HV := Lib.hid (ra_no HSZ.out (by rw [hu]; exact fun h => ht (Option.some.inj h)))
              have q5 : ¬ t.toList = s.toList := fun h => ht (toList_inj17 h)
              have q6 : (t.toList == s.toList) = false := by rw [beq_eq_false_iff_ne]; exact q5
              clear hu HUN ht
              go_wp2_with (fail)
              refine (HUZ.out _ HRW.out).mono ?_; rintro e v1 ⟨rfl, hb⟩
              have HB1 := Lib.hid (HBL.out.trans (hb.mono HBL.out.size)); clear hb
              go_wp2_with (fail)
              go_ret2
              exact rg_none HV.out rfl HB1.out
    · have HV := Lib.hid (ra_many hm (by omega))
      obtain ⟨q, hq0⟩ : ∃ q, q = m / 16 := ⟨_, rfl⟩
      have hq : (m : Int) % 16 = 0 := by omega
      have hq2 : (16 : Int) < (q : Int) := by omega
      have ed : wrap64 ((m : Int) / 16) = (q : Int) := by rw [IntWalk.wrap64_in _ (by omega)]; omega
      clear hq0 hmany hodd
      clear hz hm
      go_enter Try.func19, Try.ntmps19
      go_wp2_with (fail)
      go_ret2
      exact rg_none HV.out rfl (Below.refl _ _)
  · have HV := Lib.hid (ra_odd hm hodd)
    have hq : ¬ (m : Int) % 16 = 0 := by omega
    clear hz hm hodd
    go_enter Try.func19, Try.ntmps19
    go_wp2_with (fail)
    go_ret2
    exact rg_none HV.out rfl (Below.refl _ _)
end Go.Proofs.Ytgncllhhajjnlaa
