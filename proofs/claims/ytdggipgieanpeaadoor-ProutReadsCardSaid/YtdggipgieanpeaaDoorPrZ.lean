/- The holder that is told: the code's keyOf and Holder; cdb's Number of anything. -/
import Derived.Test.YtdggipgieanpeaaDoorPrX
import Derived.Test.YtdggipgieanpeaaDoorPrN
namespace Go.Proofs.YtdggipgieanpeaaDoor.Pc
open Go.RowKit
theorem nuI_no {ty : Int} (h : ¬ (1 ≤ ty ∧ ty ≤ 6)) : nuI ty = 0 := by
  unfold nuI
  by_cases h0 : ty ≤ 0
  · rw [show ty.toNat = 0 by omega]; rfl
  · obtain ⟨n, rfl⟩ : ∃ n : Nat, ty = (n : Int) := ⟨ty.toNat, by omega⟩
    rw [Int.toNat_natCast, List.getD_eq_getElem?_getD, List.getElem?_eq_none (by simp; omega)]
    rfl
theorem nuI_lt (ty : Int) : nuI ty < 9 := by
  by_cases h : 1 ≤ ty ∧ ty ≤ 6
  · have : ty = 1 ∨ ty = 2 ∨ ty = 3 ∨ ty = 4 ∨ ty = 5 ∨ ty = 6 := by omega
    rcases this with rfl | rfl | rfl | rfl | rfl | rfl <;> decide
  · rw [nuI_no h]; decide
theorem nuI_zero (ty : Int) : nuI ty = 0 ↔ ¬ (1 ≤ ty ∧ ty ≤ 6) := by
  refine ⟨fun h hc => ?_, nuI_no⟩
  have : ty = 1 ∨ ty = 2 ∨ ty = 3 ∨ ty = 4 ∨ ty = 5 ∨ ty = 6 := by omega
  rcases this with rfl | rfl | rfl | rfl | rfl | rfl <;> exact absurd h (by decide)
set_option maxRecDepth 100000 in
theorem num_all (ty : Int) (w : World) (ht : NT w) : Calls Tryd.prog 9 #[.int .i64 ty] w fun e w' => e = .returned (.int .i64 (nuI ty : Nat)) ∧ Below w.heap.size w w' := by
  by_cases h : 1 ≤ ty ∧ ty ≤ 6
  · exact numCdb_any ty w ht h.1 h.2
  rw [nuI_no h]
  have n0 : w.cell? ⟨0, 0, none⟩ = some (.int .i64 0) := ht.nums 0 _ rfl
  clear ht
  have hc : ty < 0 ∨ ty = 0 ∨ (¬ ty < 0 ∧ 7 ≤ ty) := by omega
  clear h
  rcases hc with q | rfl | ⟨q, q2⟩
  all_goals
    go_enter Tryd.func9, Tryd.ntmps9
    go_wp2_with (fail)
    go_ret
    exact ⟨rfl, Below.refl _ _⟩
theorem find_next {l : List Rk} {p : Rk → Bool} {k : Nat} {x : Rk} (h : (l.take k).find? p = none) (hx : l[k]? = some x) (hp : p x = false) : (l.take (k + 1)).find? p = none := by
  rw [List.take_add_one, hx, Option.toList_some, List.find?_append, h]
  simp [hp]
theorem find_here {l : List Rk} {p : Rk → Bool} {k : Nat} {x : Rk} (h : (l.take k).find? p = none) (hx : l[k]? = some x) (hp : p x = true) : l.find? p = some x := by
  have hk := (List.getElem?_eq_some_iff.1 hx).1
  have hx2 : l[k] = x := (List.getElem?_eq_some_iff.1 hx).2
  have e : l.find? p = (l.take k ++ l.drop k).find? p := by rw [List.take_append_drop]
  rw [e, List.find?_append, h, List.drop_eq_getElem_cons hk, hx2]
  simp [hp]
set_option maxRecDepth 100000 in
set_option maxHeartbeats 4000000 in
theorem keyOf_any (ho : ByteArray) (A : Option Addr) (c : Nat) (l : List Rk) (w : World) (hl : Rks w A l) (hn : l.length ≤ 100000) : Calls Tryd.prog 16 #[.string ho, .slice A l.length c] w fun e w' => e = .returned (.int .u64 (keyO ho l : Int)) ∧ Below w.heap.size w w' := by
  by_cases h0 : ho.size = 0
  · have HV := Lib.hid (show keyO ho l = 0 by unfold keyO; rw [if_pos h0])
    have he : ho = ⟨#[]⟩ := by
      apply bytesL
      have : ho.data.toList.length = 0 := by simpa using h0
      exact List.eq_nil_of_length_eq_zero this
    subst he
    clear h0
    go_enter Tryd.func16, Tryd.ntmps16
    go_wp2_with (fail)
    go_ret
    exact ⟨by rw [HV.out]; rfl, Below.refl _ _⟩
  · have hne : ¬ ho.toList = [] := fun h => h0 (by
      rw [ByteArray.toList_eq] at h
      have := congrArg List.length h
      simpa using this)
    have hnb : (ho.toList == []) = false := by rw [beq_eq_false_iff_ne]; exact hne
    have hnb2 : ho.toList.isEmpty = false := by cases hq : ho.toList with | nil => exact absurd hq hne | cons a l => rfl
    have HV := Lib.hid (show keyO ho l = ((l.find? fun x => decide (x.h.toList = ho.toList)).map (·.k)).getD 0 by unfold keyO; rw [if_neg h0])
    have HL := Lib.hid hl
    clear hl h0
    go_enter Tryd.func16, Tryd.ntmps16
    go_wp2_with (fail)
    clear hne hnb hnb2
    go_loopw [11] (fun i v => ∃ k : Nat, k ≤ l.length ∧ i = .int .i64 k ∧ Hid ((l.take k).find? (fun x => decide (x.h.toList = ho.toList)) = none) ∧ Hid (Below w.heap.size w v)) (fun i _ => l.length - (intOf i).toNat)
    case atStart => exact ⟨0, Nat.zero_le _, rfl, Lib.hid rfl, Lib.hid (Below.refl _ _)⟩
    case round =>
      obtain ⟨k, hk, rfl, HF, HB⟩ := hrel
      by_cases hlt : k < l.length
      · obtain ⟨b, o, x, rfl, hx, hwf, c1, c2⟩ := (HL.out.below HB.out).at_ hlt
        have HX := Lib.hid hx
        clear hx hwf
        have hkm : (k : Int) < l.length := by omega
        have HB1 := Lib.hid (HB.out.alloc HB.out.size (.cells #[.string x.h, .int .u64 (x.k : Int)] 36))
        by_cases he : x.h.toList = ho.toList
        · have HR := Lib.hid (show keyO ho l = x.k by rw [HV.out, find_here HF.out HX.out (decide_eq_true he)]; rfl)
          have heb : (x.h.toList == ho.toList) = true := by rw [beq_iff_eq]; exact he
          go_wp2_with (fail)
          go_ret
          exact ⟨by rw [HR.out]; rfl, HB1.out⟩
        · have HN := Lib.hid (find_next HF.out HX.out (decide_eq_false he))
          have heb : (x.h.toList == ho.toList) = false := by rw [beq_eq_false_iff_ne]; exact he
          go_wp2_with (fail)
          go_roundw
          case rel => exact ⟨k + 1, by omega, by go_num, HN, HB1⟩
          case measure => simp [intOf]; omega
      · obtain rfl : k = l.length := by omega
        have HR := Lib.hid (show keyO ho l = 0 by
          have := HF.out
          rw [List.take_length] at this
          rw [HV.out, this]; rfl)
        go_wp2_with (fail)
        go_ret
        exact ⟨by rw [HR.out]; rfl, HB.out⟩
theorem tail_is {ty : Int} (h : 1 ≤ ty ∧ ty ≤ 6) : putHi (nuI ty) ((6 : Nat) : Int) ++ putHi 0 ((2 : Nat) : Int) = ⟨#[0, 0, 0, 0, 0, UInt8.ofNat (nuI ty), 0, 0]⟩ := by
  have : ty = 1 ∨ ty = 2 ∨ ty = 3 ∨ ty = 4 ∨ ty = 5 ∨ ty = 6 := by omega
  rcases this with rfl | rfl | rfl | rfl | rfl | rfl
  · exact (show putHi 1 ((6 : Nat) : Int) ++ putHi 0 ((2 : Nat) : Int) = (⟨#[0, 0, 0, 0, 0, 1, 0, 0]⟩ : ByteArray) by kernel_rfl)
  · exact (show putHi 3 ((6 : Nat) : Int) ++ putHi 0 ((2 : Nat) : Int) = (⟨#[0, 0, 0, 0, 0, 3, 0, 0]⟩ : ByteArray) by kernel_rfl)
  · exact (show putHi 5 ((6 : Nat) : Int) ++ putHi 0 ((2 : Nat) : Int) = (⟨#[0, 0, 0, 0, 0, 5, 0, 0]⟩ : ByteArray) by kernel_rfl)
  · exact (show putHi 6 ((6 : Nat) : Int) ++ putHi 0 ((2 : Nat) : Int) = (⟨#[0, 0, 0, 0, 0, 6, 0, 0]⟩ : ByteArray) by kernel_rfl)
  · exact (show putHi 7 ((6 : Nat) : Int) ++ putHi 0 ((2 : Nat) : Int) = (⟨#[0, 0, 0, 0, 0, 7, 0, 0]⟩ : ByteArray) by kernel_rfl)
  · exact (show putHi 8 ((6 : Nat) : Int) ++ putHi 0 ((2 : Nat) : Int) = (⟨#[0, 0, 0, 0, 0, 8, 0, 0]⟩ : ByteArray) by kernel_rfl)
theorem holdS_yes (g : Nat) {ty : Int} (h : 1 ≤ ty ∧ ty ≤ 6) (key : Nat) : holdS g ty key = headK g 16 ++ putHi key ((8 : Nat) : Int) ++ putHi (nuI ty) ((6 : Nat) : Int) ++ putHi 0 ((2 : Nat) : Int) := by
  unfold holdS
  rw [if_pos h, ← tail_is h]
  unfold headK
  simp only [ByteArray.append_assoc]
theorem holdS_no (g : Nat) {ty : Int} (h : ¬ (1 ≤ ty ∧ ty ≤ 6)) (key : Nat) : holdS g ty key = headK g 0 := by
  unfold holdS
  rw [if_neg h]
  rfl
set_option maxRecDepth 100000 in
set_option maxHeartbeats 4000000 in
theorem holder_any (g : Nat) (ty : Int) (ho : ByteArray) (A : Option Addr) (c : Nat) (l : List Rk) (w : World) (ht : NT w) (hg : g < 4294967296) (hl : Rks w A l) (hn : l.length ≤ 100000) : Calls Tryd.prog 7 #[.int .u32 (g : Int), .agg #[.int .i64 ty, .string ho], .slice A l.length c] w fun e w' => e = .returned (.string (holdS g ty (keyO ho l))) ∧ Below w.heap.size w w' := by
  have HX0 := Lib.hid (Blk.new w 24 #[.int .i64 ty, .string ho])
  have HB0 := Lib.hid ((Below.refl w.heap.size w).alloc (Nat.le_refl _) (.cells #[.int .i64 ty, .string ho] 24))
  have HT0 := Lib.hid (ht.below HB0.out)
  have HL0 := Lib.hid (hl.below HB0.out)
  have HNL := Lib.hid hn
  obtain ⟨N, hN⟩ : ∃ N, N = nuI ty := ⟨_, rfl⟩
  have HNU := Lib.hid (fun v hv => num_all ty v hv)
  have HGG := Lib.hid hg
  rw [← hN] at HNU
  by_cases h : 1 ≤ ty ∧ ty ≤ 6
  · have HV := Lib.hid (holdS_yes g h (keyO ho l))
    rw [← hN] at HV
    have hN9 : N < 9 := by rw [hN]; exact nuI_lt ty
    have hN0 : ¬ N = 0 := fun e => (nuI_zero ty).1 (hN.symm.trans e) h
    have q0 : ¬ (N : Int) = 0 := by omega
    have e1 : IntKind.u64.wrap (N : Int) = (N : Int) := IntWalk.u64_in _ (by omega)
    have HHD := Lib.hid (fun v => head_any g 16 HGG.out (by decide) v)
    have HKE := Lib.hid (fun v (hv : Rks v A l) => keyOf_any ho A c l v hv HNL.out)
    have h1 := headK_size g 16
    have h2 := put8 (keyO ho l)
    have h3 : (putHi N ((6 : Nat) : Int)).size = 6 := putHi_size N 6 (by decide) (by decide)
    have h4 : (putHi 0 ((2 : Nat) : Int)).size = 2 := putHi_size 0 2 (by decide) (by decide)
    generalize keyO ho l = K at *
    have HP1 := Lib.hid (fun v => putBig_any K ((8 : Nat) : Int) v)
    have HP2 := Lib.hid (fun v => putBig_any N ((6 : Nat) : Int) v)
    have HP3 := Lib.hid (fun v => putBig_any 0 ((2 : Nat) : Int) v)
    generalize headK g 16 = m1 at *
    generalize putHi K ((8 : Nat) : Int) = m2 at *
    generalize putHi N ((6 : Nat) : Int) = m3 at *
    generalize putHi 0 ((2 : Nat) : Int) = m4 at *
    have s1 : (m1 ++ m2).size = 16 := by rw [ByteArray.size_append, h1, h2]
    have s2 : (m1 ++ m2 ++ m3).size = 22 := by rw [ByteArray.size_append, s1, h3]
    have z1 : ¬ 9223372036854775807 < m1.size + m2.size := by omega
    have z2 : ¬ 9223372036854775807 < (m1 ++ m2).size + m3.size := by omega
    have z3 : ¬ 9223372036854775807 < (m1 ++ m2 ++ m3).size + m4.size := by omega
    obtain ⟨a1, ha1⟩ : ∃ a, a = m1 ++ m2 := ⟨_, rfl⟩
    rw [← ha1] at z2 z3 HV
    obtain ⟨a2, ha2⟩ : ∃ a, a = a1 ++ m3 := ⟨_, rfl⟩
    rw [← ha2] at z3 HV
    have HA1 := Lib.hid ha1
    have HA2 := Lib.hid ha2
    clear ht hl hn hg hN hN0 hN9 h h1 h2 h3 h4 s1 s2 ha1 ha2
    go_enter Tryd.func7, Tryd.ntmps7
    go_upto_region 1 with (fail)
    change Code.wp _ _ _ _ (w.alloc (.cells #[.int .i64 ty, .string ho] 24))
    generalize w.alloc (.cells #[.int .i64 ty, .string ho] 24) = v0 at *
    obtain ⟨p, hp⟩ : ∃ p, p = w.heap.size := ⟨_, rfl⟩
    rw [← hp] at HX0 ⊢
    clear hp
    have c0 : v0.cell? ⟨p, 0, none⟩ = some (.int .i64 ty) := HX0.out.cell 0
    go_wp2_with (fail)
    refine (HNU.out v0 HT0.out).mono ?_; rintro e v1 ⟨rfl, hb⟩
    have HX := Lib.hid (HX0.out.below hb HX0.out.lt); have HB := Lib.hid (HB0.out.trans (hb.mono HB0.out.size)); have HL := Lib.hid (HL0.out.below hb)
    clear hb c0
    have c1 : v1.cell? ⟨p, 1, none⟩ = some (.string ho) := HX.out.cell 1
    go_wp2_with (fail)
    refine (HKE.out v1 HL.out).mono ?_; rintro e v2 ⟨rfl, hb⟩
    replace HB := Lib.hid (HB.out.trans (hb.mono HB.out.size))
    clear hb c1
    go_wp2_with (fail)
    refine (HP1.out v2).mono ?_; rintro e v3 ⟨rfl, hb⟩
    replace HB := Lib.hid (HB.out.trans (hb.mono HB.out.size))
    clear hb
    go_upto_region 5 with (fail)
    refine wp_region_lit ?_
    refine wpList_runs rfl (some 21) rfl (.int .u32 (g : Int)) v3 (by rfl) ?_
    refine wpList_calls rfl (some 22) rfl 13 #[.int .u32 (g : Int), .int .i64 16] (by unfold execOp; simp [resolve, invoke, go_sem]) _ (HHD.out v3) ?_
    rintro e v4 ⟨rfl, hb⟩
    refine ⟨_, rfl, ?_⟩
    replace HB := Lib.hid (HB.out.trans (hb.mono HB.out.size))
    clear hb
    simp only [Act.put, List.setIfInBounds_toArray, List.set_cons_zero, List.set_cons_succ]
    refine wpList_runs rfl (some 23) rfl (.string m2) v4 (by rfl) ?_
    refine wpList_runs rfl (some 24) rfl (.string a1) v4 (by rw [HA1.out]; go_simp) ?_
    simp only [Act.put, List.setIfInBounds_toArray, List.set_cons_zero, List.set_cons_succ]
    refine wpList_runs rfl (some 25) rfl (.int .i64 (N : Int)) v4 (by rfl) ?_
    refine wpList_runs rfl (some 26) rfl (.int .u64 (N : Int)) v4 (by go_simp) ?_
    simp only [Act.put, List.setIfInBounds_toArray, List.set_cons_zero, List.set_cons_succ]
    refine wpList_calls rfl (some 27) rfl 14 #[.int .u64 (N : Int), .int .i64 6] (by unfold execOp; simp [resolve, invoke, go_sem]) _ (HP2.out v4) ?_
    rintro e v5 ⟨rfl, hb⟩
    refine ⟨_, rfl, ?_⟩
    replace HB := Lib.hid (HB.out.trans (hb.mono HB.out.size))
    clear hb
    simp only [Act.put, List.setIfInBounds_toArray, List.set_cons_zero, List.set_cons_succ]
    refine wpList_runs rfl (some 28) rfl (.string a2) v5 (by rw [HA2.out]; go_simp) ?_
    simp only [Act.put, List.setIfInBounds_toArray, List.set_cons_zero, List.set_cons_succ]
    refine wpList_calls rfl (some 29) rfl 14 #[.int .u64 0, .int .i64 2] (by unfold execOp; simp [resolve, invoke, go_sem]) _ (HP3.out v5) ?_
    rintro e v6 ⟨rfl, hb⟩
    refine ⟨_, rfl, ?_⟩
    replace HB := Lib.hid (HB.out.trans (hb.mono HB.out.size))
    clear hb
    simp only [Act.put, List.setIfInBounds_toArray, List.set_cons_zero, List.set_cons_succ]
    refine wpList_runs rfl (some 30) rfl (.string (a2 ++ m4)) v6 (by go_simp) ?_
    simp only [Act.put, List.setIfInBounds_toArray, List.set_cons_zero, List.set_cons_succ]
    refine wpList_runs rfl (some 6) rfl (.string (a2 ++ m4)) v6 (by rfl) ?_
    simp only [Act.put, List.setIfInBounds_toArray, List.set_cons_zero, List.set_cons_succ]
    go_wp2_with (fail)
    go_ret
    exact ⟨by rw [HV.out]; rfl, HB.out⟩
  · have HV := Lib.hid (holdS_no g h (keyO ho l))
    have hN0 : N = 0 := by rw [hN]; exact nuI_no h
    subst hN0
    have HHD := Lib.hid (fun v => head_any g 0 HGG.out (by decide) v)
    generalize headK g 0 = m1 at *
    clear ht hl hn hg hN h
    go_enter Tryd.func7, Tryd.ntmps7
    go_upto_region 1 with (fail)
    change Code.wp _ _ _ _ (w.alloc (.cells #[.int .i64 ty, .string ho] 24))
    generalize w.alloc (.cells #[.int .i64 ty, .string ho] 24) = v0 at *
    obtain ⟨p, hp⟩ : ∃ p, p = w.heap.size := ⟨_, rfl⟩
    rw [← hp] at HX0 ⊢
    clear hp
    have c0 : v0.cell? ⟨p, 0, none⟩ = some (.int .i64 ty) := HX0.out.cell 0
    go_wp2_with (fail)
    refine (HNU.out v0 HT0.out).mono ?_; rintro e v1 ⟨rfl, hb⟩
    have HB := Lib.hid (HB0.out.trans (hb.mono HB0.out.size))
    clear hb c0
    go_wp2_with (fail)
    refine (HHD.out v1).mono ?_; rintro e v2 ⟨rfl, hb⟩
    replace HB := Lib.hid (HB.out.trans (hb.mono HB.out.size))
    clear hb
    go_wp2_with (fail)
    go_ret
    exact ⟨by rw [HV.out]; rfl, HB.out⟩
end Go.Proofs.YtdggipgieanpeaaDoor.Pc
namespace Go.Proofs.YtdggipgieanpeaaDoor
open Go.RowKit
theorem code18r : Code18r NT where
  holder := fun g ty ho A c l w ht hg _ _ hl hn => Pc.holder_any g ty ho A c l w ht hg hl (by omega)
  number := fun ty w ht h1 h6 => numCdb_any ty w ht h1 h6
end Go.Proofs.YtdggipgieanpeaaDoor
