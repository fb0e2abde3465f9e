/- What a page tells of itself: the statement. -/
import Derived.Test.YtgncllhhajjnlaaInF
namespace Go.Proofs.Ytgncllhhajjnlaa
open Go.RowKit
theorem rowL_size (i : Nat) : (rowL i).size = 8 := by unfold rowL; rw [ByteArray.size_append, ByteArray.size_append, zerS_size]; rfl
theorem byt_rowL (i : Nat) (hi : i < 256) : byt (rowL i) 0 = 0 ∧ byt (rowL i) 1 = i := by
  have hs : ((⟨#[0]⟩ : ByteArray) ++ ⟨#[UInt8.ofNat i]⟩).size = 2 := by rw [ByteArray.size_append]; rfl
  unfold rowL
  rw [byt_app_left _ _ 0 (by omega), byt_app_left _ _ 1 (by omega)]
  refine ⟨(byt_app_left _ _ 0 (by decide)).trans rfl, (byt_app_right ⟨#[0]⟩ ⟨#[UInt8.ofNat i]⟩ 0).trans ?_⟩
  show (UInt8.ofNat i).toNat = i
  rw [UInt8.toNat_ofNat']; omega
theorem byt_rows (n i j : Nat) (hi : i < n) (hj : j < 8) : byt (rowsL n) (8 * i + j) = byt (rowL i) j := by
  induction n with
  | zero => omega
  | succ n ih =>
    show byt (rowsL n ++ rowL n) _ = _
    by_cases h : i < n
    · rw [byt_app_left _ _ _ (by rw [rowsL_size]; omega)]; exact ih h
    · obtain rfl : i = n := by omega
      have := byt_app_right (rowsL i) (rowL i) j
      rwa [rowsL_size] at this
theorem listS_is (n : Nat) (hn : n ≤ 256) : listS n = putHi (8 * n) ((4 : Nat) : Int) ++ zerS 4 ++ rowsL n := by
  unfold listS
  rw [if_neg (by omega)]
  rfl
theorem listT_size (n : Nat) : (putHi (8 * n) ((4 : Nat) : Int) ++ zerS 4).size = 8 := by rw [ByteArray.size_append, zerS_size, putHi_size _ 4 (by decide) (by decide)]
theorem listS_size (n : Nat) (hn : n ≤ 256) : (listS n).size = 8 + 8 * n := by rw [listS_is n hn, ByteArray.size_append, listT_size, rowsL_size]
theorem byt_list (n i : Nat) (hn : n ≤ 256) (hi : i < n) : byt (listS n) (8 + 8 * i) = 0 ∧ byt (listS n) (8 + 8 * i + 1) = i := by
  obtain ⟨h0, h1⟩ := byt_rowL i (by omega)
  rw [listS_is n hn]
  have e0 := byt_app_right (putHi (8 * n) ((4 : Nat) : Int) ++ zerS 4) (rowsL n) (8 * i + 0)
  have e1 := byt_app_right (putHi (8 * n) ((4 : Nat) : Int) ++ zerS 4) (rowsL n) (8 * i + 1)
  rw [listT_size, byt_rows n i 0 hi (by decide), h0] at e0
  rw [listT_size, byt_rows n i 1 hi (by decide), h1] at e1
  exact ⟨e0, by rw [Nat.add_assoc]; exact e1⟩
theorem ext_app_right (a b : ByteArray) : (a ++ b).extract a.size (a.size + b.size) = b := by
  apply ByteArray.ext
  rw [ByteArray.data_extract, ByteArray.data_append]
  apply Array.ext'
  rw [Array.toList_extract, Array.toList_append, List.extract_eq_take_drop]
  have hp : a.data.toList.length = a.size := rfl
  have hh : b.data.toList.length = b.size := rfl
  rw [← hp, List.drop_left, List.take_of_length_le (by rw [hh]; omega)]
theorem id_page (id : ByteArray) (h : id.size = 16) : (idP ++ id).size = 24 ∧ byt (idP ++ id) 3 = 20 ∧ (idP ++ id).extract 8 24 = id := by
  have h8 : idP.size = 8 := rfl
  refine ⟨by rw [ByteArray.size_append, h8, h], (byt_app_left _ _ 3 (by decide)).trans (by kernel_rfl), ?_⟩
  have := ext_app_right idP id
  rwa [h8, h] at this
theorem lim_page : limP.size = 64 ∧ byt limP 3 = 60 := by constructor <;> kernel_rfl
theorem list_page : listP.size = 7 ∧ byt listP 3 = 3 := by constructor <;> kernel_rfl
set_option maxRecDepth 100000 in
set_option maxHeartbeats 8000000 in
theorem inquiryReads_any {T : World → Prop} (P : Code17 T) (n : Int) (id : ByteArray) (hn : In64 n) (M : Nat) (hM : M < 256) (w : World) (ht : T w) : Calls Try.prog 7 #[unV n id, .int .u8 (M : Int)] w fun e w' => e = .returned (.bool true) ∧ Below w.heap.size w w' := by
  have HT := Lib.hid ht
  have HW := Lib.hid (fun v (hv : T v) => inquiry_wakes P v hv)
  clear ht
  by_cases h5 : id.size = 16
  · have q : ((id.size : Int) == 16) = true := by rw [h5]; rfl
    have q0 : (id.size : Int) = 16 := by rw [h5]; rfl
    have HA := Lib.hid (fun v (hv : T v) => P.page n id true 256 v hv hn (by unfold In64; omega) (by omega))
    have HI := Lib.hid (fun v (hv : T v) => P.page n id true 387 v hv hn (by unfold In64; omega) (by omega))
    have HC := Lib.hid (fun v (hv : T v) => P.page n id true 432 v hv hn (by unfold In64; omega) (by omega))
    have HL := Lib.hid (fun v (hv : T v) => P.list M v hv (by unfold In64; omega))
    have ea : pageX id true 256 = some listP := by unfold pageX; simp
    have ei : pageX id true 387 = some (idP ++ id) := by unfold pageX; simp [h5]
    have ec : pageX id true 432 = some limP := by unfold pageX; simp
    rw [ea] at HA; rw [ei] at HI; rw [ec] at HC
    clear ea ei ec
    replace HA : Hid (∀ v, T v → Calls Try.prog 9 #[unV n id, .bool true, .int .i64 256] v fun e w' => e = .returned (.tuple #[.string listP, .int .i64 0]) ∧ Below v.heap.size v w') := HA
    replace HI : Hid (∀ v, T v → Calls Try.prog 9 #[unV n id, .bool true, .int .i64 387] v fun e w' => e = .returned (.tuple #[.string (idP ++ id), .int .i64 0]) ∧ Below v.heap.size v w') := HI
    replace HC : Hid (∀ v, T v → Calls Try.prog 9 #[unV n id, .bool true, .int .i64 432] v fun e w' => e = .returned (.tuple #[.string limP, .int .i64 0]) ∧ Below v.heap.size v w') := HC
    obtain ⟨sa, ba⟩ := list_page
    obtain ⟨sc, bc⟩ := lim_page
    obtain ⟨si, bi, xi⟩ := id_page id h5
    have sl := listS_size M (by omega)
    have HBL := Lib.hid (fun i (hi : i < M) => byt_list M i (by omega) hi)
    generalize listP = A at *
    generalize limP = C at *
    generalize idP ++ id = B at *
    generalize listS M = L at *
    have xa := fun w => index_byt A 3 3 rfl (by omega) w
    have xb := fun w => index_byt B 3 3 rfl (by omega) w
    have xc := fun w => index_byt C 3 3 rfl (by omega) w
    rw [ba] at xa; rw [bi] at xb; rw [bc] at xc
    have m1 : IntKind.i64.wrap (M : Int) = (M : Int) := IntWalk.i64_in _ (by omega)
    have m2 : IntKind.i64.wrap (8 * (M : Int)) = 8 * (M : Int) := IntWalk.i64_in _ (by omega)
    have m3 : IntKind.i64.wrap (8 + 8 * (M : Int)) = 8 + 8 * (M : Int) := IntWalk.i64_in _ (by omega)
    have r1 : (8 : Int) ≤ (B.size : Int) := by omega
    have ql : ((L.size : Int) == 8 + 8 * (M : Int)) = true := by rw [sl]; simp
    have qi : (id.toList == id.toList) = true := by simp
    have HSL := Lib.hid sl
    clear ba bi bc h5 hn
    go_enter Try.func7, Try.ntmps7
    go_upto_region 1 with (fail)
    change Code.wp _ _ _ _ (w.alloc (.cells (unC n id) 23))
    have HB := Lib.hid ((Below.refl w.heap.size w).alloc (Nat.le_refl _) (.cells (unC n id) 23))
    have HX := Lib.hid (Blk.new w 23 (unC n id))
    obtain ⟨g, hg⟩ : ∃ g, g = w.heap.size := ⟨_, rfl⟩
    have HG := Lib.hid hg
    rw [← hg] at HX ⊢
    clear hg
    generalize w.alloc (.cells (unC n id) 23) = v0 at *
    have c1 : v0.cell? ⟨g, 1, none⟩ = some (.string id) := HX.out.cell 1
    go_upto_region 3 with (fail)
    refine wp_region_lit ?_
    refine wpList_load_row rfl 23 (.tmp 2) rfl g rfl 23 (unC n id) (0, 0) _ HX.out Try.underlying23 rfl un_info ?_
    go_wp2_with (fail)
    refine (HA.out _ (tt17 P HT HB)).mono ?_; rintro e v1 ⟨rfl, hb⟩
    replace HB := Lib.hid (HB.out.trans (hb.mono HB.out.size)); replace HX := Lib.hid (HX.out.below hb HX.out.lt); clear hb
    go_upto_region 4 with (fail)
    refine wp_region_lit ?_
    refine wpList_load_row rfl 23 (.tmp 2) rfl g rfl 23 (unC n id) (0, 0) _ HX.out Try.underlying23 rfl un_info ?_
    go_wp2_with (fail)
    refine (HI.out _ (tt17 P HT HB)).mono ?_; rintro e v2 ⟨rfl, hb⟩
    replace HB := Lib.hid (HB.out.trans (hb.mono HB.out.size)); replace HX := Lib.hid (HX.out.below hb HX.out.lt); clear hb
    go_upto_region 5 with (fail)
    refine wp_region_lit ?_
    refine wpList_load_row rfl 23 (.tmp 2) rfl g rfl 23 (unC n id) (0, 0) _ HX.out Try.underlying23 rfl un_info ?_
    go_wp2_with (fail)
    refine (HC.out _ (tt17 P HT HB)).mono ?_; rintro e v3 ⟨rfl, hb⟩
    replace HB := Lib.hid (HB.out.trans (hb.mono HB.out.size)); replace HX := Lib.hid (HX.out.below hb HX.out.lt); clear hb
    clear c1
    have c1 : v3.cell? ⟨g, 1, none⟩ = some (.string id) := HX.out.cell 1
    go_wp2_with (fail)
    refine (HL.out _ (tt17 P HT HB)).mono ?_; rintro e v4 ⟨rfl, hb⟩
    replace HB := Lib.hid (HB.out.trans (hb.mono HB.out.size)); replace HX := Lib.hid (HX.out.below hb HX.out.lt); clear hb
    clear c1
    have c1 : v4.cell? ⟨g, 1, none⟩ = some (.string id) := HX.out.cell 1
    go_wp2_with (fail)
    go_region
    go_wp2_with (fail)
    clear c1 xa xb xc xi qi r1 ql
    go_loopw [12] (fun i wr => ∃ k : Nat, k ≤ M ∧ i = .int .i64 k ∧ Hid (Below w.heap.size w wr)) (fun i _ => M - (intOf i).toNat)
    case atStart => exact ⟨0, by omega, rfl, Lib.hid HB.out.drew⟩
    case round =>
      clear HB
      obtain ⟨k, hk, rfl, HB⟩ := hrel
      by_cases hkM : (k : Int) < (M : Int)
      · obtain ⟨b0, b1⟩ := HBL.out k (by omega)
        have e1 : IntKind.i64.wrap (8 * (k : Int)) = 8 * (k : Int) := IntWalk.i64_in _ (by omega)
        have e2 : IntKind.i64.wrap (8 + 8 * (k : Int)) = 8 + 8 * (k : Int) := IntWalk.i64_in _ (by omega)
        have e3 : IntKind.i64.wrap (8 + 8 * (k : Int) + 1) = 8 + 8 * (k : Int) + 1 := IntWalk.i64_in _ (by omega)
        have e4 : IntKind.i64.wrap (k : Int) = (k : Int) := IntWalk.i64_in _ (by omega)
        have e5 : IntKind.i64.wrap ((k : Int) + 1) = (k : Int) + 1 := IntWalk.i64_in _ (by omega)
        have x0 := fun w => index_byt L (8 + 8 * (k : Int)) (8 + 8 * k) (by omega) (by rw [HSL.out]; omega) w
        have x1 := fun w => index_byt L (8 + 8 * (k : Int) + 1) (8 + 8 * k + 1) (by omega) (by rw [HSL.out]; omega) w
        rw [b0] at x0
        rw [b1] at x1
        have qk : ((k : Int) == (k : Int)) = true := by simp
        clear b0 b1
        go_wp2_with (fail)
        go_roundw
        case rel => exact ⟨k + 1, by omega, by go_num, HB⟩
        case measure => simp [intOf]; omega
      · go_wp2_with (fail)
        refine (HW.out _ (tt17 P HT HB)).mono ?_; rintro e v6 ⟨rfl, hb⟩
        replace HB := Lib.hid (HB.out.trans (hb.mono HB.out.size)); clear hb
        go_wp2_with (fail)
        go_ret
        exact ⟨rfl, HB.out⟩
  · have q : ((id.size : Int) == 16) = false := by simp; omega
    clear h5 hn
    go_enter Try.func7, Try.ntmps7
    go_upto_region 1 with (fail)
    change Code.wp _ _ _ _ (w.alloc (.cells (unC n id) 23))
    have HB := Lib.hid ((Below.refl w.heap.size w).alloc (Nat.le_refl _) (.cells (unC n id) 23))
    have HX := Lib.hid (Blk.new w 23 (unC n id))
    obtain ⟨g, hg⟩ : ∃ g, g = w.heap.size := ⟨_, rfl⟩
    have HG := Lib.hid hg
    rw [← hg] at HX ⊢
    clear hg
    generalize w.alloc (.cells (unC n id) 23) = v0 at *
    have c1 : v0.cell? ⟨g, 1, none⟩ = some (.string id) := HX.out.cell 1
    go_wp2_with (fail)
    refine (HW.out _ (tt17 P HT HB)).mono ?_; rintro e v1 ⟨rfl, hb⟩
    replace HB := Lib.hid (HB.out.trans (hb.mono HB.out.size)); clear hb
    go_wp2_with (fail)
    go_ret
    exact ⟨rfl, HB.out⟩
end Go.Proofs.Ytgncllhhajjnlaa
