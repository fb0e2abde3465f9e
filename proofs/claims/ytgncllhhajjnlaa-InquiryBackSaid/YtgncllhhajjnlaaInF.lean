/- The statement of the pages. -/
import Derived.Test.YtgncllhhajjnlaaInE
namespace Go.Proofs.Ytgncllhhajjnlaa
open Go.RowKit
theorem un_info : (Try.prog.info? 23).map (·.size) = some 2 := by kernel_rfl
theorem pageV_eq (o : Option ByteArray) : ∃ b c, pageV o = .tuple #[.string b, .int .i64 c] := ⟨_, _, rfl⟩
set_option maxRecDepth 100000 in
set_option maxHeartbeats 4000000 in
theorem inquiryPages_any {T : World → Prop} (P : Code17 T) (n : Int) (id : ByteArray) (hn : In64 n) (th : Bool) (p : Int) (hp : In64 p) (w : World) (ht : T w) : Calls Try.prog 3 #[unV n id, .bool th, .int .i64 p] w fun e w' => e = .returned (.bool true) ∧ Below w.heap.size w w' := by
  have HT := Lib.hid ht
  have HW := Lib.hid (fun v (hv : T v) => inquiry_wakes P v hv)
  clear ht
  by_cases h5 : 5000 < id.size
  · have q : (5000 : Int) < (id.size : Int) := by omega
    clear h5 hn hp
    go_enter Try.func3, Try.ntmps3
    go_upto_region 1 with (fail)
    change Code.wp _ _ _ _ (w.alloc (.cells (unC n id) 23))
    have HB := Lib.hid ((Below.refl w.heap.size w).alloc (Nat.le_refl _) (.cells (unC n id) 23))
    have HX := Lib.hid (Blk.new w 23 (unC n id))
    obtain ⟨g, hg⟩ : ∃ g, g = w.heap.size := ⟨_, rfl⟩
    have HG := Lib.hid hg
    rw [← hg] at HX ⊢
    clear hg
    generalize w.alloc (.cells (unC n id) 23) = v0 at *
    have c1 : v0.cell? ⟨g, 1, none⟩ = some (.string id) := HX.out.cell 1
    go_wp2_with (fail)
    refine (HW.out _ (tt17 P HT HB)).mono ?_; rintro e v1 ⟨rfl, hb⟩
    replace HB := Lib.hid (HB.out.trans (hb.mono HB.out.size)); clear hb
    go_wp2_with (fail)
    go_ret
    exact ⟨rfl, HB.out⟩
  · have q : ¬ (5000 : Int) < (id.size : Int) := by omega
    obtain ⟨b, c, hbc⟩ := pageV_eq (pageX id th p)
    have HP8 := Lib.hid (fun v hv => P.page n id th p v hv hn hp (by omega))
    have HP9 := Lib.hid (fun v => refPage_any n id th p v)
    rw [hbc] at HP8 HP9
    have q1 : (b.toList == b.toList) = true := by simp
    have q2 : (c == c) = true := by simp
    clear hbc h5 hn hp
    go_enter Try.func3, Try.ntmps3
    go_upto_region 1 with (fail)
    change Code.wp _ _ _ _ (w.alloc (.cells (unC n id) 23))
    have HB := Lib.hid ((Below.refl w.heap.size w).alloc (Nat.le_refl _) (.cells (unC n id) 23))
    have HX := Lib.hid (Blk.new w 23 (unC n id))
    obtain ⟨g, hg⟩ : ∃ g, g = w.heap.size := ⟨_, rfl⟩
    have HG := Lib.hid hg
    rw [← hg] at HX ⊢
    clear hg
    generalize w.alloc (.cells (unC n id) 23) = v0 at *
    have c1 : v0.cell? ⟨g, 1, none⟩ = some (.string id) := HX.out.cell 1
    go_upto_region 3 with (fail)
    refine wp_region_lit ?_
    refine wpList_load_row rfl 23 (.tmp 3) rfl g rfl 23 (unC n id) (0, 0) _ HX.out Try.underlying23 rfl un_info ?_
    go_wp2_with (fail)
    refine (HP8.out _ (tt17 P HT HB)).mono ?_; rintro e v1 ⟨rfl, hb⟩
    replace HB := Lib.hid (HB.out.trans (hb.mono HB.out.size)); replace HX := Lib.hid (HX.out.below hb HX.out.lt); clear hb
    go_upto_region 4 with (fail)
    refine wp_region_lit ?_
    refine wpList_load_row rfl 23 (.tmp 3) rfl g rfl 23 (unC n id) (0, 0) _ HX.out Try.underlying23 rfl un_info ?_
    go_wp2_with (fail)
    refine (HP9.out _).mono ?_; rintro e v2 ⟨rfl, hb⟩
    replace HB := Lib.hid (HB.out.trans (hb.mono HB.out.size)); replace HX := Lib.hid (HX.out.below hb HX.out.lt); clear hb
    go_wp2_with (fail)
    refine (HW.out _ (tt17 P HT HB)).mono ?_; rintro e v3 ⟨rfl, hb⟩
    replace HB := Lib.hid (HB.out.trans (hb.mono HB.out.size)); clear hb
    go_wp2_with (fail)
    go_ret
    exact ⟨rfl, HB.out⟩
end Go.Proofs.Ytgncllhhajjnlaa
