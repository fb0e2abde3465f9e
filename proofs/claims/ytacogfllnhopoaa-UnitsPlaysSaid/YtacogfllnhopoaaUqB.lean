/- The document's Add, where eight wait. -/
import Derived.Test.YtacogfllnhopoaaUnZ
import Derived.Deep.RegionLaw
namespace Go.Proofs.Ytacogfllnhopoaa
open Go.RowKit Go.Maps
set_option maxRecDepth 100000 in
set_option maxHeartbeats 4000000 in
theorem radd_full {mb : Nat} (w : World) {G : Nat → Prop} {p : Nat} {l : List Wt} (hQ : Rq w G p l) (hg : GoodL l) (hlb : l.length ≤ mb) {k : Nat} {x : Wt} (hx : l[k]? = some x) (lu : Int) (ho : ByteArray) (hi : x.is lu ho) (wy : Int) (hs : ho.size ≤ maxLen)
    (hl : 0 ≤ lu ∧ lu < 8) (hn : nameB ho = true) (hwy : 1 ≤ wy ∧ wy ≤ 4) (h8 : x.zs.length = 8) (hla : x.zs.getLast? ≠ some wy) :
    Calls Try.prog 9 #[.pointer (some ⟨p, 0, none⟩), .int .i64 lu, .string ho, .int .i64 wy] w fun e w' => e = .returned (.bool true) ∧ RqOut mb G w p (upd (fq l) lu ho (x.zs.drop 1 ++ [wy])) w' := by
  obtain ⟨A, c, hp, hr⟩ := hQ.row
  obtain ⟨g, rfl, _, c0, c1, c2, f2, hok⟩ := hr k x hx
  have HF := Lib.hid (find_any w hQ lu ho)
  have hnn : 8 = x.zs.length := h8.symm
  rw [← hnn] at c2
  have HQ := Lib.hid hQ; have HG := Lib.hid hg; have HX := Lib.hid hx; have HI := Lib.hid hi; have HNN := Lib.hid hnn
  have HONE := Lib.hid (show ∀ (j : Nat) (y : Wt), l[j]? = some y → y.is lu ho → j = k ∧ y = x from fun j y hj hy => by
    have hjk : j = k := by
      rcases Nat.lt_trichotomy j k with h | h | h
      · have := List.pairwise_iff_getElem.1 hg.once j k (List.getElem?_eq_some_iff.1 hj).1 (List.getElem?_eq_some_iff.1 hx).1 h
        rw [(List.getElem?_eq_some_iff.1 hj).2, (List.getElem?_eq_some_iff.1 hx).2] at this
        exact absurd ⟨hy.1.trans hi.1.symm, hy.2.trans hi.2.symm⟩ this
      · exact h
      · have := List.pairwise_iff_getElem.1 hg.once k j (List.getElem?_eq_some_iff.1 hx).1 (List.getElem?_eq_some_iff.1 hj).1 h
        rw [(List.getElem?_eq_some_iff.1 hj).2, (List.getElem?_eq_some_iff.1 hx).2] at this
        exact absurd ⟨hi.1.trans hy.1.symm, hi.2.trans hy.2.symm⟩ this
    subst hjk
    rw [hx] at hj
    exact ⟨rfl, (Option.some.inj hj).symm⟩)
  have HNO := Lib.hid (show ¬ ∀ y ∈ l, ¬ y.is lu ho from fun h => h x (List.mem_of_getElem? hx) hi)
  obtain ⟨g', o', cur, hA, _, hB, hcur⟩ := hok.2 (by omega)
  obtain ⟨yl, hyl⟩ : ∃ yl, x.zs[7]? = some yl := ⟨_, List.getElem?_eq_getElem (by omega)⟩
  have hcl : w.cell? ⟨g', o' + 7, none⟩ = some (.int .i64 yl) := (hB.cell _).trans (hcur _ _ hyl)
  have hlast : x.zs.getLast? = some yl := by rw [List.getLast?_eq_getElem?, ← hnn]; exact hyl
  have hne : (yl == wy) = false := by rw [hlast] at hla; simpa using hla
  obtain ⟨d, hd⟩ : ∃ d, d = x.c := ⟨_, rfl⟩
  have hd8 : 8 ≤ d := by rw [hd, hnn]; exact hok.1
  have hdi1 : (1 : Int) ≤ (d : Int) := by omega
  have hdi2 : (8 : Int) ≤ (d : Int) := by omega
  have hdi3 : ¬ d = 1 := by omega
  have hdi4 : ¬ d - 1 = 0 := by omega
  rw [hA, ← hd] at c2
  have HSV : Hid (SrcAt w (.slice (some ⟨g', o' + 1, none⟩) 7 (d - 1)) 7 1 ((x.zs.drop 1).map (.int .i64))) := by
    refine ⟨by rw [List.length_map, List.length_drop, ← hnn], fun u hu => by obtain ⟨y, _, rfl⟩ := List.mem_map.1 hu; rfl, ?_⟩
    refine .inr ⟨⟨g', o' + 1, none⟩, d - 1, rfl, fun j u hu => ?_⟩
    rw [List.getElem?_map] at hu
    obtain ⟨y, hy, rfl⟩ := Option.map_eq_some_iff.1 hu
    have hadd : (⟨g', o' + 1, none⟩ : Addr).add j = ⟨g', o' + 1 + j, none⟩ := by unfold Addr.add; split <;> simp_all
    rw [List.getElem?_drop] at hy
    have h3 := hcur _ y hy
    rw [hadd, hB.cell, ← h3]
    congr 1
    omega
  have HM := Lib.hid (show 7 ≤ 1000 by omega)
  have HROWC : Hid (∀ v, Below w.heap.size w v → v.cell? ⟨g, k * 3 + 2, none⟩ = some (.slice (some ⟨g', o', none⟩) 8 d) ∧ v.frozen? ⟨g, k * 3 + 2, none⟩ = false) := fun v hv =>
    have hgl := World.block_lt_of_cell? w ⟨g, k * 3 + 2, none⟩ c2
    ⟨(World.cell?_of_block (a := ⟨g, k * 3 + 2, none⟩) (hv.block g hgl)).trans c2, (World.frozen?_of_block (a := ⟨g, k * 3 + 2, none⟩) (hv.block g hgl)).trans f2⟩
  have hkl : (k : Int) < (l.length : Int) := by have := (List.getElem?_eq_some_iff.1 hx).1; omega
  have hl0 : ¬ lu < 0 := by omega
  have hl8 : ¬ lu ≥ 8 := by omega
  have hw1 : ¬ wy < 1 := by omega
  have hw4 : ¬ wy > 4 := by omega
  obtain ⟨i0, hi0, hz0, hz1, hz2⟩ := info_parts infoInt
  have HEND := Lib.hid (fun (w5 : World) (hb : Below w.heap.size w w5) (A2 : Option Addr) (c2' : Nat) (hown : w5.ownsRow w.heap.size 3 1 (.slice A2 8 c2') 8 ((x.zs.drop 1 ++ [wy]).map (.int .i64))) => radd_end hQ hg hlb hx hi hb (by rw [List.length_append, List.length_drop, List.length_singleton, ← hnn]) (by omega) (by omega) hown hp)
  have HP := Lib.hid hp
  clear hlb
  clear hr hQ hg hx hi hok c0 c1 f2 hla hl hwy h8 hcur hyl hlast hB hnn hd hd8
  go_enter Try.func9, Try.ntmps9
  go_wp2_with (first | (go_at_call 20; refine (refName_any _ _ hs).mono ?_; rintro e w2 ⟨rfl, rfl⟩) | fail)
  refine HF.out.mono ?_
  rintro e w' ⟨rfl, ⟨j, y, rfl, hj, hy⟩ | ⟨rfl, hno⟩⟩
  · obtain ⟨rfl, rfl⟩ := HONE.out j y hj hy
    clear hj hy
    go_wp2
    have HBE := Lib.hid (show Below w.heap.size w (w.alloc (.cells #[] 3)) from (Below.refl _ _).alloc (Nat.le_refl _) _)
    have HBX := Lib.hid (show Below w.heap.size w (w.alloc (.cells #[.int .i64 wy] 3)) from (Below.refl _ _).alloc (Nat.le_refl _) _)
    have HBEX := Lib.hid (show Below w.heap.size w ((w.alloc (.cells #[] 3)).alloc (.cells #[.int .i64 wy] 3)) from HBE.out.alloc (by simp) _)
    have HBXE := Lib.hid (show Below w.heap.size w ((w.alloc (.cells #[.int .i64 wy] 3)).alloc (.cells #[] 3)) from HBX.out.alloc (by simp) _)
    have HPB : Hid (∀ v, Below w.heap.size w v → v.cell? ⟨p, 0, none⟩ = w.cell? ⟨p, 0, none⟩) := fun v hv => World.cell?_of_block (hv.block p (World.block_lt_of_cell? w ⟨p, 0, none⟩ hp))
    have pe := (HPB.out _ HBE.out).trans hp
    have px := (HPB.out _ HBX.out).trans hp
    have pex := (HPB.out _ HBEX.out).trans hp
    have pxe := (HPB.out _ HBXE.out).trans hp
    have HO1 := Lib.hid (show (w.alloc (.cells #[] 3)).drew.ownsRow w.heap.size 3 1 (.slice (some ⟨w.heap.size, 0, none⟩) 0 0) 0 [] from own_none w 3 1 (Nat.le_refl _))
    have HO2 := Lib.hid (show ((w.alloc (.cells #[] 3)).alloc (.cells #[.int .i64 wy] 3)).drew.ownsRow w.heap.size 3 1 (.slice (some ⟨w.heap.size, 0, none⟩) 0 0) 0 [] from own_keep HO1 (fun j hj => Below.heap_alloc _ _ j (HO1.out.lt j hj).2))
    have hsx : (w.alloc (.cells #[.int .i64 wy] 3)).heap.size = w.heap.size + 1 := by simp
    have HO3 : Hid (((w.alloc (.cells #[.int .i64 wy] 3)).alloc (.cells #[] 3)).drew.ownsRow w.heap.size 3 1 (.slice (some ⟨w.heap.size + 1, 0, none⟩) 0 0) 0 []) := by
      have h := own_none (w.alloc (.cells #[.int .i64 wy] 3)) 3 1 (base := w.heap.size) (by simp)
      rw [hsx] at h
      exact h
    clear hsx
    have HS1 := Lib.hid (show SrcAt (w.alloc (.cells #[] 3)).drew (.slice (some ⟨g', o' + 1, none⟩) 7 (d - 1)) 7 1 ((y.zs.drop 1).map (.int .i64)) from HSV.out.below HBE.out.drew)
    have HS2 := Lib.hid (show SrcAt ((w.alloc (.cells #[] 3)).alloc (.cells #[.int .i64 wy] 3)).drew (.slice (some ⟨g', o' + 1, none⟩) 7 (d - 1)) 7 1 ((y.zs.drop 1).map (.int .i64)) from HSV.out.below HBEX.out.drew)
    have HS3 := Lib.hid (show SrcAt ((w.alloc (.cells #[.int .i64 wy] 3)).alloc (.cells #[] 3)).drew (.slice (some ⟨g', o' + 1, none⟩) 7 (d - 1)) 7 1 ((y.zs.drop 1).map (.int .i64)) from HSV.out.below HBXE.out.drew)
    have HX2 := Lib.hid (show Blk ((w.alloc (.cells #[] 3)).alloc (.cells #[.int .i64 wy] 3)).drew (w.heap.size + 1) 3 #[.int .i64 wy] from (by have h := Blk.new (w.alloc (.cells #[] 3)) 3 #[.int .i64 wy]; have e : (w.alloc (.cells #[] 3)).heap.size = w.heap.size + 1 := (by simp); rw [e] at h; exact h))
    have HX3 := Lib.hid (show Blk ((w.alloc (.cells #[.int .i64 wy] 3)).alloc (.cells #[] 3)).drew w.heap.size 3 #[.int .i64 wy] from (Blk.new w 3 #[.int .i64 wy]).alloc _)
    have HL1 := Lib.hid (show 0 + 7 ≤ maxLen by have := HM.out; unfold maxLen; omega)
    have HL2 := Lib.hid (show (0 + 7) * 8 ≤ 140737488355328 by have := HM.out; omega)
    have HL3 := Lib.hid (show 7 + 1 ≤ maxLen by have := HM.out; unfold maxLen; omega)
    have HL4 := Lib.hid (show (7 + 1) * 8 ≤ 140737488355328 by have := HM.out; omega)
    have HN4 : Hid (∀ v : World, True) := fun _ => trivial
    go_region_law (first
      | (refine step_app _ (by rfl) (.tmp 112) (.tmp 113) 41 (by rfl) w.heap.size 3 i0 _ 1 8 Try.underlying41 hi0 hz0 hz1 hz2 rfl (by omega) (some ⟨w.heap.size, 0, none⟩) 0 0 [] (by rfl) HO1.out (.slice (some ⟨g', o' + 1, none⟩) 7 (d - 1)) (by rfl) 7 ((y.zs.drop 1).map (.int .i64)) HS1.out HL1.out HL2.out HBE.out.size ?_; intro A4 c4 w4 hown hgr; have HB4 := Lib.hid (show Below w.heap.size w w4 from (HBE.out.drew).grown hgr HBE.out.size (fun j hj => (HO1.out.lt j hj).1)); have HOW4 := Lib.hid (show w4.ownsRow w.heap.size 3 1 (.slice A4 7 c4) 7 ((y.zs.drop 1).map (.int .i64)) from (by have h := hown; rw [Nat.zero_add, List.nil_append] at h; exact h)); have p4 := (HPB.out w4 HB4.out).trans hp; have HB4x := Lib.hid (show Below w.heap.size w (w4.alloc (.cells #[.int .i64 wy] 3)) from HB4.out.alloc HB4.out.size _); have p4x := (HPB.out _ HB4x.out).trans hp; have HX4x := Lib.hid (src_one _ (Blk.new w4 3 #[.int .i64 wy]) (by intro u hu; simp at hu; subst hu; rfl)); have HOW4x := Lib.hid (show (w4.alloc (.cells #[.int .i64 wy] 3)).ownsRow w.heap.size 3 1 (.slice A4 7 c4) 7 ((y.zs.drop 1).map (.int .i64)) from own_keep HOW4 (fun j hj => Below.heap_alloc _ _ j (HOW4.out.lt j hj).2)); clear hown hgr)
      | (refine step_app _ (by rfl) (.tmp 112) (.tmp 113) 41 (by rfl) w.heap.size 3 i0 _ 1 8 Try.underlying41 hi0 hz0 hz1 hz2 rfl (by omega) (some ⟨w.heap.size, 0, none⟩) 0 0 [] (by rfl) HO2.out (.slice (some ⟨g', o' + 1, none⟩) 7 (d - 1)) (by rfl) 7 ((y.zs.drop 1).map (.int .i64)) HS2.out HL1.out HL2.out HBEX.out.size ?_; intro A4 c4 w4 hown hgr; have HB4 := Lib.hid (show Below w.heap.size w w4 from (HBEX.out.drew).grown hgr HBEX.out.size (fun j hj => (HO2.out.lt j hj).1)); have HOW4 := Lib.hid (show w4.ownsRow w.heap.size 3 1 (.slice A4 7 c4) 7 ((y.zs.drop 1).map (.int .i64)) from (by have h := hown; rw [Nat.zero_add, List.nil_append] at h; exact h)); have p4 := (HPB.out w4 HB4.out).trans hp; have HB4x := Lib.hid (show Below w.heap.size w (w4.alloc (.cells #[.int .i64 wy] 3)) from HB4.out.alloc HB4.out.size _); have p4x := (HPB.out _ HB4x.out).trans hp; have HX4 := Lib.hid (src_one w4 (Blk.grown HX2.out hgr (by simp [Value.ownBlock])) (by intro u hu; simp at hu; subst hu; rfl)); clear hown hgr)
      | (refine step_app _ (by rfl) (.tmp 112) (.tmp 113) 41 (by rfl) w.heap.size 3 i0 _ 1 8 Try.underlying41 hi0 hz0 hz1 hz2 rfl (by omega) (some ⟨w.heap.size + 1, 0, none⟩) 0 0 [] (by rfl) HO3.out (.slice (some ⟨g', o' + 1, none⟩) 7 (d - 1)) (by rfl) 7 ((y.zs.drop 1).map (.int .i64)) HS3.out HL1.out HL2.out HBXE.out.size ?_; intro A4 c4 w4 hown hgr; have HB4 := Lib.hid (show Below w.heap.size w w4 from (HBXE.out.drew).grown hgr HBXE.out.size (fun j hj => (HO3.out.lt j hj).1)); have HOW4 := Lib.hid (show w4.ownsRow w.heap.size 3 1 (.slice A4 7 c4) 7 ((y.zs.drop 1).map (.int .i64)) from (by have h := hown; rw [Nat.zero_add, List.nil_append] at h; exact h)); have p4 := (HPB.out w4 HB4.out).trans hp; have HB4x := Lib.hid (show Below w.heap.size w (w4.alloc (.cells #[.int .i64 wy] 3)) from HB4.out.alloc HB4.out.size _); have p4x := (HPB.out _ HB4x.out).trans hp; have HX4 := Lib.hid (src_one w4 (Blk.grown HX3.out hgr (by simp [Value.ownBlock])) (by intro u hu; simp at hu; subst hu; rfl)); clear hown hgr)
      | (refine step_app _ (by rfl) (.tmp 114) (.tmp 116) 41 (by rfl) w.heap.size 3 i0 _ 1 8 Try.underlying41 hi0 hz0 hz1 hz2 rfl (by omega) A4 7 c4 ((y.zs.drop 1).map (.int .i64)) (by rfl) HOW4.out (.slice (some ⟨w.heap.size + 1, 0, none⟩) 1 1) (by rfl) 1 [.int .i64 wy] HX4.out HL3.out HL4.out HB4.out.size ?_; intro A5 c5 w5 hown hgr; have HB5 := Lib.hid (show Below w.heap.size w w5 from HB4.out.grown hgr HB4.out.size (fun j hj => (HOW4.out.lt j hj).1)); have HOW5 := Lib.hid hown; have p5 := (HPB.out w5 HB5.out).trans hp; obtain ⟨r5, f5⟩ := HROWC.out w5 HB5.out; clear hown hgr)
      | (refine step_app _ (by rfl) (.tmp 114) (.tmp 116) 41 (by rfl) w.heap.size 3 i0 _ 1 8 Try.underlying41 hi0 hz0 hz1 hz2 rfl (by omega) A4 7 c4 ((y.zs.drop 1).map (.int .i64)) (by rfl) HOW4.out (.slice (some ⟨w.heap.size, 0, none⟩) 1 1) (by rfl) 1 [.int .i64 wy] HX4.out HL3.out HL4.out HB4.out.size ?_; intro A5 c5 w5 hown hgr; have HB5 := Lib.hid (show Below w.heap.size w w5 from HB4.out.grown hgr HB4.out.size (fun j hj => (HOW4.out.lt j hj).1)); have HOW5 := Lib.hid hown; have p5 := (HPB.out w5 HB5.out).trans hp; obtain ⟨r5, f5⟩ := HROWC.out w5 HB5.out; clear hown hgr)
      | (refine step_app _ (by rfl) (.tmp 114) (.tmp 116) 41 (by rfl) w.heap.size 3 i0 _ 1 8 Try.underlying41 hi0 hz0 hz1 hz2 rfl (by omega) A4 7 c4 ((y.zs.drop 1).map (.int .i64)) (by rfl) HOW4x.out (.slice (some ⟨w4.heap.size, 0, none⟩) 1 1) (by rfl) 1 [.int .i64 wy] HX4x.out HL3.out HL4.out HB4x.out.size ?_; intro A5 c5 w5 hown hgr; have HB5 := Lib.hid (show Below w.heap.size w w5 from HB4x.out.grown hgr HB4x.out.size (fun j hj => (HOW4x.out.lt j hj).1)); have HOW5 := Lib.hid hown; have p5 := (HPB.out w5 HB5.out).trans hp; obtain ⟨r5, f5⟩ := HROWC.out w5 HB5.out; clear hown hgr)
      | fail)
    all_goals (
      go_wp2
      go_ret
      refine ⟨rfl, ?_⟩
      rw [← List.drop_one]
      first | exact HEND.out _ HB5.out _ _ (by rw [List.map_append]; exact HOW5.out) _ rfl | exact HEND.out w5.drew HB5.out.drew _ _ (by rw [List.map_append]; exact HOW5.out) _ rfl)
  · exact absurd hno HNO.out
end Go.Proofs.Ytacogfllnhopoaa
