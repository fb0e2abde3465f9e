/- The document's Add: an entry more. -/
import Derived.Test.YtacogfllnhopoaaUqD
import Derived.Deep.RegionLaw
import Derived.Deep.CutBlock
import Derived.Deep.DeepCutAuto
namespace Go.Proofs.Ytacogfllnhopoaa
open Go.RowKit Go.Maps
theorem infoWtB : (Try.prog.info? 56).map (fun i => (i.zero, i.size, i.bytes)) = some (some (.agg #[.int .i64 0, .string ByteArray.empty, .slice none 0 0]), 3, 48) := by kernel_rfl
theorem und26B : Try.prog.underlying 26 = some (.slice 56) := by kernel_rfl
set_option maxRecDepth 100000 in
set_option maxHeartbeats 4000000 in
theorem radd_newB (w : World) {G : Nat → Prop} {p : Nat} {l : List Wt} (hQ : Rq w G p l) {g c : Nat} (hp : w.cell? ⟨p, 0, none⟩ = some (.slice (some ⟨g, 0, none⟩) l.length c)) (hg : GoodL l) (lu : Int) (ho : ByteArray) (hno0 : ∀ x ∈ l, ¬ x.is lu ho) (wy : Int) (hs : ho.size ≤ maxLen)
    (hl : 0 ≤ lu ∧ lu < 8) (hn : nameB ho = true) (hwy : 1 ≤ wy ∧ wy ≤ 4) (hm : l.length ≤ 1000000) {mb : Nat} (hlb : l.length ≤ mb) :
    Calls Try.prog 9 #[.pointer (some ⟨p, 0, none⟩), .int .i64 lu, .string ho, .int .i64 wy] w fun e w' => e = .returned (.bool true) ∧ RqOut (mb + 1) G w p (upd (fq l) lu ho [wy]) w' := by
  have HF := Lib.hid (find_any w hQ lu ho)
  have HQ := Lib.hid hQ; have HG := Lib.hid hg; have HNO := Lib.hid hno0; have HM := Lib.hid hm; have HLU := Lib.hid hl; have HNM := Lib.hid hn; have HWY := Lib.hid hwy; have HLB := Lib.hid hlb
  have HBAD := Lib.hid (show ∀ (j : Nat) (y : Wt), l[j]? = some y → ¬ y.is lu ho from fun j y hj => hno0 y (List.mem_of_getElem? hj))
  have hl0 : ¬ lu < 0 := by omega
  have hl8 : ¬ lu ≥ 8 := by omega
  have hw1 : ¬ wy < 1 := by omega
  have hw4 : ¬ wy > 4 := by omega
  have HROW := Lib.hid hQ.row
  clear hQ hg hno0 hm hl hwy hlb
  go_enter Try.func9, Try.ntmps9
  go_wp2_with (first | (go_at_call 20; refine (refName_any _ _ hs).mono ?_; rintro e w2 ⟨rfl, rfl⟩) | fail)
  refine HF.out.mono ?_
  rintro e w' ⟨rfl, ⟨j, y, rfl, hj, hy⟩ | ⟨rfl, hno⟩⟩
  · exact absurd hy (HBAD.out j y hj)
  · clear hno
    go_upto_block 0 with fail
    go_cut [9] from 37 to 57 (fun s9 wx => wx = w ∧ ∃ k : Nat, s9 = .int .i64 (k : Int) ∧ k ≤ l.length ∧ (∀ j x, j < k → l[j]? = some x → x.ho.data.toList ≤ ho.data.toList) ∧ ∀ x, l[k]? = some x → ho.data.toList ≤ x.ho.data.toList)
    case first =>
      clear hp
      obtain ⟨A, c, hp, hr⟩ := HROW.out
      have HR := Lib.hid hr
      clear hr
      go_wp2_with (fail)
      go_loopw [9] (fun i wr => ∃ k : Nat, i = .int .i64 (k : Int) ∧ k ≤ l.length ∧ Hid (wr = w) ∧ Hid (∀ j x, j < k → l[j]? = some x → x.ho.data.toList ≤ ho.data.toList)) (fun i _ => l.length - (intOf i).toNat)
      case atStart => exact ⟨0, rfl, by omega, Lib.hid rfl, Lib.hid fun j x hj => by omega⟩
      case round =>
        obtain ⟨k, rfl, hk, hww, hlo⟩ := hrel
        obtain rfl : wr = w := hww.out
        clear hww
        by_cases hlt : k < l.length
        · have hki : (k : Int) < (l.length : Int) := by omega
          obtain ⟨x, hx⟩ : ∃ x, l[k]? = some x := ⟨_, List.getElem?_eq_getElem hlt⟩
          obtain ⟨g, rfl, _, c0, c1, _, _, _⟩ := HR.out k x hx
          have hwr : IntKind.i64.wrap ((k : Int) + 1) = (k : Int) + 1 := IntWalk.i64_in _ (by have := HM.out; omega)
          have HX := Lib.hid hx; have HK := Lib.hid hlt; have HKL := Lib.hid hk
          clear hx hlt hk
          by_cases h2 : x.ho.data.toList < ho.data.toList
          · have hb : Op.bytesLess x.ho.toList ho.toList = true := by rw [bytesLess_eq, Lib.toList_data, Lib.toList_data]; exact decide_eq_true h2
            have H2 := Lib.hid h2
            clear h2
            go_wp2_with (fail)
            go_roundw
            case rel => exact ⟨k + 1, by go_num, HK.out, Lib.hid (by first | rfl | trivial), Lib.hid fun j y hj hy => by
              rcases Nat.lt_succ_iff_lt_or_eq.1 hj with h | rfl
              · exact hlo.out j y h hy
              · rw [HX.out] at hy; cases hy; exact List.le_of_lt H2.out⟩
            case measure => simp [intOf]; have := HK.out; omega
          · have hb : Op.bytesLess x.ho.toList ho.toList = false := by rw [bytesLess_eq, Lib.toList_data, Lib.toList_data]; exact decide_eq_false h2
            have H2 := Lib.hid h2
            clear h2
            go_wp2_with (fail)
            go_meet
            exact ⟨rfl, k, rfl, HKL.out, hlo.out, fun y hy => by rw [HX.out] at hy; cases hy; exact H2.out⟩
        · have hki : ¬ (k : Int) < (l.length : Int) := by omega
          have HK := Lib.hid hlt; have HKL := Lib.hid hk
          clear hlt hk
          go_wp2_with (fail)
          go_meet
          exact ⟨rfl, k, rfl, HKL.out, hlo.out, fun y hy => absurd (List.getElem?_eq_some_iff.1 hy).1 HK.out⟩
    case rest =>
      obtain ⟨hww, k, rfl, hk, hlo, hhi⟩ := hcut
      obtain rfl : w = wc := hww.symm
      have HK := Lib.hid hk; have HLO := Lib.hid hlo; have HHI := Lib.hid hhi
      have HPB : Hid (∀ v, Below w.heap.size w v → v.cell? ⟨p, 0, none⟩ = w.cell? ⟨p, 0, none⟩) := fun v hv => World.cell?_of_block (hv.block p (World.block_lt_of_cell? w ⟨p, 0, none⟩ hp))
      have HFZ : Hid (∀ v, Below w.heap.size w v → v.frozen? ⟨p, 0, none⟩ = false) := fun v hv => by
        obtain ⟨A', c', k1, _⟩ := HQ.out
        exact (World.frozen?_of_block (a := ⟨p, 0, none⟩) (hv.block p (World.block_lt_of_cell? w ⟨p, 0, none⟩ hp))).trans (Blk.free k1 0)
      have HEND := Lib.hid (fun (w6 : World) (A6 : Option Addr) (c6 : Nat) (hb : Below w.heap.size w w6) (hown : w6.ownsRow w.heap.size 56 3 (.slice A6 (k + 1 + (l.length - k)) c6) (k + 1 + (l.length - k)) (wtCells (l.take k) ++ [.int .i64 lu, .string ho, .slice none 0 0] ++ wtCells (l.drop k))) (V : World) (hV : V = w6.setCell ⟨p, 0, none⟩ (.slice A6 (k + 1 + (l.length - k)) c6)) => (⟨(rq_ins HQ.out hk hb hown hV).1, (rq_ins HQ.out hk hb hown hV).2.1⟩ : (∃ G', Rq V G' p (insL l k lu ho) ∧ ∀ j, G' j → G j ∨ w.heap.size ≤ j) ∧ Only G w V))
      have hki : (k : Int) ≤ (l.length : Int) := by omega
      have hk0 : (0 : Int) ≤ (k : Int) := by omega
      clear hk hlo hhi
      go_upto_region 8 with fail
      go_cut [9] from 58 to 80 (fun s9 wx => s9 = .int .i64 (k : Int) ∧ (∃ G', Rq wx G' p (insL l k lu ho) ∧ ∀ j, G' j → G j ∨ w.heap.size ≤ j) ∧ Only G w wx)
      case first =>
        obtain ⟨i0, hi0, hz0, hz1, hz2⟩ := info_parts infoWtB
        have hun := und26B
        have HSR := Lib.hid (src_row HQ.out hp)
        obtain ⟨z, hz, HV1, HV2, hlc⟩ : ∃ z, (if c = k then some (⟨g, 0, none⟩ : Addr) else some ⟨g, k * 3, none⟩) = some ⟨g, z, none⟩ ∧ Hid (SrcAt w (.slice (some ⟨g, 0, none⟩) k c) k 3 (wtCells (l.take k))) ∧ Hid (SrcAt w (.slice (some ⟨g, z, none⟩) (l.length - k) (c - k)) (l.length - k) 3 (wtCells (l.drop k))) ∧ l.length ≤ c := by
          rcases HSR.out with ⟨h, _⟩ | ⟨g', he, hlc, hs1, hs2⟩
          · cases h
          · cases he
            by_cases hck : c = k
            · refine ⟨0, by rw [if_pos hck], hs1 k HK.out, ?_, hlc⟩
              have hkl : l.length - k = 0 := by have := HK.out; omega
              have h0 := (hs2 k (c - k) HK.out).1
              refine ⟨h0, (hs2 k (c - k) HK.out).2.1, .inr ⟨_, _, rfl, fun j u hu => ?_⟩⟩
              rw [List.eq_nil_of_length_eq_zero (h0.trans (by rw [hkl]))] at hu
              cases hu
            · exact ⟨k * 3, by rw [if_neg hck], hs1 k HK.out, hs2 k (c - k) HK.out, hlc⟩
        have hlc' : (l.length : Int) ≤ (c : Int) := by omega
        have hkc : (k : Int) ≤ (c : Int) := by have := HK.out; omega
        clear hlc
        have HBE := Lib.hid (show Below w.heap.size w (w.alloc (.cells #[] 56)) from (Below.refl _ _).alloc (Nat.le_refl _) _)
        have HBX := Lib.hid (show Below w.heap.size w (w.alloc (.cells #[.int .i64 lu, .string ho, .slice none 0 0] 56)) from (Below.refl _ _).alloc (Nat.le_refl _) _)
        have HBEX := Lib.hid (show Below w.heap.size w ((w.alloc (.cells #[] 56)).alloc (.cells #[.int .i64 lu, .string ho, .slice none 0 0] 56)) from HBE.out.alloc (by simp) _)
        have HBXE := Lib.hid (show Below w.heap.size w ((w.alloc (.cells #[.int .i64 lu, .string ho, .slice none 0 0] 56)).alloc (.cells #[] 56)) from HBX.out.alloc (by simp) _)
        have pe := (HPB.out _ HBE.out).trans hp
        have px := (HPB.out _ HBX.out).trans hp
        have pex := (HPB.out _ HBEX.out).trans hp
        have pxe := (HPB.out _ HBXE.out).trans hp
        have HO1 := Lib.hid (show (w.alloc (.cells #[] 56)).drew.ownsRow w.heap.size 56 3 (.slice (some ⟨w.heap.size, 0, none⟩) 0 0) 0 [] from own_none w 56 3 (Nat.le_refl _))
        have HO2 := Lib.hid (show ((w.alloc (.cells #[] 56)).alloc (.cells #[.int .i64 lu, .string ho, .slice none 0 0] 56)).drew.ownsRow w.heap.size 56 3 (.slice (some ⟨w.heap.size, 0, none⟩) 0 0) 0 [] from own_keep HO1 (fun j hj => Below.heap_alloc _ _ j (HO1.out.lt j hj).2))
        have hsx : (w.alloc (.cells #[.int .i64 lu, .string ho, .slice none 0 0] 56)).heap.size = w.heap.size + 1 := by simp
        have HO3 : Hid (((w.alloc (.cells #[.int .i64 lu, .string ho, .slice none 0 0] 56)).alloc (.cells #[] 56)).drew.ownsRow w.heap.size 56 3 (.slice (some ⟨w.heap.size + 1, 0, none⟩) 0 0) 0 []) := by
          have h := own_none (w.alloc (.cells #[.int .i64 lu, .string ho, .slice none 0 0] 56)) 56 3 (base := w.heap.size) (by simp)
          rw [hsx] at h
          exact h
        clear hsx
        have HS1 := Lib.hid (show SrcAt (w.alloc (.cells #[] 56)).drew (.slice (some ⟨g, 0, none⟩) k c) k 3 (wtCells (l.take k)) from HV1.out.below HBE.out.drew)
        have HS2 := Lib.hid (show SrcAt ((w.alloc (.cells #[] 56)).alloc (.cells #[.int .i64 lu, .string ho, .slice none 0 0] 56)).drew (.slice (some ⟨g, 0, none⟩) k c) k 3 (wtCells (l.take k)) from HV1.out.below HBEX.out.drew)
        have HS3 := Lib.hid (show SrcAt ((w.alloc (.cells #[.int .i64 lu, .string ho, .slice none 0 0] 56)).alloc (.cells #[] 56)).drew (.slice (some ⟨g, 0, none⟩) k c) k 3 (wtCells (l.take k)) from HV1.out.below HBXE.out.drew)
        have HX2 := Lib.hid (show Blk ((w.alloc (.cells #[] 56)).alloc (.cells #[.int .i64 lu, .string ho, .slice none 0 0] 56)).drew (w.heap.size + 1) 56 #[.int .i64 lu, .string ho, .slice none 0 0] from (by have h := Blk.new (w.alloc (.cells #[] 56)) 56 #[.int .i64 lu, .string ho, .slice none 0 0]; have e : (w.alloc (.cells #[] 56)).heap.size = w.heap.size + 1 := (by simp); rw [e] at h; exact h))
        have HX3 := Lib.hid (show Blk ((w.alloc (.cells #[.int .i64 lu, .string ho, .slice none 0 0] 56)).alloc (.cells #[] 56)).drew w.heap.size 56 #[.int .i64 lu, .string ho, .slice none 0 0] from (Blk.new w 56 #[.int .i64 lu, .string ho, .slice none 0 0]).alloc _)
        have HL1 := Lib.hid (show 0 + k ≤ maxLen by have := HM.out; unfold maxLen; omega)
        have HL2 := Lib.hid (show (0 + k) * 48 ≤ 140737488355328 by have := HM.out; omega)
        have HL3 := Lib.hid (show k + 1 ≤ maxLen by have := HM.out; unfold maxLen; omega)
        have HL4 := Lib.hid (show (k + 1) * 48 ≤ 140737488355328 by have := HM.out; omega)
        have HL5 := Lib.hid (show k + 1 + (l.length - k) ≤ maxLen by have := HM.out; unfold maxLen; omega)
        have HL6 := Lib.hid (show (k + 1 + (l.length - k)) * 48 ≤ 140737488355328 by have := HM.out; omega)
        go_region_law (first
          | (refine step_app _ (by rfl) (.tmp 59) (.tmp 65) 26 (by rfl) w.heap.size 56 i0 _ 3 48 hun hi0 hz0 hz1 hz2 rfl (by omega) (some ⟨w.heap.size, 0, none⟩) 0 0 [] (by rfl) HO1.out (.slice (some ⟨g, 0, none⟩) k c) (by rfl) k (wtCells (l.take k)) HS1.out HL1.out HL2.out HBE.out.size ?_; intro A4 c4 w4 hown hgr; have HB4 := Lib.hid (show Below w.heap.size w w4 from (HBE.out.drew).grown hgr HBE.out.size (fun j hj => (HO1.out.lt j hj).1)); have HOW4 := Lib.hid (show w4.ownsRow w.heap.size 56 3 (.slice A4 k c4) k (wtCells (l.take k)) from (by have h := hown; rw [Nat.zero_add, List.nil_append] at h; exact h)); have p4 := (HPB.out w4 HB4.out).trans hp; have HB4x := Lib.hid (show Below w.heap.size w (w4.alloc (.cells #[.int .i64 lu, .string ho, .slice none 0 0] 56)) from HB4.out.alloc HB4.out.size _); have p4x := (HPB.out _ HB4x.out).trans hp; have HX4x := Lib.hid (src_one _ (Blk.new w4 56 #[.int .i64 lu, .string ho, .slice none 0 0]) (by intro u hu; simp at hu; rcases hu with rfl | rfl | rfl <;> rfl)); have HOW4x := Lib.hid (show (w4.alloc (.cells #[.int .i64 lu, .string ho, .slice none 0 0] 56)).ownsRow w.heap.size 56 3 (.slice A4 k c4) k (wtCells (l.take k)) from own_keep HOW4 (fun j hj => Below.heap_alloc _ _ j (HOW4.out.lt j hj).2)); clear hown hgr)
          | (refine step_app _ (by rfl) (.tmp 59) (.tmp 65) 26 (by rfl) w.heap.size 56 i0 _ 3 48 hun hi0 hz0 hz1 hz2 rfl (by omega) (some ⟨w.heap.size, 0, none⟩) 0 0 [] (by rfl) HO2.out (.slice (some ⟨g, 0, none⟩) k c) (by rfl) k (wtCells (l.take k)) HS2.out HL1.out HL2.out HBEX.out.size ?_; intro A4 c4 w4 hown hgr; have HB4 := Lib.hid (show Below w.heap.size w w4 from (HBEX.out.drew).grown hgr HBEX.out.size (fun j hj => (HO2.out.lt j hj).1)); have HOW4 := Lib.hid (show w4.ownsRow w.heap.size 56 3 (.slice A4 k c4) k (wtCells (l.take k)) from (by have h := hown; rw [Nat.zero_add, List.nil_append] at h; exact h)); have p4 := (HPB.out w4 HB4.out).trans hp; have HX4 := Lib.hid (src_one w4 (Blk.grown HX2.out hgr (by simp [Value.ownBlock])) (by intro u hu; simp at hu; rcases hu with rfl | rfl | rfl <;> rfl)); clear hown hgr)
          | (refine step_app _ (by rfl) (.tmp 59) (.tmp 65) 26 (by rfl) w.heap.size 56 i0 _ 3 48 hun hi0 hz0 hz1 hz2 rfl (by omega) (some ⟨w.heap.size + 1, 0, none⟩) 0 0 [] (by rfl) HO3.out (.slice (some ⟨g, 0, none⟩) k c) (by rfl) k (wtCells (l.take k)) HS3.out HL1.out HL2.out HBXE.out.size ?_; intro A4 c4 w4 hown hgr; have HB4 := Lib.hid (show Below w.heap.size w w4 from (HBXE.out.drew).grown hgr HBXE.out.size (fun j hj => (HO3.out.lt j hj).1)); have HOW4 := Lib.hid (show w4.ownsRow w.heap.size 56 3 (.slice A4 k c4) k (wtCells (l.take k)) from (by have h := hown; rw [Nat.zero_add, List.nil_append] at h; exact h)); have p4 := (HPB.out w4 HB4.out).trans hp; have HX4 := Lib.hid (src_one w4 (Blk.grown HX3.out hgr (by simp [Value.ownBlock])) (by intro u hu; simp at hu; rcases hu with rfl | rfl | rfl <;> rfl)); clear hown hgr)
          | (refine step_app _ (by rfl) (.tmp 66) (.tmp 70) 26 (by rfl) w.heap.size 56 i0 _ 3 48 hun hi0 hz0 hz1 hz2 rfl (by omega) A4 k c4 (wtCells (l.take k)) (by rfl) HOW4.out (.slice (some ⟨w.heap.size + 1, 0, none⟩) 1 1) (by rfl) 1 [.int .i64 lu, .string ho, .slice none 0 0] HX4.out HL3.out HL4.out HB4.out.size ?_; intro A5 c5 w5 hown hgr; have HB5 := Lib.hid (show Below w.heap.size w w5 from HB4.out.grown hgr HB4.out.size (fun j hj => (HOW4.out.lt j hj).1)); have HOW5 := Lib.hid hown; have p5 := (HPB.out w5 HB5.out).trans hp; have HS5 := Lib.hid (show SrcAt w5 (.slice (some ⟨g, z, none⟩) (l.length - k) (c - k)) (l.length - k) 3 (wtCells (l.drop k)) from HV2.out.below HB5.out); clear hown hgr)
          | (refine step_app _ (by rfl) (.tmp 66) (.tmp 70) 26 (by rfl) w.heap.size 56 i0 _ 3 48 hun hi0 hz0 hz1 hz2 rfl (by omega) A4 k c4 (wtCells (l.take k)) (by rfl) HOW4.out (.slice (some ⟨w.heap.size, 0, none⟩) 1 1) (by rfl) 1 [.int .i64 lu, .string ho, .slice none 0 0] HX4.out HL3.out HL4.out HB4.out.size ?_; intro A5 c5 w5 hown hgr; have HB5 := Lib.hid (show Below w.heap.size w w5 from HB4.out.grown hgr HB4.out.size (fun j hj => (HOW4.out.lt j hj).1)); have HOW5 := Lib.hid hown; have p5 := (HPB.out w5 HB5.out).trans hp; have HS5 := Lib.hid (show SrcAt w5 (.slice (some ⟨g, z, none⟩) (l.length - k) (c - k)) (l.length - k) 3 (wtCells (l.drop k)) from HV2.out.below HB5.out); clear hown hgr)
          | (refine step_app _ (by rfl) (.tmp 66) (.tmp 70) 26 (by rfl) w.heap.size 56 i0 _ 3 48 hun hi0 hz0 hz1 hz2 rfl (by omega) A4 k c4 (wtCells (l.take k)) (by rfl) HOW4x.out (.slice (some ⟨w4.heap.size, 0, none⟩) 1 1) (by rfl) 1 [.int .i64 lu, .string ho, .slice none 0 0] HX4x.out HL3.out HL4.out HB4x.out.size ?_; intro A5 c5 w5 hown hgr; have HB5 := Lib.hid (show Below w.heap.size w w5 from HB4x.out.grown hgr HB4x.out.size (fun j hj => (HOW4x.out.lt j hj).1)); have HOW5 := Lib.hid hown; have p5 := (HPB.out w5 HB5.out).trans hp; have HS5 := Lib.hid (show SrcAt w5 (.slice (some ⟨g, z, none⟩) (l.length - k) (c - k)) (l.length - k) 3 (wtCells (l.drop k)) from HV2.out.below HB5.out); clear hown hgr)
          | (refine step_app _ (by rfl) (.tmp 71) (.tmp 77) 26 (by rfl) w.heap.size 56 i0 _ 3 48 hun hi0 hz0 hz1 hz2 rfl (by omega) A5 (k + 1) c5 ((wtCells (l.take k)) ++ [.int .i64 lu, .string ho, .slice none 0 0]) (by rfl) HOW5.out (.slice (some ⟨g, z, none⟩) (l.length - k) (c - k)) (by rfl) (l.length - k) (wtCells (l.drop k)) HS5.out HL5.out HL6.out HB5.out.size ?_; intro A6 c6 w6 hown hgr; have HB6 := Lib.hid (show Below w.heap.size w w6 from HB5.out.grown hgr HB5.out.size (fun j hj => (HOW5.out.lt j hj).1)); have HOW6 := Lib.hid hown; have p6 := (HPB.out w6 HB6.out).trans hp; have f6 := HFZ.out w6 HB6.out; clear hown hgr)
          | fail)
        all_goals (first
          | (go_meet; (first | exact ⟨rfl, HEND.out _ _ _ HB6.out HOW6.out _ rfl⟩ | exact ⟨rfl, HEND.out w6.drew _ _ HB6.out.drew HOW6.out _ rfl⟩))
          | (go_wp2_with (fail); go_meet; (first | exact ⟨rfl, HEND.out _ _ _ HB6.out HOW6.out _ rfl⟩ | exact ⟨rfl, HEND.out w6.drew _ _ HB6.out.drew HOW6.out _ rfl⟩)))
      case rest =>
        obtain ⟨rfl, ⟨G', hQ', hG'⟩, hO⟩ := hcut
        have hg' := insL_good HG.out HK.out HNO.out HLU.out HNM.out HLO.out HHI.out
        have hfq := insL_fq HG.out hg'
        clear hp hki hk0
        obtain ⟨A, c, hp, hr⟩ := hQ'.row
        obtain ⟨g, rfl, _, c0, c1, c2, f2, _⟩ := hr k _ (insL_at HK.out lu ho)
        have HEND := Lib.hid (fun (w5 : World) (hb : Below wc.heap.size wc w5) (A2 : Option Addr) (c2' : Nat) (hown : w5.ownsRow wc.heap.size 3 1 (.slice A2 1 c2') 1 ([wy].map (.int .i64))) (V : World) (hV : V = w5.setCell ⟨g, k * 3 + 2, none⟩ (.slice A2 1 c2')) => show RqOut (mb + 1) G w p (upd (fq l) lu ho [wy]) V from hfq ▸ RqOut.from hO hG' (radd_end (m := 1) (zs := [wy]) hQ' hg' (by rw [insL_length HK.out]; have := HLB.out; have := HK.out; omega) (insL_at HK.out lu ho) ⟨rfl, rfl⟩ hb rfl (Nat.le_refl 1) (by omega) hown hp V hV))
        obtain ⟨n, hnn⟩ : ∃ n, n = (insL l k lu ho).length := ⟨_, rfl⟩
        rw [← hnn] at hp
        have hkl : (k : Int) < (n : Int) := by rw [hnn, insL_length HK.out]; omega
        have c2 : wc.cell? ⟨g, k * 3 + 2, none⟩ = some (.slice none 0 0) := c2
        have HROWC : Hid (∀ v, Below wc.heap.size wc v → v.cell? ⟨g, k * 3 + 2, none⟩ = some (.slice none 0 0) ∧ v.frozen? ⟨g, k * 3 + 2, none⟩ = false) := fun v hv =>
          have hgl := World.block_lt_of_cell? wc ⟨g, k * 3 + 2, none⟩ c2
          ⟨(World.cell?_of_block (a := ⟨g, k * 3 + 2, none⟩) (hv.block g hgl)).trans c2, (World.frozen?_of_block (a := ⟨g, k * 3 + 2, none⟩) (hv.block g hgl)).trans f2⟩
        have HSV : Hid (SrcAt wc (.slice none 0 0) 0 1 []) := Lib.hid ⟨rfl, (by intro u hu; cases hu), .inl ⟨rfl, 0, rfl⟩⟩
        obtain ⟨i0, hi0, hz0, hz1, hz2⟩ := info_parts infoInt
        have hki0 : ¬ (k : Int) < 0 := by omega
        clear hQ' hr hnn hg' hfq hO hG' c0 c1 f2
        go_wp2_with (fail)
        have HBE := Lib.hid (show Below wc.heap.size wc (wc.alloc (.cells #[] 3)) from (Below.refl _ _).alloc (Nat.le_refl _) _)
        have HBX := Lib.hid (show Below wc.heap.size wc (wc.alloc (.cells #[.int .i64 wy] 3)) from (Below.refl _ _).alloc (Nat.le_refl _) _)
        have HBEX := Lib.hid (show Below wc.heap.size wc ((wc.alloc (.cells #[] 3)).alloc (.cells #[.int .i64 wy] 3)) from HBE.out.alloc (by simp) _)
        have HBXE := Lib.hid (show Below wc.heap.size wc ((wc.alloc (.cells #[.int .i64 wy] 3)).alloc (.cells #[] 3)) from HBX.out.alloc (by simp) _)
        have HPB : Hid (∀ v, Below wc.heap.size wc v → v.cell? ⟨p, 0, none⟩ = wc.cell? ⟨p, 0, none⟩) := fun v hv => World.cell?_of_block (hv.block p (World.block_lt_of_cell? wc ⟨p, 0, none⟩ hp))
        have pe := (HPB.out _ HBE.out).trans hp
        have px := (HPB.out _ HBX.out).trans hp
        have pex := (HPB.out _ HBEX.out).trans hp
        have pxe := (HPB.out _ HBXE.out).trans hp
        have HO1 := Lib.hid (show (wc.alloc (.cells #[] 3)).drew.ownsRow wc.heap.size 3 1 (.slice (some ⟨wc.heap.size, 0, none⟩) 0 0) 0 [] from own_none wc 3 1 (Nat.le_refl _))
        have HO2 := Lib.hid (show ((wc.alloc (.cells #[] 3)).alloc (.cells #[.int .i64 wy] 3)).drew.ownsRow wc.heap.size 3 1 (.slice (some ⟨wc.heap.size, 0, none⟩) 0 0) 0 [] from own_keep HO1 (fun j hj => Below.heap_alloc _ _ j (HO1.out.lt j hj).2))
        have hsx : (wc.alloc (.cells #[.int .i64 wy] 3)).heap.size = wc.heap.size + 1 := by simp
        have HO3 : Hid (((wc.alloc (.cells #[.int .i64 wy] 3)).alloc (.cells #[] 3)).drew.ownsRow wc.heap.size 3 1 (.slice (some ⟨wc.heap.size + 1, 0, none⟩) 0 0) 0 []) := by
          have h := own_none (wc.alloc (.cells #[.int .i64 wy] 3)) 3 1 (base := wc.heap.size) (by simp)
          rw [hsx] at h
          exact h
        clear hsx
        have HS1 := Lib.hid (show SrcAt (wc.alloc (.cells #[] 3)).drew (.slice none 0 0) 0 1 [] from HSV.out.below HBE.out.drew)
        have HS2 := Lib.hid (show SrcAt ((wc.alloc (.cells #[] 3)).alloc (.cells #[.int .i64 wy] 3)).drew (.slice none 0 0) 0 1 [] from HSV.out.below HBEX.out.drew)
        have HS3 := Lib.hid (show SrcAt ((wc.alloc (.cells #[.int .i64 wy] 3)).alloc (.cells #[] 3)).drew (.slice none 0 0) 0 1 [] from HSV.out.below HBXE.out.drew)
        have HX2 := Lib.hid (show Blk ((wc.alloc (.cells #[] 3)).alloc (.cells #[.int .i64 wy] 3)).drew (wc.heap.size + 1) 3 #[.int .i64 wy] from (by have h := Blk.new (wc.alloc (.cells #[] 3)) 3 #[.int .i64 wy]; have e : (wc.alloc (.cells #[] 3)).heap.size = wc.heap.size + 1 := (by simp); rw [e] at h; exact h))
        have HX3 := Lib.hid (show Blk ((wc.alloc (.cells #[.int .i64 wy] 3)).alloc (.cells #[] 3)).drew wc.heap.size 3 #[.int .i64 wy] from (Blk.new wc 3 #[.int .i64 wy]).alloc _)
        have HL1 := Lib.hid (show 0 + 0 ≤ maxLen by have := HM.out; unfold maxLen; omega)
        have HL2 := Lib.hid (show (0 + 0) * 8 ≤ 140737488355328 by have := HM.out; omega)
        have HL3 := Lib.hid (show 0 + 1 ≤ maxLen by have := HM.out; unfold maxLen; omega)
        have HL4 := Lib.hid (show (0 + 1) * 8 ≤ 140737488355328 by have := HM.out; omega)
        have HN4 : Hid (∀ v : World, True) := fun _ => trivial
        go_region_law (first
          | (refine step_app _ (by rfl) (.tmp 112) (.tmp 113) 41 (by rfl) wc.heap.size 3 i0 _ 1 8 Try.underlying41 hi0 hz0 hz1 hz2 rfl (by omega) (some ⟨wc.heap.size, 0, none⟩) 0 0 [] (by rfl) HO1.out (.slice none 0 0) (by rfl) 0 [] HS1.out HL1.out HL2.out HBE.out.size ?_; intro A4 c4 w4 hown hgr; have HB4 := Lib.hid (show Below wc.heap.size wc w4 from (HBE.out.drew).grown hgr HBE.out.size (fun j hj => (HO1.out.lt j hj).1)); have HOW4 := Lib.hid (show w4.ownsRow wc.heap.size 3 1 (.slice A4 0 c4) 0 [] from (by have h := hown; rw [Nat.zero_add, List.nil_append] at h; exact h)); have p4 := (HPB.out w4 HB4.out).trans hp; have HB4x := Lib.hid (show Below wc.heap.size wc (w4.alloc (.cells #[.int .i64 wy] 3)) from HB4.out.alloc HB4.out.size _); have p4x := (HPB.out _ HB4x.out).trans hp; have HX4x := Lib.hid (src_one _ (Blk.new w4 3 #[.int .i64 wy]) (by intro u hu; simp at hu; subst hu; rfl)); have HOW4x := Lib.hid (show (w4.alloc (.cells #[.int .i64 wy] 3)).ownsRow wc.heap.size 3 1 (.slice A4 0 c4) 0 [] from own_keep HOW4 (fun j hj => Below.heap_alloc _ _ j (HOW4.out.lt j hj).2)); clear hown hgr)
          | (refine step_app _ (by rfl) (.tmp 112) (.tmp 113) 41 (by rfl) wc.heap.size 3 i0 _ 1 8 Try.underlying41 hi0 hz0 hz1 hz2 rfl (by omega) (some ⟨wc.heap.size, 0, none⟩) 0 0 [] (by rfl) HO2.out (.slice none 0 0) (by rfl) 0 [] HS2.out HL1.out HL2.out HBEX.out.size ?_; intro A4 c4 w4 hown hgr; have HB4 := Lib.hid (show Below wc.heap.size wc w4 from (HBEX.out.drew).grown hgr HBEX.out.size (fun j hj => (HO2.out.lt j hj).1)); have HOW4 := Lib.hid (show w4.ownsRow wc.heap.size 3 1 (.slice A4 0 c4) 0 [] from (by have h := hown; rw [Nat.zero_add, List.nil_append] at h; exact h)); have p4 := (HPB.out w4 HB4.out).trans hp; have HB4x := Lib.hid (show Below wc.heap.size wc (w4.alloc (.cells #[.int .i64 wy] 3)) from HB4.out.alloc HB4.out.size _); have p4x := (HPB.out _ HB4x.out).trans hp; have HX4 := Lib.hid (src_one w4 (Blk.grown HX2.out hgr (by simp [Value.ownBlock])) (by intro u hu; simp at hu; subst hu; rfl)); clear hown hgr)
          | (refine step_app _ (by rfl) (.tmp 112) (.tmp 113) 41 (by rfl) wc.heap.size 3 i0 _ 1 8 Try.underlying41 hi0 hz0 hz1 hz2 rfl (by omega) (some ⟨wc.heap.size + 1, 0, none⟩) 0 0 [] (by rfl) HO3.out (.slice none 0 0) (by rfl) 0 [] HS3.out HL1.out HL2.out HBXE.out.size ?_; intro A4 c4 w4 hown hgr; have HB4 := Lib.hid (show Below wc.heap.size wc w4 from (HBXE.out.drew).grown hgr HBXE.out.size (fun j hj => (HO3.out.lt j hj).1)); have HOW4 := Lib.hid (show w4.ownsRow wc.heap.size 3 1 (.slice A4 0 c4) 0 [] from (by have h := hown; rw [Nat.zero_add, List.nil_append] at h; exact h)); have p4 := (HPB.out w4 HB4.out).trans hp; have HB4x := Lib.hid (show Below wc.heap.size wc (w4.alloc (.cells #[.int .i64 wy] 3)) from HB4.out.alloc HB4.out.size _); have p4x := (HPB.out _ HB4x.out).trans hp; have HX4 := Lib.hid (src_one w4 (Blk.grown HX3.out hgr (by simp [Value.ownBlock])) (by intro u hu; simp at hu; subst hu; rfl)); clear hown hgr)
          | (refine step_app _ (by rfl) (.tmp 114) (.tmp 116) 41 (by rfl) wc.heap.size 3 i0 _ 1 8 Try.underlying41 hi0 hz0 hz1 hz2 rfl (by omega) A4 0 c4 [] (by rfl) HOW4.out (.slice (some ⟨wc.heap.size + 1, 0, none⟩) 1 1) (by rfl) 1 [.int .i64 wy] HX4.out HL3.out HL4.out HB4.out.size ?_; intro A5 c5 w5 hown hgr; have HB5 := Lib.hid (show Below wc.heap.size wc w5 from HB4.out.grown hgr HB4.out.size (fun j hj => (HOW4.out.lt j hj).1)); have HOW5 := Lib.hid hown; have p5 := (HPB.out w5 HB5.out).trans hp; obtain ⟨r5, f5⟩ := HROWC.out w5 HB5.out; clear hown hgr)
          | (refine step_app _ (by rfl) (.tmp 114) (.tmp 116) 41 (by rfl) wc.heap.size 3 i0 _ 1 8 Try.underlying41 hi0 hz0 hz1 hz2 rfl (by omega) A4 0 c4 [] (by rfl) HOW4.out (.slice (some ⟨wc.heap.size, 0, none⟩) 1 1) (by rfl) 1 [.int .i64 wy] HX4.out HL3.out HL4.out HB4.out.size ?_; intro A5 c5 w5 hown hgr; have HB5 := Lib.hid (show Below wc.heap.size wc w5 from HB4.out.grown hgr HB4.out.size (fun j hj => (HOW4.out.lt j hj).1)); have HOW5 := Lib.hid hown; have p5 := (HPB.out w5 HB5.out).trans hp; obtain ⟨r5, f5⟩ := HROWC.out w5 HB5.out; clear hown hgr)
          | (refine step_app _ (by rfl) (.tmp 114) (.tmp 116) 41 (by rfl) wc.heap.size 3 i0 _ 1 8 Try.underlying41 hi0 hz0 hz1 hz2 rfl (by omega) A4 0 c4 [] (by rfl) HOW4x.out (.slice (some ⟨w4.heap.size, 0, none⟩) 1 1) (by rfl) 1 [.int .i64 wy] HX4x.out HL3.out HL4.out HB4x.out.size ?_; intro A5 c5 w5 hown hgr; have HB5 := Lib.hid (show Below wc.heap.size wc w5 from HB4x.out.grown hgr HB4x.out.size (fun j hj => (HOW4x.out.lt j hj).1)); have HOW5 := Lib.hid hown; have p5 := (HPB.out w5 HB5.out).trans hp; obtain ⟨r5, f5⟩ := HROWC.out w5 HB5.out; clear hown hgr)
          | fail)
        all_goals (
          go_wp2_with (fail)
          go_ret
          refine ⟨rfl, ?_⟩
          first | exact HEND.out _ HB5.out _ _ HOW5.out _ rfl | exact HEND.out w5.drew HB5.out.drew _ _ HOW5.out _ rfl)
end Go.Proofs.Ytacogfllnhopoaa
