/- Decode, the program's. -/
import Derived.Test.YthedonkjnfeajaaDoorImY
namespace Go.Proofs.YthedonkjnfeajaaDoor
open Go.RowKit
theorem imB_eq (s : ByteArray) : imB s = (goodB (readT (lst s)) && eqS (baL (imgL (readT (lst s)))) s) := by
  unfold imB
  cases goodB (readT (lst s)) with
  | false => rfl
  | true =>
    rw [Bool.true_and, Bool.true_and]
    apply Bool.eq_iff_iff.2
    rw [eqS_iff, beq_iff_eq]
    exact ⟨fun h => lst_inj (by rw [lst_baL, h]), fun h => by have q := congrArg lst h; rw [lst_baL] at q; exact q⟩
theorem DcI.first {w w1 w2 : World} {A : Option Addr} {c : Nat} {t : Tl} (h1 : Blk w1 w.heap.size 27 tlZ) (h2 : Below w.heap.size w w1) (hz : w1.heap.size = w.heap.size + 1) (ho : Own w2 w1.heap.size A c t.rs) (hb : Below w1.heap.size w1 w2) :
    DcI w w2.heap.size A c t (w2.alloc (.cells (tlC A c t) 27)) := by
  have hb2 : Below w2.heap.size w2 (w2.alloc (.cells (tlC A c t) 27)) := (Below.refl _ _).alloc (Nat.le_refl _) _
  have q := hb.size
  exact ⟨(h1.below hb h1.lt).alloc _, Blk.new w2 _ _, ⟨own_base (own_keep' ho.1 hb2) (fun g hg => by have := (ho.1.lt g hg).1; omega), ho.2⟩, (h2.trans (hb.mono (by omega))).trans (hb2.mono (by omega)), by omega⟩
set_option maxRecDepth 100000 in
set_option maxHeartbeats 4000000 in
theorem decode_any (s : ByteArray) (w : World) (hs : s.size ≤ 100000) (ht : Tab w) :
    Calls Tryd.prog 14 #[.string s] w fun e w' => ∃ A c, e = .returned (.tuple #[tlV A c (decT s), .int .i64 (decC s)]) ∧ Own w' w.heap.size A c (decT s).rs ∧ Below w.heap.size w w' := by
  obtain ⟨h1, h2, h3⟩ := dec_first w _ rfl
  have HT := Lib.hid h1; have HB := Lib.hid h2; have HZ := Lib.hid h3
  have HTb := Lib.hid (ht.below h2)
  have HS := Lib.hid hs
  have HI := Lib.hid (imB_eq s)
  have HU := Lib.hid (readT_u (lst s))
  have HN := Lib.hid (show (readT (lst s)).rs.length ≤ maxLen by
    show (rdS _ _).1.length ≤ _
    rw [rdS_len]; exact Nat.le_trans (Nat.le_of_lt (numL_lt 1 _)) (by decide))
  have HR := Lib.hid (fun v => read_any s v hs)
  have HD1 := Lib.hid (show imB s = true → decT s = readT (lst s) ∧ decC s = 0 from fun h => by unfold decT decC; rw [if_pos h, if_pos h]; exact ⟨rfl, rfl⟩)
  have HD2 := Lib.hid (show imB s = false → decT s = tZ ∧ decC s = 61 from fun h => by unfold decT decC; rw [h]; exact ⟨rfl, rfl⟩)
  clear h1 h2 h3 hs ht
  generalize readT (lst s) = t at *
  go_enter Tryd.func14, Tryd.ntmps14
  go_upto_region 1 with (fail)
  change Code.wp _ _ _ _ (w.alloc (.cells tlZ 27))
  generalize w.alloc (.cells tlZ 27) = w1 at *
  go_wp2_with (fail)
  refine (HR.out _).mono ?_; rintro e w2 ⟨A, c, rfl, ho, hb⟩
  have H := Lib.hid (DcI.first HT.out HB.out HZ.out ho hb)
  have hb2 : Below w2.heap.size w2 (w2.alloc (.cells (tlC A c t) 27)) := (Below.refl _ _).alloc (Nat.le_refl _) _
  have HTb2 := Lib.hid ((HTb.out.below hb).below hb2)
  clear ho hb hb2 HT HB HZ HTb
  go_upto_region 2 with (fail)
  change Code.wp _ _ _ _ (w2.alloc (.cells (tlC A c t) 27))
  generalize w2.alloc (.cells (tlC A c t) 27) = w3 at *
  obtain ⟨T, hT⟩ : ∃ T, T = w2.heap.size := ⟨_, rfl⟩
  rw [← hT] at H
  rw [← hT]
  clear hT
  have k0 : w3.cell? ⟨T, 0, none⟩ = some (.slice A t.rs.length c) := H.out.tb.cell 0
  have k1 : w3.cell? ⟨T, 1, none⟩ = some (.int .i64 t.ty) := H.out.tb.cell 1
  have k2 : w3.cell? ⟨T, 2, none⟩ = some (.string t.ho) := H.out.tb.cell 2
  have k3 : w3.cell? ⟨T, 3, none⟩ = some (.int .u32 t.ge) := H.out.tb.cell 3
  have k4 : w3.cell? ⟨T, 4, none⟩ = some (.bool t.ap) := H.out.tb.cell 4
  go_wp2_with (fail)
  refine (encode_any A c t _ H.out.own.rgs HN.out HU.out HTb2.out).mono ?_; rintro e w4 ⟨rfl, hb⟩
  have H4 := Lib.hid (H.out.below hb)
  clear hb k0 k1 k2 k3 k4 H HTb2
  unfold encS encC
  cases hg : goodB t with
  | false =>
    have HF := Lib.hid (show imB s = false by rw [HI.out, hg]; rfl)
    clear hg HI
    have r0 : w4.cell? ⟨w.heap.size, 0, none⟩ = some (.slice none 0 0) := H4.out.res.cell 0
    have r1 : w4.cell? ⟨w.heap.size, 1, none⟩ = some (.int .i64 0) := H4.out.res.cell 1
    have r2 : w4.cell? ⟨w.heap.size, 2, none⟩ = some (.string ⟨#[]⟩) := H4.out.res.cell 2
    have r3 : w4.cell? ⟨w.heap.size, 3, none⟩ = some (.int .u32 0) := H4.out.res.cell 3
    have r4 : w4.cell? ⟨w.heap.size, 4, none⟩ = some (.bool false) := H4.out.res.cell 4
    have z0 := H4.out.res.free 0
    have z1 := H4.out.res.free 1
    have z2 := H4.out.res.free 2
    have z3 := H4.out.res.free 3
    have z4 := H4.out.res.free 4
    go_wp2_with (fail)
    obtain ⟨hK, hB⟩ := H4.out.none _ rfl
    refine bodyPost_ret_by (results_tl rfl _ _ w.heap.size _ _ _ _ _ rfl hK) rfl ?_
    rw [(HD2.out HF.out).1, (HD2.out HF.out).2]
    exact ⟨none, 0, rfl, Own.nil _ _, hB⟩
  | true =>
    rw [hg, Bool.true_and] at HI
    obtain ⟨es, hes⟩ : ∃ x, x = baL (imgL t) := ⟨_, rfl⟩
    rw [if_pos rfl, if_pos rfl, ← hes]
    rw [← hes] at HI
    clear hes hg
    cases hq : eqS es s with
    | false =>
      have HF := Lib.hid (show imB s = false by rw [HI.out, hq])
      have hn : (es.toList == s.toList) = false := hq
      clear hq HI
      have r0 : w4.cell? ⟨w.heap.size, 0, none⟩ = some (.slice none 0 0) := H4.out.res.cell 0
      have r1 : w4.cell? ⟨w.heap.size, 1, none⟩ = some (.int .i64 0) := H4.out.res.cell 1
      have r2 : w4.cell? ⟨w.heap.size, 2, none⟩ = some (.string ⟨#[]⟩) := H4.out.res.cell 2
      have r3 : w4.cell? ⟨w.heap.size, 3, none⟩ = some (.int .u32 0) := H4.out.res.cell 3
      have r4 : w4.cell? ⟨w.heap.size, 4, none⟩ = some (.bool false) := H4.out.res.cell 4
      have z0 := H4.out.res.free 0
      have z1 := H4.out.res.free 1
      have z2 := H4.out.res.free 2
      have z3 := H4.out.res.free 3
      have z4 := H4.out.res.free 4
      go_wp2_with (fail)
      obtain ⟨hK, hB⟩ := H4.out.none _ rfl
      refine bodyPost_ret_by (results_tl rfl _ _ w.heap.size _ _ _ _ _ rfl hK) rfl ?_
      rw [(HD2.out HF.out).1, (HD2.out HF.out).2]
      exact ⟨none, 0, rfl, Own.nil _ _, hB⟩
    | true =>
      have HF := Lib.hid (show imB s = true by rw [HI.out, hq])
      have hn : (es.toList == s.toList) = true := hq
      clear hq HI
      have k0 : w4.cell? ⟨T, 0, none⟩ = some (.slice A t.rs.length c) := H4.out.tb.cell 0
      have k1 : w4.cell? ⟨T, 1, none⟩ = some (.int .i64 t.ty) := H4.out.tb.cell 1
      have k2 : w4.cell? ⟨T, 2, none⟩ = some (.string t.ho) := H4.out.tb.cell 2
      have k3 : w4.cell? ⟨T, 3, none⟩ = some (.int .u32 t.ge) := H4.out.tb.cell 3
      have k4 : w4.cell? ⟨T, 4, none⟩ = some (.bool t.ap) := H4.out.tb.cell 4
      have r0 : w4.cell? ⟨w.heap.size, 0, none⟩ = some (.slice none 0 0) := H4.out.res.cell 0
      have r1 : w4.cell? ⟨w.heap.size, 1, none⟩ = some (.int .i64 0) := H4.out.res.cell 1
      have r2 : w4.cell? ⟨w.heap.size, 2, none⟩ = some (.string ⟨#[]⟩) := H4.out.res.cell 2
      have r3 : w4.cell? ⟨w.heap.size, 3, none⟩ = some (.int .u32 0) := H4.out.res.cell 3
      have r4 : w4.cell? ⟨w.heap.size, 4, none⟩ = some (.bool false) := H4.out.res.cell 4
      have z0 := H4.out.res.free 0
      have z1 := H4.out.res.free 1
      have z2 := H4.out.res.free 2
      have z3 := H4.out.res.free 3
      have z4 := H4.out.res.free 4
      go_wp2_with (fail)
      obtain ⟨hK, hO, hB⟩ := H4.out.done _ rfl
      refine bodyPost_ret_by (results_tl rfl _ _ w.heap.size _ _ _ _ _ rfl hK) rfl ?_
      rw [(HD1.out HF.out).1, (HD1.out HF.out).2]
      exact ⟨A, c, rfl, hO, hB⟩
end Go.Proofs.YthedonkjnfeajaaDoor
