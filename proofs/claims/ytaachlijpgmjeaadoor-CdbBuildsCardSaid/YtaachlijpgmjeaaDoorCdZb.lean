/- What the code makes of an ask: the block that asks for it. -/
import Derived.Test.YtaachlijpgmjeaaDoorCdZa
import Derived.Test.YtaachlijpgmjeaaDoorCdL
import Derived.Laws.StructEq
namespace Go.Proofs.YtaachlijpgmjeaaDoor
open Go.RowKit
theorem ak_neq (x y : Ak) (w : World) : (binOp .neq 24 (akV x) (akV y)).run Tryd.prog w = .ok (.bool (!(sameA x y))) w := by
  go_simp
  by_cases h0 : x.op = y.op
  · rw [if_pos h0]
    by_cases h1 : x.lba = y.lba
    · rw [if_pos h1]
      by_cases h2 : x.blk = y.blk
      · rw [if_pos h2]
        by_cases h3 : x.fu = y.fu
        · rw [if_pos h3]
          by_cases h4 : x.page = y.page
          · rw [if_pos h4]
            by_cases h5 : x.want = y.want
            · rw [if_pos h5]
              by_cases h6 : x.ty = y.ty
              · rw [if_pos h6]
                simp [sameA, h0, h1, h2, h3, h4, h5, h6]
              · rw [if_neg h6]
                simp [sameA, h0, h1, h2, h3, h4, h5, h6]
            · rw [if_neg h5]
              simp [sameA, h0, h1, h2, h3, h4, h5]
          · rw [if_neg h4]
            simp [sameA, h0, h1, h2, h3, h4]
        · rw [if_neg h3]
          simp [sameA, h0, h1, h2, h3]
      · rw [if_neg h2]
        simp [sameA, h0, h1, h2]
    · rw [if_neg h1]
      simp [sameA, h0, h1]
  · rw [if_neg h0]
    simp [sameA, h0]
theorem wr_len (f : Fm) (x : Ak) (a : Nat) : (wr5 f x a).length = f.size := by
  unfold wr5 wr4 wr3
  split <;> split <;> split <;> simp [wr2_len]
theorem wrS_small (f : Fm) (x : Ak) (a : Nat) (h : f.In) : (wrS f x a).size ≤ 100000 := by
  have h1 := put_len (z := u64N x.lba) (wr_len f x a) h.la.2.1 h.la.2.2
  have h2 := put_len (z := u64N x.blk) h1 h.ba.2.1 h.ba.2.2
  have h3 := put_len (z := u64N x.want) h2 h.wa.2.1 h.wa.2.2
  have e : (wrS f x a).size = (wrL f x a).length := by show (wrL f x a).toArray.size = _; simp
  rw [e]
  have := h.size
  unfold wrL
  omega
/-- What is told where there is no block. -/
theorem bld_no {x : Ak} {w w' : World} {e : Ending} (h : buildS x = none) (he : e = .returned (.tuple #[.string ⟨#[]⟩, .int .i64 150])) (hb : Below w.heap.size w w') : BldOut (buildS x) w e w' := by
  rw [h]; exact ⟨he, hb⟩
set_option maxRecDepth 100000 in
set_option maxHeartbeats 8000000 in
theorem build_any (x : Ak) (hx : Bnd x) (w : World) (ht : FT w) : Calls Tryd.prog 15 #[akV x] w (BldOut (buildS x) w) := by
  have HT := Lib.hid ht
  have HSP := Lib.hid (fun v => split_any x.op v hx.op)
  rw [show (if x.op < 256 then x.op else x.op / 256) = firstC x from rfl, show (if x.op < 256 then 0 else x.op % 256) = actC x from rfl] at HSP
  obtain ⟨hac, hal⟩ := actC_nat x
  obtain ⟨a, ha⟩ : ∃ a, a = (actC x).toNat := ⟨_, rfl⟩
  have HAA := Lib.hid ha
  rw [hac, ← ha] at HSP
  rw [← ha] at hal
  have HC := Lib.hid (fun v (hv : FT v) => formOf_any (firstC x) v hv)
  obtain ⟨b, hb⟩ : ∃ b, b = firstC x := ⟨_, rfl⟩
  have HBB := Lib.hid hb
  rw [← hb] at HSP HC
  have HX0 := Lib.hid (Blk.new w 24 (akC x))
  have HB0 := Lib.hid ((Below.refl w.heap.size w).alloc (Nat.le_refl _) (.cells (akC x) 24))
  clear ht ha hb hac
  cases hf : fmI b with
  | none =>
    have HNO := Lib.hid (build_none (x := x) (by rw [← HBB.out]; exact hf))
    rw [foV_no hf] at HC
    generalize zF = f at HC
    clear hf
    go_enter Tryd.func15, Tryd.ntmps15
    go_upto_region 1 with (fail)
    change Code.wp _ _ _ _ (w.alloc (.cells (akC x) 24))
    generalize w.alloc (.cells (akC x) 24) = v0 at *
    obtain ⟨p, hp⟩ : ∃ p, p = w.heap.size := ⟨_, rfl⟩
    rw [← hp] at HX0 ⊢
    clear hp
    have c0 : v0.cell? ⟨p, 0, none⟩ = some (.int .i64 x.op) := HX0.out.cell 0
    go_wp2_with (fail)
    refine (HSP.out v0).mono ?_; rintro e v1 ⟨rfl, rfl⟩
    clear c0
    go_wp2_with (fail)
    refine (HC.out _ (ft HT HB0)).mono ?_; rintro e v1 ⟨rfl, hb⟩
    have HB1 := Lib.hid (HB0.out.trans (hb.mono HB0.out.size)); have HR1 := Lib.hid (HX0.out.below hb HX0.out.lt); clear hb
    go_upto_region 3 with (fail)
    change Code.wp _ _ _ _ (v1.alloc (.cells (fmC f) 51))
    have hal := (Below.refl v1.heap.size v1).alloc (Nat.le_refl _) (.cells (fmC f) 51)
    have HX := Lib.hid (Blk.new v1 51 (fmC f)); have HB := Lib.hid (HB1.out.trans (hal.mono HB1.out.size)); have HR := Lib.hid (HR1.out.below hal HR1.out.lt)
    obtain ⟨g, hg⟩ : ∃ g, g = v1.heap.size := ⟨_, rfl⟩
    rw [← hg] at HX ⊢
    clear hal hg HB0 HB1 HX0 HR1
    generalize v1.alloc (.cells (fmC f) 51) = v2 at *
    go_wp2_with (fail)
    go_ret2
    exact bld_no HNO.out rfl HB.out
  | some i =>
    have HFI := Lib.hid hf
    rw [foV_yes hf] at HC
    have HOK := Lib.hid (fm_ok i (fmI_yes hf).1)
    have HIN := Lib.hid (fm_in i (fmI_yes hf).1)
    obtain ⟨f, hff⟩ : ∃ f, f = fm i := ⟨_, rfl⟩
    have HFF := Lib.hid hff
    rw [← hff] at HC HOK HIN
    have HWR := Lib.hid (fun v (hv : FT v) => write_any f HOK.out HIN.out x a hal v hv)
    obtain ⟨t, htt⟩ : ∃ t, t = wrS f x a := ⟨_, rfl⟩
    have HTT := Lib.hid htt
    rw [← htt] at HWR
    have HSZ := Lib.hid (show t.size ≤ 100000 by rw [htt]; exact wrS_small f x a HIN.out)
    have HPA := Lib.hid (fun v (hv : FT v) => parse_any t v hv HSZ.out)
    clear hf hff htt hal
    go_enter Tryd.func15, Tryd.ntmps15
    go_upto_region 1 with (fail)
    change Code.wp _ _ _ _ (w.alloc (.cells (akC x) 24))
    generalize w.alloc (.cells (akC x) 24) = v0 at *
    obtain ⟨p, hp⟩ : ∃ p, p = w.heap.size := ⟨_, rfl⟩
    rw [← hp] at HX0 ⊢
    clear hp
    have c0 : v0.cell? ⟨p, 0, none⟩ = some (.int .i64 x.op) := HX0.out.cell 0
    go_wp2_with (fail)
    refine (HSP.out v0).mono ?_; rintro e v1 ⟨rfl, rfl⟩
    clear c0
    go_wp2_with (fail)
    refine (HC.out _ (ft HT HB0)).mono ?_; rintro e v1 ⟨rfl, hb⟩
    have HB1 := Lib.hid (HB0.out.trans (hb.mono HB0.out.size)); have HR1 := Lib.hid (HX0.out.below hb HX0.out.lt); clear hb
    go_upto_region 3 with (fail)
    change Code.wp _ _ _ _ (v1.alloc (.cells (fmC f) 51))
    have hal := (Below.refl v1.heap.size v1).alloc (Nat.le_refl _) (.cells (fmC f) 51)
    have HX := Lib.hid (Blk.new v1 51 (fmC f)); have HB := Lib.hid (HB1.out.trans (hal.mono HB1.out.size)); have HR := Lib.hid (HR1.out.below hal HR1.out.lt)
    obtain ⟨g, hg⟩ : ∃ g, g = v1.heap.size := ⟨_, rfl⟩
    rw [← hg] at HX ⊢
    clear hal hg HB0 HB1 HX0 HR1
    generalize v1.alloc (.cells (fmC f) 51) = v2 at *
    go_upto_region 5 with (fail)
    refine wp_region_lit ?_
    refine wpList_load_row rfl 51 (.tmp 6) rfl g rfl 51 (fmC f) (0, 0) _ HX.out Tryd.underlying51 rfl form_info ?_
    refine wpList_load_row rfl 24 (.tmp 1) rfl p rfl 24 (akC x) (0, 0) _ HR.out Tryd.underlying24 rfl sizeA ?_
    go_wp2_with (fail)
    refine (HWR.out _ (ft HT HB)).mono ?_; rintro e v3 ⟨rfl, hb⟩
    replace HB := Lib.hid (HB.out.trans (hb.mono HB.out.size)); replace HR := Lib.hid (HR.out.below hb HR.out.lt); clear hb HX
    cases hp : parseS t with
    | none =>
      have HNO := Lib.hid (build_no (x := x) (i := i) (by rw [← HBB.out]; exact HFI.out) (by rw [← HAA.out, ← HFF.out, ← HTT.out, hp]; exact fun h => by cases h))
      have HPT : Hid (∀ v, FT v → Calls Tryd.prog 9 #[.string t] v fun e w' => e = .returned (.tuple #[akV zA, .int .i64 150]) ∧ Below v.heap.size v w') := Lib.hid (fun v hv => by have h := HPA.out v hv; rw [hp] at h; exact h)
      clear hp
      go_wp2_with (fail)
      refine (HPT.out _ (ft HT HB)).mono ?_; rintro e v4 ⟨rfl, hb⟩
      replace HB := Lib.hid (HB.out.trans (hb.mono HB.out.size)); replace HR := Lib.hid (HR.out.below hb HR.out.lt); clear hb
      go_upto_region 7 with (fail)
      change Code.wp _ _ _ _ (v4.alloc (.cells (akC zA) 24))
      have hal := (Below.refl v4.heap.size v4).alloc (Nat.le_refl _) (.cells (akC zA) 24)
      have HY := Lib.hid (Blk.new v4 24 (akC zA)); replace HB := Lib.hid (HB.out.trans (hal.mono HB.out.size)); replace HR := Lib.hid (HR.out.below hal HR.out.lt)
      obtain ⟨r, hr⟩ : ∃ r, r = v4.heap.size := ⟨_, rfl⟩
      rw [← hr] at HY ⊢
      clear hal hr
      generalize v4.alloc (.cells (akC zA) 24) = v5 at *
      go_wp2_with (fail)
      go_ret2
      exact bld_no HNO.out rfl HB.out
    | some y =>
      have HPY := Lib.hid hp
      have HPT : Hid (∀ v, FT v → Calls Tryd.prog 9 #[.string t] v fun e w' => e = .returned (.tuple #[akV y, .int .i64 0]) ∧ Below v.heap.size v w') := Lib.hid (fun v hv => by have h := HPA.out v hv; rw [hp] at h; exact h)
      clear hp
      go_wp2_with (fail)
      refine (HPT.out _ (ft HT HB)).mono ?_; rintro e v4 ⟨rfl, hb⟩
      replace HB := Lib.hid (HB.out.trans (hb.mono HB.out.size)); replace HR := Lib.hid (HR.out.below hb HR.out.lt); clear hb
      go_upto_region 7 with (fail)
      change Code.wp _ _ _ _ (v4.alloc (.cells (akC y) 24))
      have hal := (Below.refl v4.heap.size v4).alloc (Nat.le_refl _) (.cells (akC y) 24)
      have HY := Lib.hid (Blk.new v4 24 (akC y)); replace HB := Lib.hid (HB.out.trans (hal.mono HB.out.size)); replace HR := Lib.hid (HR.out.below hal HR.out.lt)
      obtain ⟨r, hr⟩ : ∃ r, r = v4.heap.size := ⟨_, rfl⟩
      rw [← hr] at HY ⊢
      clear hal hr
      generalize v4.alloc (.cells (akC y) 24) = v5 at *
      have c0 : v5.cell? ⟨p, 0, none⟩ = some (.int .i64 x.op) := HR.out.cell 0
      have d0 : v5.cell? ⟨r, 0, none⟩ = some (.int .i64 y.op) := HY.out.cell 0
      have c1 : v5.cell? ⟨p, 1, none⟩ = some (.int .i64 x.lba) := HR.out.cell 1
      have d1 : v5.cell? ⟨r, 1, none⟩ = some (.int .i64 y.lba) := HY.out.cell 1
      have c2 : v5.cell? ⟨p, 2, none⟩ = some (.int .i64 x.blk) := HR.out.cell 2
      have d2 : v5.cell? ⟨r, 2, none⟩ = some (.int .i64 y.blk) := HY.out.cell 2
      have c3 : v5.cell? ⟨p, 3, none⟩ = some (.bool x.fu) := HR.out.cell 3
      have d3 : v5.cell? ⟨r, 3, none⟩ = some (.bool y.fu) := HY.out.cell 3
      have c4 : v5.cell? ⟨p, 4, none⟩ = some (.int .i64 x.page) := HR.out.cell 4
      have d4 : v5.cell? ⟨r, 4, none⟩ = some (.int .i64 y.page) := HY.out.cell 4
      have c5 : v5.cell? ⟨p, 5, none⟩ = some (.int .i64 x.want) := HR.out.cell 5
      have d5 : v5.cell? ⟨r, 5, none⟩ = some (.int .i64 y.want) := HY.out.cell 5
      have c6 : v5.cell? ⟨p, 6, none⟩ = some (.int .i64 x.ty) := HR.out.cell 6
      have d6 : v5.cell? ⟨r, 6, none⟩ = some (.int .i64 y.ty) := HY.out.cell 6
      have hq := ak_neq y x v5
      cases hs : sameA y x with
      | true =>
        have hyx := sameA_iff.1 hs
        have HYES := Lib.hid (build_yes (x := x) (i := i) (by rw [← HBB.out]; exact HFI.out) (by rw [← HAA.out, ← HFF.out, ← HTT.out, HPY.out, hyx]))
        rw [← HAA.out, ← HFF.out, ← HTT.out] at HYES
        clear hs hq
        subst hyx
        go_wp2_with (fail)
        go_ret2
        exact ⟨by rw [HYES.out]; rfl, HB.out⟩
      | false =>
        have HNO := Lib.hid (build_no (x := x) (i := i) (by rw [← HBB.out]; exact HFI.out) (by rw [← HAA.out, ← HFF.out, ← HTT.out, HPY.out]; exact fun h => by rw [Option.some.inj h, sameA_iff.2 rfl] at hs; cases hs))
        have HSF := Lib.hid hs
        clear hs hq
        go_wp2_with (fail)
        all_goals first | (go_ret2; exact bld_no HNO.out rfl HB.out) | (exfalso; have h := HSF.out; simp_all [sameA])
/-- What the code's functions come to. -/
theorem code15 : Code15 := ⟨fun s w h hs => parse_any s w h hs, fun x w h hx => build_any x hx w h, fun s w h _ => length_any s w h, fun n w h => typ_any n w h, fun t w h => num_any t w h⟩
end Go.Proofs.YtaachlijpgmjeaaDoor
