/- The block that asks for anything: the statement, on the document's Build. -/
import Derived.Test.YtaachlijpgmjeaaDoorCdO
namespace Go.Proofs.YtaachlijpgmjeaaDoor
open Go.RowKit
set_option maxRecDepth 100000 in
set_option maxHeartbeats 16000000 in
theorem builds_any (P : Code15) (RB : ∀ x w, Bnd x → Calls Tryd.prog 16 #[akV x] w (BldOut (buildS x) w)) (x : Ak) (hx : Bnd x) (n : Int) (w : World) (ht15 : FT w) : Calls Tryd.prog 4 #[akV x, .int .i64 n] w fun e w' => e = .returned (.bool true) ∧ Below w.heap.size w w' := by
  have HFT := Lib.hid ht15
  clear ht15
  have HW := Lib.hid (fun v (hv : FT v) => wakes_any P v hv)
  have HO := Lib.hid (fun v => own_any x v)
  obtain ⟨t, ht⟩ : ∃ t, t = bldS (buildS x) := ⟨_, rfl⟩
  obtain ⟨ec, hec⟩ : ∃ ec, ec = bldE (buildS x) := ⟨_, rfl⟩
  have HQ : Hid (∀ v, FT v → Calls Tryd.prog 15 #[akV x] v fun e w' => e = .returned (.tuple #[.string t, .int .i64 ec]) ∧ Below v.heap.size v w') := Lib.hid (fun v hv => by rw [ht, hec]; exact P.build x v hv hx)
  have HR : Hid (∀ v, Calls Tryd.prog 16 #[akV x] v fun e w' => e = .returned (.tuple #[.string t, .int .i64 ec]) ∧ Below v.heap.size v w') := Lib.hid (fun v => by rw [ht, hec]; exact RB x v hx)
  obtain ⟨ty, hty⟩ : ∃ ty, ty = typN n := ⟨_, rfl⟩
  obtain ⟨nu, hnu⟩ : ∃ nu, nu = numN n := ⟨_, rfl⟩
  have HT1 : Hid (∀ v, FT v → Calls Tryd.prog 17 #[.int .i64 n] v fun e w' => e = .returned (.int .i64 ty) ∧ Below v.heap.size v w') := Lib.hid (fun v hv => by rw [hty]; exact P.typ n v hv)
  have HT2 : Hid (∀ v, Calls Tryd.prog 18 #[.int .i64 n] v fun e w' => e = .returned (.int .i64 ty) ∧ Below v.heap.size v w') := Lib.hid (fun v => by rw [hty]; exact refTyp_any n v)
  have HN1 : Hid (∀ v, FT v → Calls Tryd.prog 19 #[.int .i64 n] v fun e w' => e = .returned (.int .i64 nu) ∧ Below v.heap.size v w') := Lib.hid (fun v hv => by rw [hnu]; exact P.num n v hv)
  have HN2 : Hid (∀ v, Calls Tryd.prog 20 #[.int .i64 n] v fun e w' => e = .returned (.int .i64 nu) ∧ Below v.heap.size v w') := Lib.hid (fun v => by rw [hnu]; exact refNumN_any n v)
  obtain ⟨h1, h2⟩ := one_box w 24 x
  have HX0 := Lib.hid h1; have HB0 := Lib.hid h2
  have qt : (t.toList == t.toList) = true := by simp
  have qe : (ec == ec) = true := by simp
  have qy : (ty == ty) = true := by simp
  have qn : (nu == nu) = true := by simp
  clear h1 h2 ht hec hty hnu P RB hx
  go_enter Tryd.func4, Tryd.ntmps4
  go_upto_region 1 with (fail)
  change Code.wp _ _ _ _ (w.alloc (.cells (akC x) 24))
  generalize w.alloc (.cells (akC x) 24) = v0 at *
  obtain ⟨px, hpx⟩ : ∃ px, px = w.heap.size := ⟨_, rfl⟩
  have HPX := Lib.hid hpx
  rw [← hpx] at HX0 ⊢
  clear hpx
  have c0 : v0.cell? ⟨px, 0, none⟩ = some (.int .i64 x.op) := HX0.out.cell 0
  have c1 : v0.cell? ⟨px, 1, none⟩ = some (.int .i64 x.lba) := HX0.out.cell 1
  have c2 : v0.cell? ⟨px, 2, none⟩ = some (.int .i64 x.blk) := HX0.out.cell 2
  have c3 : v0.cell? ⟨px, 3, none⟩ = some (.bool x.fu) := HX0.out.cell 3
  have c4 : v0.cell? ⟨px, 4, none⟩ = some (.int .i64 x.page) := HX0.out.cell 4
  have c5 : v0.cell? ⟨px, 5, none⟩ = some (.int .i64 x.want) := HX0.out.cell 5
  have c6 : v0.cell? ⟨px, 6, none⟩ = some (.int .i64 x.ty) := HX0.out.cell 6
  go_wp2_with (fail)
  refine (HQ.out v0 (ft HFT (by assumption))).mono ?_; rintro e v1 ⟨rfl, hb⟩
  have HB1 := Lib.hid (HB0.out.trans (hb.mono HB0.out.size)); have HX1 := Lib.hid (HX0.out.below hb HX0.out.lt); clear hb c0 c1 c2 c3 c4 c5 c6
  have c0 : v1.cell? ⟨px, 0, none⟩ = some (.int .i64 x.op) := HX1.out.cell 0
  have c1 : v1.cell? ⟨px, 1, none⟩ = some (.int .i64 x.lba) := HX1.out.cell 1
  have c2 : v1.cell? ⟨px, 2, none⟩ = some (.int .i64 x.blk) := HX1.out.cell 2
  have c3 : v1.cell? ⟨px, 3, none⟩ = some (.bool x.fu) := HX1.out.cell 3
  have c4 : v1.cell? ⟨px, 4, none⟩ = some (.int .i64 x.page) := HX1.out.cell 4
  have c5 : v1.cell? ⟨px, 5, none⟩ = some (.int .i64 x.want) := HX1.out.cell 5
  have c6 : v1.cell? ⟨px, 6, none⟩ = some (.int .i64 x.ty) := HX1.out.cell 6
  go_wp2_with (fail)
  refine (HO.out v1).mono ?_; rintro e v2 ⟨rfl, hb⟩
  have HB2 := Lib.hid (HB1.out.trans (hb.mono HB1.out.size)); clear hb c0 c1 c2 c3 c4 c5 c6
  go_wp2_with (fail)
  refine (HR.out v2).mono ?_; rintro e v3 ⟨rfl, hb⟩
  have HB3 := Lib.hid (HB2.out.trans (hb.mono HB2.out.size)); clear hb
  go_wp2_with (fail)
  refine (HT1.out v3 (ft HFT (by assumption))).mono ?_; rintro e v4 ⟨rfl, hb⟩
  have HB4 := Lib.hid (HB3.out.trans (hb.mono HB3.out.size)); clear hb
  go_wp2_with (fail)
  refine (HT2.out v4).mono ?_; rintro e v5 ⟨rfl, hb⟩
  have HB5 := Lib.hid (HB4.out.trans (hb.mono HB4.out.size)); clear hb
  go_wp2_with (fail)
  refine (HN1.out v5 (ft HFT (by assumption))).mono ?_; rintro e v6 ⟨rfl, hb⟩
  have HB6 := Lib.hid (HB5.out.trans (hb.mono HB5.out.size)); clear hb
  go_wp2_with (fail)
  refine (HN2.out v6).mono ?_; rintro e v7 ⟨rfl, hb⟩
  have HB7 := Lib.hid (HB6.out.trans (hb.mono HB6.out.size)); clear hb
  go_wp2_with (fail)
  refine (HW.out v7 (ft HFT (by assumption))).mono ?_; rintro e v8 ⟨rfl, hb⟩
  have HB8 := Lib.hid (HB7.out.trans (hb.mono HB7.out.size)); clear hb
  go_wp2_with (fail)
  go_ret
  exact ⟨rfl, HB8.out⟩
end Go.Proofs.YtaachlijpgmjeaaDoor
