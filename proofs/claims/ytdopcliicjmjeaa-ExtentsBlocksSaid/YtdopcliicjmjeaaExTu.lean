/- Any extents with others set, and with blocks dropped. -/
import Derived.Test.YtdopcliicjmjeaaExL
namespace Go.Proofs.Ytdopcliicjmjeaa
open Go.RowKit
abbrev rgV (a b : Int) : Value := .agg #[.int .i64 a, .int .i64 b]
/-- The boxes of the two structs that came in by value. -/
theorem boxes_xr (w : World) (x : Ex) (a b : Int) : ∀ v, v = (w.alloc (.cells #[.int .i64 x.l, .int .i64 x.b, .int .i64 x.a] 32)).alloc (.cells #[.int .i64 a, .int .i64 b] 34) →
    Blk v w.heap.size 32 (exC x) ∧ Blk v (w.heap.size + 1) 34 #[.int .i64 a, .int .i64 b] ∧ Below w.heap.size w v := by
  rintro v rfl
  refine ⟨(Blk.new w _ _).alloc _, ?_, ((Below.refl w.heap.size w).alloc (Nat.le_refl _) _).alloc (by simp) _⟩
  have := Blk.new (w.alloc (.cells #[.int .i64 x.l, .int .i64 x.b, .int .i64 x.a] 32)) 34 #[.int .i64 a, .int .i64 b]
  simpa using this
set_option maxRecDepth 100000 in
set_option maxHeartbeats 4000000 in
theorem turns_any (A : Option Addr) (c : Nat) (l : List Ex) (x : Ex) (a b : Int) (w : World) (hl : Exts w A l) (hx : x.Wf) (ha : -9223372036854775808 ≤ a ∧ a ≤ 9223372036854775807) :
    Calls Try.prog 4 #[.slice A l.length c, exV x, .agg #[.int .i64 a, .int .i64 b]] w fun e w' => e = .returned (.bool true) ∧ Below w.heap.size w w' := by
  obtain ⟨h1, h2, h3⟩ := boxes_xr w x a b _ rfl
  have HX := Lib.hid h1; have HR := Lib.hid h2; have HB := Lib.hid h3; have HL0 := Lib.hid hl
  clear h1 h2 h3 hl
  have HLA := Lib.hid (fun v => large_any A c l.length v)
  have HSL := Lib.hid (setR_length l x)
  have HDL := Lib.hid (dropR_length l a b)
  unfold exV
  go_enter Try.func4, Try.ntmps4
  go_upto_region 1 with (fail)
  change Code.wp _ _ _ _ ((w.alloc (.cells #[.int .i64 x.l, .int .i64 x.b, .int .i64 x.a] 32)).alloc (.cells #[.int .i64 a, .int .i64 b] 34))
  generalize (w.alloc (.cells #[.int .i64 x.l, .int .i64 x.b, .int .i64 x.a] 32)).alloc (.cells #[.int .i64 a, .int .i64 b] 34) = w0 at *
  have HL := Lib.hid ((HL0.out.kept (fun hn a ha => HB.out.block _ (HL0.out.lt hn a ha)) : Exts w0 A l))
  by_cases hlg : (300 < l.length ∧ l.length ≤ 4096) ∨ 5000 < l.length
  · rw [decide_eq_true hlg] at HLA
    clear hlg
    go_wp2_with (fail)
    refine (HLA.out _).mono ?_; rintro e w1 ⟨rfl, rfl⟩
    go_wp2_with (fail)
    refine (wakes_any _).mono ?_; rintro e w2 ⟨rfl, hb2⟩
    have HB2 := Lib.hid (HB.out.trans (hb2.mono HB.out.size)); clear hb2
    go_wp2_with (fail)
    go_ret
    exact ⟨rfl, HB2.out⟩
  · rw [decide_eq_false hlg] at HLA
    have hn : l.length ≤ 100000 := by omega
    clear hlg
    have HSA := Lib.hid (fun A' c' v (h : Exts v A' l) => set_any A' c' l x v h hx (by unfold maxLen; omega))
    have HSB := Lib.hid (fun v (h : Exts v A l) => refSet_any A c l x v h hx)
    have HDA := Lib.hid (fun A' c' v (h : Exts v A' l) => drop_any A' c' l a b v h ha (by unfold maxLen; omega))
    have HDB := Lib.hid (fun v (h : Exts v A l) => refDrop_any A c l a b v h ha)
    obtain ⟨S, hS⟩ : ∃ S, setR l x = S := ⟨_, rfl⟩
    obtain ⟨D, hD⟩ : ∃ D, dropR l a b = D := ⟨_, rfl⟩
    rw [hS] at HSA HSB HSL
    rw [hD] at HDA HDB HDL
    unfold exV at HSA HSB
    clear hS hD hx ha
    go_wp2_with (fail)
    refine (HLA.out _).mono ?_; rintro e w1 ⟨rfl, rfl⟩
    go_wp2_with (fail)
    refine (few_any A c l _ HL.out hn).mono ?_; rintro e w2 ⟨A2, c2, rfl, hx2, hb2⟩
    have HI2 := Lib.hid hx2; have HL2 := Lib.hid (HL.out.below hb2); have HB2 := Lib.hid (HB.out.trans (hb2.mono HB.out.size))
    have HX2 := Lib.hid (HX.out.below hb2 HX.out.lt); have HR2 := Lib.hid (HR.out.below hb2 HR.out.lt)
    clear hx2 hb2
    have a0 := HX2.out.cell 0
    have a1 := HX2.out.cell 1
    have a2 := HX2.out.cell 2
    go_wp2_with (fail)
    refine (HSA.out A2 c2 _ HI2.out).mono ?_; rintro e w3 ⟨A3, c3, rfl, hx3, hb3⟩
    have HS3 := Lib.hid hx3
    have HI3 := Lib.hid (HI2.out.below hb3); have HL3 := Lib.hid (HL2.out.below hb3); have HB3 := Lib.hid (HB2.out.trans (hb3.mono HB2.out.size))
    have HX3 := Lib.hid (HX2.out.below hb3 HX2.out.lt); have HR3 := Lib.hid (HR2.out.below hb3 HR2.out.lt)
    clear hx3 hb3 a0 a1 a2
    have a0 := HX3.out.cell 0
    have a1 := HX3.out.cell 1
    have a2 := HX3.out.cell 2
    go_wp2_with (fail)
    refine (HSB.out _ HL3.out).mono ?_; rintro e w4 ⟨A4, c4, rfl, hx4, hb4⟩
    have HT4 := Lib.hid hx4
    have HS4 := Lib.hid (HS3.out.below hb4)
    have HI4 := Lib.hid (HI3.out.below hb4); have HL4 := Lib.hid (HL3.out.below hb4); have HB4 := Lib.hid (HB3.out.trans (hb4.mono HB3.out.size))
    have HR4 := Lib.hid (HR3.out.below hb4 HR3.out.lt)
    clear hx4 hb4 a0 a1 a2
    have r0 := HR4.out.cell 0
    have r1 := HR4.out.cell 1
    go_wp2_with (fail)
    refine (HDA.out A2 c2 _ HI4.out).mono ?_; rintro e w5 ⟨A5, c5, rfl, hx5, hb5⟩
    have HU5 := Lib.hid hx5
    have HT5 := Lib.hid (HT4.out.below hb5)
    have HS5 := Lib.hid (HS4.out.below hb5)
    have HI5 := Lib.hid (HI4.out.below hb5); have HL5 := Lib.hid (HL4.out.below hb5); have HB5 := Lib.hid (HB4.out.trans (hb5.mono HB4.out.size))
    have HR5 := Lib.hid (HR4.out.below hb5 HR4.out.lt)
    clear hx5 hb5 r0 r1
    have r0 := HR5.out.cell 0
    have r1 := HR5.out.cell 1
    go_wp2_with (fail)
    refine (HDB.out _ HL5.out).mono ?_; rintro e w6 ⟨A6, c6, rfl, hx6, hb6⟩
    have HV6 := Lib.hid hx6
    have HU6 := Lib.hid (HU5.out.below hb6)
    have HT6 := Lib.hid (HT5.out.below hb6)
    have HS6 := Lib.hid (HS5.out.below hb6)
    have HI6 := Lib.hid (HI5.out.below hb6); have HL6 := Lib.hid (HL5.out.below hb6); have HB6 := Lib.hid (HB5.out.trans (hb6.mono HB5.out.size))
    clear hx6 hb6 r0 r1
    have t1 : (S.2 == S.2) = true := by simp
    have t2 : (D.2 == D.2) = true := by simp
    go_wp2_with (fail)
    refine (same_eq A3 A4 c3 c4 S.1 _ HS6.out HT6.out (Nat.le_trans HSL.out (by omega))).mono ?_; rintro e w7 ⟨rfl, hb7⟩
    have HV7 := Lib.hid (HV6.out.below hb7)
    have HU7 := Lib.hid (HU6.out.below hb7)
    have HI7 := Lib.hid (HI6.out.below hb7); have HL7 := Lib.hid (HL6.out.below hb7); have HB7 := Lib.hid (HB6.out.trans (hb7.mono HB6.out.size))
    clear hb7
    go_wp2_with (fail)
    refine (same_eq A5 A6 c5 c6 D.1 _ HU7.out HV7.out (Nat.le_trans HDL.out (by omega))).mono ?_; rintro e w8 ⟨rfl, hb8⟩
    have HI8 := Lib.hid (HI7.out.below hb8); have HL8 := Lib.hid (HL7.out.below hb8); have HB8 := Lib.hid (HB7.out.trans (hb8.mono HB7.out.size))
    clear hb8
    go_wp2_with (fail)
    refine (same_eq A2 A c2 c l _ HI8.out HL8.out hn).mono ?_; rintro e w9 ⟨rfl, hb9⟩
    have HB9 := Lib.hid (HB8.out.trans (hb9.mono HB8.out.size))
    clear hb9
    go_wp2_with (fail)
    refine (wakes_any _).mono ?_; rintro e wa ⟨rfl, hba⟩
    have HBa := Lib.hid (HB9.out.trans (hba.mono HB9.out.size)); clear hba
    go_wp2_with (fail)
    go_ret
    exact ⟨rfl, HBa.out⟩
end Go.Proofs.Ytdopcliicjmjeaa
