/- A reservation made, released; a unit cleared. A reservation released; a unit cleared. -/
import Derived.Test.YtgekadfkokkapaaDoorPk08
namespace Go.Proofs.YtgekadfkokkapaaDoor
open Go.RowKit
def resvCode (t : Tl) (m : Cm) : Int := if typeB m.ty = false then 5 else if regdB t m = false then 2 else if t.ty = 0 then 1 else if (t.ty == m.ty && holdsB t m.ho) = true then 1 else 2
def resvT (t : Tl) (m : Cm) : Tl := if typeB m.ty = false then t else if regdB t m = false then t else if t.ty = 0 then holdT t m else t
theorem Chg.hbox {w : World} {n0 p : Nat} {A : Option Addr} {c : Nat} {t : Tl} {m : Cm} {B : Option Addr} {e : Nat} {es : List Ev} (h : Chg w n0 p A c t m B e es) : ∀ v, v = w.alloc (.cells (hoC t) 24) → Blk v w.heap.size 24 (hoC t) ∧ Chg v n0 p A c t m B e es ∧ Below w.heap.size w v := by
  rintro v rfl
  have hb := (Below.refl w.heap.size w).alloc (Nat.le_refl _) (.cells (hoC t) 24)
  exact ⟨Blk.new w _ _, h.below hb, hb⟩
set_option maxRecDepth 100000 in
set_option maxHeartbeats 4000000 in
theorem resv_type (w : World) (n0 p : Nat) (A : Option Addr) (c : Nat) (t : Tl) (m : Cm) (B : Option Addr) (e : Nat) (es : List Ev) (h : Chg w n0 p A c t m B e es) (ht : typeB m.ty = false) :
    Calls Tryd.prog 56 #[.pointer (some ⟨p, 0, none⟩)] w fun e w' => e = .returned (.int .i64 5) ∧ WrO n0 p t m es w w' := by
  have c1 := h.at_.r.ty
  have c2 := h.at_.r.hh
  obtain ⟨h1, h2, h3⟩ := h.hbox _ rfl
  have HX := Lib.hid h1; have H := Lib.hid h2; have HB := Lib.hid (h3.mono h.lt)
  have HT := Lib.hid (fun v => type_any m.ty v)
  rw [ht] at HT
  clear h1 h2 h3 h ht
  go_enter Tryd.func56, Tryd.ntmps56
  go_upto_region 2 with (fail)
  change Code.wp _ _ _ _ (w.alloc (.cells (hoC t) 24))
  generalize w.alloc (.cells (hoC t) 24) = w0 at *
  clear c1 c2
  have c16 := H.out.at_.r.mt
  have d0 : w0.cell? ⟨w.heap.size, 0, none⟩ = some (.int .i64 t.ty) := HX.out.cell 0
  go_wp2_with (fail)
  refine (HT.out _).mono ?_; rintro e w1 ⟨rfl, rfl⟩
  go_wp2_with (fail)
  go_ret
  exact ⟨rfl, A, c, B, e, H.out, HB.out⟩
set_option maxRecDepth 100000 in
set_option maxHeartbeats 4000000 in
theorem resv_unreg (w : World) (n0 p : Nat) (A : Option Addr) (c : Nat) (t : Tl) (m : Cm) (B : Option Addr) (e : Nat) (es : List Ev) (h : Chg w n0 p A c t m B e es) (hm : t.rs.length ≤ 1000) (ht : typeB m.ty = true) (hg : regdB t m = false) :
    Calls Tryd.prog 56 #[.pointer (some ⟨p, 0, none⟩)] w fun e w' => e = .returned (.int .i64 2) ∧ WrO n0 p t m es w w' := by
  have c1 := h.at_.r.ty
  have c2 := h.at_.r.hh
  obtain ⟨h1, h2, h3⟩ := h.hbox _ rfl
  have HX := Lib.hid h1; have H := Lib.hid h2; have HB := Lib.hid (h3.mono h.lt)
  have HT := Lib.hid (fun v => type_any m.ty v)
  rw [ht] at HT
  clear h1 h2 h3 h ht
  have HRG := Lib.hid (fun v A c B e es (hv : ChAt v p A c t m B e es) => isRegd_any v p A c t m B e es hv (by unfold maxLen; omega))
  rw [hg] at HRG
  clear hg
  go_enter Tryd.func56, Tryd.ntmps56
  go_upto_region 2 with (fail)
  change Code.wp _ _ _ _ (w.alloc (.cells (hoC t) 24))
  generalize w.alloc (.cells (hoC t) 24) = w0 at *
  clear c1 c2
  have c16 := H.out.at_.r.mt
  have d0 : w0.cell? ⟨w.heap.size, 0, none⟩ = some (.int .i64 t.ty) := HX.out.cell 0
  go_wp2_with (fail)
  refine (HT.out _).mono ?_; rintro e w1 ⟨rfl, rfl⟩
  go_wp2_with (fail)
  refine (HRG.out _ _ _ _ _ _ H.out.at_).mono ?_; rintro e w2 ⟨rfl, hb2⟩
  have H2 := Lib.hid (H.out.below hb2); have HB2 := Lib.hid (HB.out.trans (hb2.mono H.out.lt))
  have HX2 := Lib.hid (HX.out.below hb2 HX.out.lt)
  clear hb2 c16 d0
  have d0 : w2.cell? ⟨w.heap.size, 0, none⟩ = some (.int .i64 t.ty) := HX2.out.cell 0
  go_wp2_with (fail)
  go_ret
  exact ⟨rfl, A, c, B, e, H2.out, HB2.out⟩
set_option maxRecDepth 100000 in
set_option maxHeartbeats 4000000 in
theorem resv_free (w : World) (n0 p : Nat) (A : Option Addr) (c : Nat) (t : Tl) (m : Cm) (B : Option Addr) (e : Nat) (es : List Ev) (h : Chg w n0 p A c t m B e es) (hm : t.rs.length ≤ 1000) (hs : m.ho.size ≤ 1000) (ht : typeB m.ty = true) (hg : regdB t m = true) (hz : (t.ty == 0) = true) :
    Calls Tryd.prog 56 #[.pointer (some ⟨p, 0, none⟩)] w fun e w' => e = .returned (.int .i64 1) ∧ WrO n0 p (holdT t m) m es w w' := by
  have c1 := h.at_.r.ty
  have c2 := h.at_.r.hh
  obtain ⟨h1, h2, h3⟩ := h.hbox _ rfl
  have HX := Lib.hid h1; have H := Lib.hid h2; have HB := Lib.hid (h3.mono h.lt)
  have HT := Lib.hid (fun v => type_any m.ty v)
  rw [ht] at HT
  clear h1 h2 h3 h ht
  have HRG := Lib.hid (fun v A c B e es (hv : ChAt v p A c t m B e es) => isRegd_any v p A c t m B e es hv (by unfold maxLen; omega))
  rw [hg] at HRG
  clear hg
  have HH := Lib.hid (fun v A c B e (hv : Chg v n0 p A c t m B e es) => hold_any v n0 p A c t m B e es hv hs)
  go_enter Tryd.func56, Tryd.ntmps56
  go_upto_region 2 with (fail)
  change Code.wp _ _ _ _ (w.alloc (.cells (hoC t) 24))
  generalize w.alloc (.cells (hoC t) 24) = w0 at *
  clear c1 c2
  have c16 := H.out.at_.r.mt
  have d0 : w0.cell? ⟨w.heap.size, 0, none⟩ = some (.int .i64 t.ty) := HX.out.cell 0
  go_wp2_with (fail)
  refine (HT.out _).mono ?_; rintro e w1 ⟨rfl, rfl⟩
  go_wp2_with (fail)
  refine (HRG.out _ _ _ _ _ _ H.out.at_).mono ?_; rintro e w2 ⟨rfl, hb2⟩
  have H2 := Lib.hid (H.out.below hb2); have HB2 := Lib.hid (HB.out.trans (hb2.mono H.out.lt))
  have HX2 := Lib.hid (HX.out.below hb2 HX.out.lt)
  clear hb2 c16 d0
  have d0 : w2.cell? ⟨w.heap.size, 0, none⟩ = some (.int .i64 t.ty) := HX2.out.cell 0
  go_wp2_with (fail)
  refine (HH.out _ _ _ _ _ H2.out).mono ?_; rintro e w3 ⟨rfl, A3, c3, B3, e3, h3, hb3⟩
  have H3 := Lib.hid h3; have HB3 := Lib.hid (HB2.out.trans hb3)
  clear h3 hb3 d0
  go_wp2_with (fail)
  go_ret
  exact ⟨rfl, A3, c3, B3, e3, H3.out, HB3.out⟩
set_option maxRecDepth 100000 in
set_option maxHeartbeats 4000000 in
theorem resv_other (w : World) (n0 p : Nat) (A : Option Addr) (c : Nat) (t : Tl) (m : Cm) (B : Option Addr) (e : Nat) (es : List Ev) (h : Chg w n0 p A c t m B e es) (hm : t.rs.length ≤ 1000) (ht : typeB m.ty = true) (hg : regdB t m = true) (hz : (t.ty == 0) = false) (hq : (t.ty == m.ty) = false) :
    Calls Tryd.prog 56 #[.pointer (some ⟨p, 0, none⟩)] w fun e w' => e = .returned (.int .i64 2) ∧ WrO n0 p t m es w w' := by
  have c1 := h.at_.r.ty
  have c2 := h.at_.r.hh
  obtain ⟨h1, h2, h3⟩ := h.hbox _ rfl
  have HX := Lib.hid h1; have H := Lib.hid h2; have HB := Lib.hid (h3.mono h.lt)
  have HT := Lib.hid (fun v => type_any m.ty v)
  rw [ht] at HT
  clear h1 h2 h3 h ht
  have HRG := Lib.hid (fun v A c B e es (hv : ChAt v p A c t m B e es) => isRegd_any v p A c t m B e es hv (by unfold maxLen; omega))
  rw [hg] at HRG
  clear hg
  have HEQ := Lib.hid hq
  clear hq
  go_enter Tryd.func56, Tryd.ntmps56
  go_upto_region 2 with (fail)
  change Code.wp _ _ _ _ (w.alloc (.cells (hoC t) 24))
  generalize w.alloc (.cells (hoC t) 24) = w0 at *
  clear c1 c2
  have c16 := H.out.at_.r.mt
  have d0 : w0.cell? ⟨w.heap.size, 0, none⟩ = some (.int .i64 t.ty) := HX.out.cell 0
  go_wp2_with (fail)
  refine (HT.out _).mono ?_; rintro e w1 ⟨rfl, rfl⟩
  go_wp2_with (fail)
  refine (HRG.out _ _ _ _ _ _ H.out.at_).mono ?_; rintro e w2 ⟨rfl, hb2⟩
  have H2 := Lib.hid (H.out.below hb2); have HB2 := Lib.hid (HB.out.trans (hb2.mono H.out.lt))
  have HX2 := Lib.hid (HX.out.below hb2 HX.out.lt)
  clear hb2 c16 d0
  have d0 : w2.cell? ⟨w.heap.size, 0, none⟩ = some (.int .i64 t.ty) := HX2.out.cell 0
  go_upto_region 9 with (fail)
  obtain ⟨C, hC0, hCl, hCi, hCm⟩ := class_of w2 (fun v => ChR v p A c t m ∧ v.cell? ⟨w.heap.size, 0, none⟩ = some (.int .i64 t.ty)) (fun v hb => ⟨(H2.out.at_.below hb).r, (HX2.out.below hb HX2.out.lt).cell 0⟩)
  have HC0 := Lib.hid hC0; have HL := Lib.hid hCl; have HCi := Lib.hid hCi; have HCm := Lib.hid hCm
  clear hC0 hCl hCi hCm
  refine wp_region_class C (by kernel_rfl) (by kernel_rfl) HC0.out ?_
  go_big_quiet_want
  go_big_quiet_op
  first | go_big_quiet_on | (refine ⟨_, fun _ _ => rfl, ?_⟩; go_big_quiet_on)
  go_big_quiet_want
  refine quiet_run (v := .int .i64 t.ty) (fun v hv => by obtain ⟨⟨rs, ty, hh, ge, ap, ho, ke, nk, ot, mt, ig, ma⟩, d0⟩ := HL.out v hv; go_simp) ?_
  simp only [Act.put, List.setIfInBounds_toArray, List.set_cons_zero, List.set_cons_succ]
  go_big_quiet_on
  go_big_quiet_want
  go_big_quiet_op
  first | go_big_quiet_on | (refine ⟨_, fun _ _ => rfl, ?_⟩; go_big_quiet_on)
  go_big_quiet_want
  go_big_quiet_op
  first | go_big_quiet_on | (refine ⟨_, fun _ _ => rfl, ?_⟩; go_big_quiet_on)
  go_big_quiet_want
  go_big_quiet_op
  first | go_big_quiet_on | (refine ⟨_, fun _ _ => rfl, ?_⟩; go_big_quiet_on)
  go_big_quiet_want
  go_big_quiet_op
  first | go_big_quiet_on | (refine ⟨_, fun _ _ => rfl, ?_⟩; go_big_quiet_on)
  go_big_quiet_want
  refine quiet_run (v := .int .i64 m.ty) (fun v hv => by obtain ⟨⟨rs, ty, hh, ge, ap, ho, ke, nk, ot, mt, ig, ma⟩, d0⟩ := HL.out v hv; go_simp) ?_
  simp only [Act.put, List.setIfInBounds_toArray, List.set_cons_zero, List.set_cons_succ]
  go_big_quiet_on
  go_big_quiet_want
  refine quiet_run (v := .bool false) (fun v hv => by have := HEQ.out; go_simp) ?_
  simp only [Act.put, List.setIfInBounds_toArray, List.set_cons_zero, List.set_cons_succ]
  go_big_quiet_on
  go_big_quiet_want
  go_big_quiet_op
  first | go_big_quiet_on | (refine ⟨_, fun _ _ => rfl, ?_⟩; go_big_quiet_on)
  go_big_quiet_skip
  go_big_quiet_skip
  go_big_quiet_skip
  go_big_quiet_skip
  go_big_quiet_skip
  go_big_quiet_skip
  go_big_quiet_skip
  go_big_quiet_skip
  go_big_quiet_skip
  go_big_quiet_skip
  go_big_quiet_want
  go_big_quiet_op
  first | go_big_quiet_on | (refine ⟨_, fun _ _ => rfl, ?_⟩; go_big_quiet_on)
  go_big_quiet_want
  go_big_quiet_op
  first | go_big_quiet_on | (refine ⟨_, fun _ _ => rfl, ?_⟩; go_big_quiet_on)

  intro w9 hC9
  have H9 := Lib.hid (H2.out.below (HCi.out w9 hC9)); have HB9 := Lib.hid (HB2.out.trans ((HCi.out w9 hC9).mono H2.out.lt))
  clear hC9
  go_wp2_with (fail)
  go_ret
  exact ⟨rfl, A, c, B, e, H9.out, HB9.out⟩
set_option maxRecDepth 100000 in
set_option maxHeartbeats 4000000 in
theorem resv_same (w : World) (n0 p : Nat) (A : Option Addr) (c : Nat) (t : Tl) (m : Cm) (B : Option Addr) (e : Nat) (es : List Ev) (h : Chg w n0 p A c t m B e es) (hm : t.rs.length ≤ 1000) (hrt : ∀ v, Below n0 w v → RTab v) (ht : typeB m.ty = true) (hg : regdB t m = true) (hz : (t.ty == 0) = false) (hq : (t.ty == m.ty) = true) (hh : holdsB t m.ho = true) :
    Calls Tryd.prog 56 #[.pointer (some ⟨p, 0, none⟩)] w fun e w' => e = .returned (.int .i64 1) ∧ WrO n0 p t m es w w' := by
  have c1 := h.at_.r.ty
  have c2 := h.at_.r.hh
  obtain ⟨h1, h2, h3⟩ := h.hbox _ rfl
  have HX := Lib.hid h1; have H := Lib.hid h2; have HB := Lib.hid (h3.mono h.lt)
  have HT := Lib.hid (fun v => type_any m.ty v)
  rw [ht] at HT
  clear h1 h2 h3 h ht
  have HRG := Lib.hid (fun v A c B e es (hv : ChAt v p A c t m B e es) => isRegd_any v p A c t m B e es hv (by unfold maxLen; omega))
  rw [hg] at HRG
  clear hg
  have HRT := Lib.hid (fun v (hb : Below n0 w v) => hrt v hb)
  clear hrt
  have HEQ := Lib.hid hq
  have HHB := Lib.hid hh
  clear hq hh
  go_enter Tryd.func56, Tryd.ntmps56
  go_upto_region 2 with (fail)
  change Code.wp _ _ _ _ (w.alloc (.cells (hoC t) 24))
  generalize w.alloc (.cells (hoC t) 24) = w0 at *
  clear c1 c2
  have c16 := H.out.at_.r.mt
  have d0 : w0.cell? ⟨w.heap.size, 0, none⟩ = some (.int .i64 t.ty) := HX.out.cell 0
  go_wp2_with (fail)
  refine (HT.out _).mono ?_; rintro e w1 ⟨rfl, rfl⟩
  go_wp2_with (fail)
  refine (HRG.out _ _ _ _ _ _ H.out.at_).mono ?_; rintro e w2 ⟨rfl, hb2⟩
  have H2 := Lib.hid (H.out.below hb2); have HB2 := Lib.hid (HB.out.trans (hb2.mono H.out.lt))
  have HX2 := Lib.hid (HX.out.below hb2 HX.out.lt)
  clear hb2 c16 d0
  have d0 : w2.cell? ⟨w.heap.size, 0, none⟩ = some (.int .i64 t.ty) := HX2.out.cell 0
  go_upto_region 9 with (fail)
  obtain ⟨C, hC0, hCl, hCi, hCm⟩ := class_of w2 (fun v => ChR v p A c t m ∧ v.cell? ⟨w.heap.size, 0, none⟩ = some (.int .i64 t.ty)) (fun v hb => ⟨(H2.out.at_.below hb).r, (HX2.out.below hb HX2.out.lt).cell 0⟩)
  have HC0 := Lib.hid hC0; have HL := Lib.hid hCl; have HCi := Lib.hid hCi; have HCm := Lib.hid hCm
  clear hC0 hCl hCi hCm
  have HO := Lib.hid (fun v (hv : C v) => holds_any A c t m.ho v (H2.out.at_.below (HCi.out v hv)).rgs (by unfold maxLen; omega) (HRT.out v (HB2.out.trans ((HCi.out v hv).mono H2.out.lt))))
  rw [HHB.out] at HO
  refine wp_region_class C (by kernel_rfl) (by kernel_rfl) HC0.out ?_
  go_big_quiet_want
  go_big_quiet_op
  first | go_big_quiet_on | (refine ⟨_, fun _ _ => rfl, ?_⟩; go_big_quiet_on)
  go_big_quiet_want
  refine quiet_run (v := .int .i64 t.ty) (fun v hv => by obtain ⟨⟨rs, ty, hh, ge, ap, ho, ke, nk, ot, mt, ig, ma⟩, d0⟩ := HL.out v hv; go_simp) ?_
  simp only [Act.put, List.setIfInBounds_toArray, List.set_cons_zero, List.set_cons_succ]
  go_big_quiet_on
  go_big_quiet_want
  go_big_quiet_op
  first | go_big_quiet_on | (refine ⟨_, fun _ _ => rfl, ?_⟩; go_big_quiet_on)
  go_big_quiet_want
  go_big_quiet_op
  first | go_big_quiet_on | (refine ⟨_, fun _ _ => rfl, ?_⟩; go_big_quiet_on)
  go_big_quiet_want
  go_big_quiet_op
  first | go_big_quiet_on | (refine ⟨_, fun _ _ => rfl, ?_⟩; go_big_quiet_on)
  go_big_quiet_want
  go_big_quiet_op
  first | go_big_quiet_on | (refine ⟨_, fun _ _ => rfl, ?_⟩; go_big_quiet_on)
  go_big_quiet_want
  refine quiet_run (v := .int .i64 m.ty) (fun v hv => by obtain ⟨⟨rs, ty, hh, ge, ap, ho, ke, nk, ot, mt, ig, ma⟩, d0⟩ := HL.out v hv; go_simp) ?_
  simp only [Act.put, List.setIfInBounds_toArray, List.set_cons_zero, List.set_cons_succ]
  go_big_quiet_on
  go_big_quiet_want
  refine quiet_run (v := .bool true) (fun v hv => by have := HEQ.out; go_simp) ?_
  simp only [Act.put, List.setIfInBounds_toArray, List.set_cons_zero, List.set_cons_succ]
  go_big_quiet_on
  go_big_quiet_want
  go_big_quiet_op
  first | go_big_quiet_on | (refine ⟨_, fun _ _ => rfl, ?_⟩; go_big_quiet_on)
  go_big_quiet_want
  go_big_quiet_op
  first | go_big_quiet_on | (refine ⟨_, fun _ _ => rfl, ?_⟩; go_big_quiet_on)
  go_big_quiet_want
  go_big_quiet_op
  first | go_big_quiet_on | (refine ⟨_, fun _ _ => rfl, ?_⟩; go_big_quiet_on)
  go_big_quiet_want
  go_big_quiet_op
  first | go_big_quiet_on | (refine ⟨_, fun _ _ => rfl, ?_⟩; go_big_quiet_on)
  go_big_quiet_want
  refine quiet_run (v := tlV A c t) (fun v hv => by obtain ⟨⟨rs, ty, hh, ge, ap, ho, ke, nk, ot, mt, ig, ma⟩, d0⟩ := HL.out v hv; go_simp) ?_
  simp only [Act.put, List.setIfInBounds_toArray, List.set_cons_zero, List.set_cons_succ]
  go_big_quiet_on
  go_big_quiet_want
  go_big_quiet_op
  first | go_big_quiet_on | (refine ⟨_, fun _ _ => rfl, ?_⟩; go_big_quiet_on)
  go_big_quiet_want
  go_big_quiet_op
  first | go_big_quiet_on | (refine ⟨_, fun _ _ => rfl, ?_⟩; go_big_quiet_on)
  go_big_quiet_want
  go_big_quiet_op
  first | go_big_quiet_on | (refine ⟨_, fun _ _ => rfl, ?_⟩; go_big_quiet_on)
  go_big_quiet_want
  go_big_quiet_op
  first | go_big_quiet_on | (refine ⟨_, fun _ _ => rfl, ?_⟩; go_big_quiet_on)
  go_big_quiet_want
  refine quiet_run (v := .string m.ho) (fun v hv => by obtain ⟨⟨rs, ty, hh, ge, ap, ho, ke, nk, ot, mt, ig, ma⟩, d0⟩ := HL.out v hv; go_simp) ?_
  simp only [Act.put, List.setIfInBounds_toArray, List.set_cons_zero, List.set_cons_succ]
  go_big_quiet_on
  go_big_quiet_want
  refine quiet_call (f := 28) (args := #[tlV A c t, .string m.ho]) (fun v _ => by go_simp) (fun v hv => (HO.out v hv).mono (fun e w' h => ⟨h.1, HCm.out v w' hv h.2⟩)) ?_
  simp only [Act.put, List.setIfInBounds_toArray, List.set_cons_zero, List.set_cons_succ]
  go_big_quiet_on
  go_big_quiet_want
  go_big_quiet_op
  first | go_big_quiet_on | (refine ⟨_, fun _ _ => rfl, ?_⟩; go_big_quiet_on)
  go_big_quiet_want
  go_big_quiet_op
  first | go_big_quiet_on | (refine ⟨_, fun _ _ => rfl, ?_⟩; go_big_quiet_on)

  intro w9 hC9
  have H9 := Lib.hid (H2.out.below (HCi.out w9 hC9)); have HB9 := Lib.hid (HB2.out.trans ((HCi.out w9 hC9).mono H2.out.lt))
  clear hC9
  go_wp2_with (fail)
  go_ret
  exact ⟨rfl, A, c, B, e, H9.out, HB9.out⟩
set_option maxRecDepth 100000 in
set_option maxHeartbeats 4000000 in
theorem resv_held (w : World) (n0 p : Nat) (A : Option Addr) (c : Nat) (t : Tl) (m : Cm) (B : Option Addr) (e : Nat) (es : List Ev) (h : Chg w n0 p A c t m B e es) (hm : t.rs.length ≤ 1000) (hrt : ∀ v, Below n0 w v → RTab v) (ht : typeB m.ty = true) (hg : regdB t m = true) (hz : (t.ty == 0) = false) (hq : (t.ty == m.ty) = true) (hh : holdsB t m.ho = false) :
    Calls Tryd.prog 56 #[.pointer (some ⟨p, 0, none⟩)] w fun e w' => e = .returned (.int .i64 2) ∧ WrO n0 p t m es w w' := by
  have c1 := h.at_.r.ty
  have c2 := h.at_.r.hh
  obtain ⟨h1, h2, h3⟩ := h.hbox _ rfl
  have HX := Lib.hid h1; have H := Lib.hid h2; have HB := Lib.hid (h3.mono h.lt)
  have HT := Lib.hid (fun v => type_any m.ty v)
  rw [ht] at HT
  clear h1 h2 h3 h ht
  have HRG := Lib.hid (fun v A c B e es (hv : ChAt v p A c t m B e es) => isRegd_any v p A c t m B e es hv (by unfold maxLen; omega))
  rw [hg] at HRG
  clear hg
  have HRT := Lib.hid (fun v (hb : Below n0 w v) => hrt v hb)
  clear hrt
  have HEQ := Lib.hid hq
  have HHB := Lib.hid hh
  clear hq hh
  go_enter Tryd.func56, Tryd.ntmps56
  go_upto_region 2 with (fail)
  change Code.wp _ _ _ _ (w.alloc (.cells (hoC t) 24))
  generalize w.alloc (.cells (hoC t) 24) = w0 at *
  clear c1 c2
  have c16 := H.out.at_.r.mt
  have d0 : w0.cell? ⟨w.heap.size, 0, none⟩ = some (.int .i64 t.ty) := HX.out.cell 0
  go_wp2_with (fail)
  refine (HT.out _).mono ?_; rintro e w1 ⟨rfl, rfl⟩
  go_wp2_with (fail)
  refine (HRG.out _ _ _ _ _ _ H.out.at_).mono ?_; rintro e w2 ⟨rfl, hb2⟩
  have H2 := Lib.hid (H.out.below hb2); have HB2 := Lib.hid (HB.out.trans (hb2.mono H.out.lt))
  have HX2 := Lib.hid (HX.out.below hb2 HX.out.lt)
  clear hb2 c16 d0
  have d0 : w2.cell? ⟨w.heap.size, 0, none⟩ = some (.int .i64 t.ty) := HX2.out.cell 0
  go_upto_region 9 with (fail)
  obtain ⟨C, hC0, hCl, hCi, hCm⟩ := class_of w2 (fun v => ChR v p A c t m ∧ v.cell? ⟨w.heap.size, 0, none⟩ = some (.int .i64 t.ty)) (fun v hb => ⟨(H2.out.at_.below hb).r, (HX2.out.below hb HX2.out.lt).cell 0⟩)
  have HC0 := Lib.hid hC0; have HL := Lib.hid hCl; have HCi := Lib.hid hCi; have HCm := Lib.hid hCm
  clear hC0 hCl hCi hCm
  have HO := Lib.hid (fun v (hv : C v) => holds_any A c t m.ho v (H2.out.at_.below (HCi.out v hv)).rgs (by unfold maxLen; omega) (HRT.out v (HB2.out.trans ((HCi.out v hv).mono H2.out.lt))))
  rw [HHB.out] at HO
  refine wp_region_class C (by kernel_rfl) (by kernel_rfl) HC0.out ?_
  go_big_quiet_want
  go_big_quiet_op
  first | go_big_quiet_on | (refine ⟨_, fun _ _ => rfl, ?_⟩; go_big_quiet_on)
  go_big_quiet_want
  refine quiet_run (v := .int .i64 t.ty) (fun v hv => by obtain ⟨⟨rs, ty, hh, ge, ap, ho, ke, nk, ot, mt, ig, ma⟩, d0⟩ := HL.out v hv; go_simp) ?_
  simp only [Act.put, List.setIfInBounds_toArray, List.set_cons_zero, List.set_cons_succ]
  go_big_quiet_on
  go_big_quiet_want
  go_big_quiet_op
  first | go_big_quiet_on | (refine ⟨_, fun _ _ => rfl, ?_⟩; go_big_quiet_on)
  go_big_quiet_want
  go_big_quiet_op
  first | go_big_quiet_on | (refine ⟨_, fun _ _ => rfl, ?_⟩; go_big_quiet_on)
  go_big_quiet_want
  go_big_quiet_op
  first | go_big_quiet_on | (refine ⟨_, fun _ _ => rfl, ?_⟩; go_big_quiet_on)
  go_big_quiet_want
  go_big_quiet_op
  first | go_big_quiet_on | (refine ⟨_, fun _ _ => rfl, ?_⟩; go_big_quiet_on)
  go_big_quiet_want
  refine quiet_run (v := .int .i64 m.ty) (fun v hv => by obtain ⟨⟨rs, ty, hh, ge, ap, ho, ke, nk, ot, mt, ig, ma⟩, d0⟩ := HL.out v hv; go_simp) ?_
  simp only [Act.put, List.setIfInBounds_toArray, List.set_cons_zero, List.set_cons_succ]
  go_big_quiet_on
  go_big_quiet_want
  refine quiet_run (v := .bool true) (fun v hv => by have := HEQ.out; go_simp) ?_
  simp only [Act.put, List.setIfInBounds_toArray, List.set_cons_zero, List.set_cons_succ]
  go_big_quiet_on
  go_big_quiet_want
  go_big_quiet_op
  first | go_big_quiet_on | (refine ⟨_, fun _ _ => rfl, ?_⟩; go_big_quiet_on)
  go_big_quiet_want
  go_big_quiet_op
  first | go_big_quiet_on | (refine ⟨_, fun _ _ => rfl, ?_⟩; go_big_quiet_on)
  go_big_quiet_want
  go_big_quiet_op
  first | go_big_quiet_on | (refine ⟨_, fun _ _ => rfl, ?_⟩; go_big_quiet_on)
  go_big_quiet_want
  go_big_quiet_op
  first | go_big_quiet_on | (refine ⟨_, fun _ _ => rfl, ?_⟩; go_big_quiet_on)
  go_big_quiet_want
  refine quiet_run (v := tlV A c t) (fun v hv => by obtain ⟨⟨rs, ty, hh, ge, ap, ho, ke, nk, ot, mt, ig, ma⟩, d0⟩ := HL.out v hv; go_simp) ?_
  simp only [Act.put, List.setIfInBounds_toArray, List.set_cons_zero, List.set_cons_succ]
  go_big_quiet_on
  go_big_quiet_want
  go_big_quiet_op
  first | go_big_quiet_on | (refine ⟨_, fun _ _ => rfl, ?_⟩; go_big_quiet_on)
  go_big_quiet_want
  go_big_quiet_op
  first | go_big_quiet_on | (refine ⟨_, fun _ _ => rfl, ?_⟩; go_big_quiet_on)
  go_big_quiet_want
  go_big_quiet_op
  first | go_big_quiet_on | (refine ⟨_, fun _ _ => rfl, ?_⟩; go_big_quiet_on)
  go_big_quiet_want
  go_big_quiet_op
  first | go_big_quiet_on | (refine ⟨_, fun _ _ => rfl, ?_⟩; go_big_quiet_on)
  go_big_quiet_want
  refine quiet_run (v := .string m.ho) (fun v hv => by obtain ⟨⟨rs, ty, hh, ge, ap, ho, ke, nk, ot, mt, ig, ma⟩, d0⟩ := HL.out v hv; go_simp) ?_
  simp only [Act.put, List.setIfInBounds_toArray, List.set_cons_zero, List.set_cons_succ]
  go_big_quiet_on
  go_big_quiet_want
  refine quiet_call (f := 28) (args := #[tlV A c t, .string m.ho]) (fun v _ => by go_simp) (fun v hv => (HO.out v hv).mono (fun e w' h => ⟨h.1, HCm.out v w' hv h.2⟩)) ?_
  simp only [Act.put, List.setIfInBounds_toArray, List.set_cons_zero, List.set_cons_succ]
  go_big_quiet_on
  go_big_quiet_want
  go_big_quiet_op
  first | go_big_quiet_on | (refine ⟨_, fun _ _ => rfl, ?_⟩; go_big_quiet_on)
  go_big_quiet_want
  go_big_quiet_op
  first | go_big_quiet_on | (refine ⟨_, fun _ _ => rfl, ?_⟩; go_big_quiet_on)

  intro w9 hC9
  have H9 := Lib.hid (H2.out.below (HCi.out w9 hC9)); have HB9 := Lib.hid (HB2.out.trans ((HCi.out w9 hC9).mono H2.out.lt))
  clear hC9
  go_wp2_with (fail)
  go_ret
  exact ⟨rfl, A, c, B, e, H9.out, HB9.out⟩
theorem resv_any (w : World) (n0 p : Nat) (A : Option Addr) (c : Nat) (t : Tl) (m : Cm) (B : Option Addr) (e : Nat) (es : List Ev) (h : Chg w n0 p A c t m B e es) (hm : t.rs.length ≤ 1000) (hs : m.ho.size ≤ 1000) (hrt : ∀ v, Below n0 w v → RTab v) :
    Calls Tryd.prog 56 #[.pointer (some ⟨p, 0, none⟩)] w fun e w' => e = .returned (.int .i64 (resvCode t m)) ∧ WrO n0 p (resvT t m) m es w w' := by
  cases ht : typeB m.ty with
  | false =>
    rw [show resvCode t m = 5 by unfold resvCode; rw [if_pos ht], show resvT t m = t by unfold resvT; rw [if_pos ht]]
    exact resv_type w n0 p A c t m B e es h ht
  | true =>
    have nt : ¬ typeB m.ty = false := by rw [ht]; decide
    cases hg : regdB t m with
    | false =>
      rw [show resvCode t m = 2 by unfold resvCode; rw [if_neg nt, if_pos hg], show resvT t m = t by unfold resvT; rw [if_neg nt, if_pos hg]]
      exact resv_unreg w n0 p A c t m B e es h hm ht hg
    | true =>
      have ng : ¬ regdB t m = false := by rw [hg]; decide
      cases hz : (t.ty == 0) with
      | true =>
        rw [show resvCode t m = 1 by unfold resvCode; rw [if_neg nt, if_neg ng, if_pos (eqB hz)], show resvT t m = holdT t m by unfold resvT; rw [if_neg nt, if_neg ng, if_pos (eqB hz)]]
        exact resv_free w n0 p A c t m B e es h hm hs ht hg hz
      | false =>
        rw [show resvT t m = t by unfold resvT; rw [if_neg nt, if_neg ng, if_neg (neB hz)]]
        have e0 : resvCode t m = if (t.ty == m.ty && holdsB t m.ho) = true then 1 else 2 := by unfold resvCode; rw [if_neg nt, if_neg ng, if_neg (neB hz)]
        rw [e0]
        cases hq : (t.ty == m.ty) with
        | false => exact resv_other w n0 p A c t m B e es h hm ht hg hz hq
        | true =>
          cases hh : holdsB t m.ho with
          | true => exact resv_same w n0 p A c t m B e es h hm hrt ht hg hz hq hh
          | false => exact resv_held w n0 p A c t m B e es h hm hrt ht hg hz hq hh
open Go.RowKit
def relCode (t : Tl) (m : Cm) : Int := if regdB t m = false then 2 else if holdsB t m.ho = false then 1 else if (m.ty != t.ty) = true then 5 else 1
def relB (t : Tl) (m : Cm) : Bool := regdB t m && (holdsB t m.ho && m.ty == t.ty)
def relT (t : Tl) (m : Cm) : Tl := if relB t m = true then endT t else t
def relE (t : Tl) (m : Cm) (es : List Ev) : List Ev := if relB t m = true then endE t m es else es
set_option maxRecDepth 100000 in
set_option maxHeartbeats 4000000 in
theorem rel_unreg (w : World) (n0 p : Nat) (A : Option Addr) (c : Nat) (t : Tl) (m : Cm) (B : Option Addr) (e : Nat) (es : List Ev) (h : Chg w n0 p A c t m B e es) (hm : t.rs.length ≤ 1000) (hg : regdB t m = false) :
    Calls Tryd.prog 57 #[.pointer (some ⟨p, 0, none⟩)] w fun e w' => e = .returned (.int .i64 2) ∧ WrO n0 p t m es w w' := by
  have H := Lib.hid h
  have HRG := Lib.hid (fun v A c B e es (hv : ChAt v p A c t m B e es) => isRegd_any v p A c t m B e es hv (by unfold maxLen; omega))
  rw [hg] at HRG
  clear hg
  clear h
  go_enter Tryd.func57, Tryd.ntmps57
  go_wp2_with (fail)
  refine (HRG.out _ _ _ _ _ _ H.out.at_).mono ?_; rintro e w1 ⟨rfl, hb1⟩
  have H1 := Lib.hid (H.out.below hb1); have HB1 := Lib.hid (hb1.mono H.out.lt)
  clear hb1
  go_wp2_with (fail)
  go_ret
  exact ⟨rfl, A, c, B, e, H1.out, HB1.out⟩
set_option maxRecDepth 100000 in
set_option maxHeartbeats 4000000 in
theorem rel_free (w : World) (n0 p : Nat) (A : Option Addr) (c : Nat) (t : Tl) (m : Cm) (B : Option Addr) (e : Nat) (es : List Ev) (h : Chg w n0 p A c t m B e es) (hm : t.rs.length ≤ 1000) (hrt : ∀ v, Below n0 w v → RTab v) (hg : regdB t m = true) (hh : holdsB t m.ho = false) :
    Calls Tryd.prog 57 #[.pointer (some ⟨p, 0, none⟩)] w fun e w' => e = .returned (.int .i64 1) ∧ WrO n0 p t m es w w' := by
  have H := Lib.hid h
  have HRG := Lib.hid (fun v A c B e es (hv : ChAt v p A c t m B e es) => isRegd_any v p A c t m B e es hv (by unfold maxLen; omega))
  rw [hg] at HRG
  clear hg
  have HRT := Lib.hid (fun v (hb : Below n0 w v) => hrt v hb)
  have HHB := Lib.hid hh
  clear hrt hh
  clear h
  go_enter Tryd.func57, Tryd.ntmps57
  go_wp2_with (fail)
  refine (HRG.out _ _ _ _ _ _ H.out.at_).mono ?_; rintro e w1 ⟨rfl, hb1⟩
  have H1 := Lib.hid (H.out.below hb1); have HB1 := Lib.hid (hb1.mono H.out.lt)
  clear hb1
  go_upto_region 3 with (fail)
  obtain ⟨C, hC0, hCl, hCi, hCm⟩ := class_ch H1.out.at_
  have HC0 := Lib.hid hC0; have HL := Lib.hid hCl; have HCi := Lib.hid hCi; have HCm := Lib.hid hCm
  clear hC0 hCl hCi hCm
  have HO := Lib.hid (fun v (hv : C v) => holds_any A c t m.ho v (HL.out v hv).rgs (by unfold maxLen; omega) (HRT.out v (HB1.out.trans ((HCi.out v hv).mono H1.out.lt))))
  rw [HHB.out] at HO
  refine wp_region_class C (by kernel_rfl) (by kernel_rfl) HC0.out ?_
  go_big_quiet_want
  go_big_quiet_op
  first | go_big_quiet_on | (refine ⟨_, fun _ _ => rfl, ?_⟩; go_big_quiet_on)
  go_big_quiet_want
  go_big_quiet_op
  first | go_big_quiet_on | (refine ⟨_, fun _ _ => rfl, ?_⟩; go_big_quiet_on)
  go_big_quiet_want
  go_big_quiet_op
  first | go_big_quiet_on | (refine ⟨_, fun _ _ => rfl, ?_⟩; go_big_quiet_on)
  go_big_quiet_want
  refine quiet_run (v := tlV A c t) (fun v hv => by have hr := (HL.out v hv).r; obtain ⟨c0, c1, c2, c3, c4, c7, c13, c14, c15, c16, c17, c18⟩ := hr; go_simp) ?_
  simp only [Act.put, List.setIfInBounds_toArray, List.set_cons_zero, List.set_cons_succ]
  go_big_quiet_on
  go_big_quiet_want
  go_big_quiet_op
  first | go_big_quiet_on | (refine ⟨_, fun _ _ => rfl, ?_⟩; go_big_quiet_on)
  go_big_quiet_want
  go_big_quiet_op
  first | go_big_quiet_on | (refine ⟨_, fun _ _ => rfl, ?_⟩; go_big_quiet_on)
  go_big_quiet_want
  go_big_quiet_op
  first | go_big_quiet_on | (refine ⟨_, fun _ _ => rfl, ?_⟩; go_big_quiet_on)
  go_big_quiet_want
  go_big_quiet_op
  first | go_big_quiet_on | (refine ⟨_, fun _ _ => rfl, ?_⟩; go_big_quiet_on)
  go_big_quiet_want
  refine quiet_run (v := .string m.ho) (fun v hv => by have hr := (HL.out v hv).r; obtain ⟨c0, c1, c2, c3, c4, c7, c13, c14, c15, c16, c17, c18⟩ := hr; go_simp) ?_
  simp only [Act.put, List.setIfInBounds_toArray, List.set_cons_zero, List.set_cons_succ]
  go_big_quiet_on
  go_big_quiet_want
  refine quiet_call (f := 28) (args := #[tlV A c t, .string m.ho]) (fun v _ => by go_simp) (fun v hv => (HO.out v hv).mono (fun e w' h => ⟨h.1, HCm.out v w' hv h.2⟩)) ?_
  simp only [Act.put, List.setIfInBounds_toArray, List.set_cons_zero, List.set_cons_succ]
  go_big_quiet_on
  go_big_quiet_want
  refine quiet_run (v := .bool true) (fun v hv => by rfl) ?_
  simp only [Act.put, List.setIfInBounds_toArray, List.set_cons_zero, List.set_cons_succ]
  go_big_quiet_on
  go_big_quiet_want
  go_big_quiet_op
  first | go_big_quiet_on | (refine ⟨_, fun _ _ => rfl, ?_⟩; go_big_quiet_on)

  intro w2 hC2
  have H2 := Lib.hid (H1.out.below (HCi.out w2 hC2)); have HB2 := Lib.hid (HB1.out.trans ((HCi.out w2 hC2).mono H1.out.lt))
  clear hC2 HO HC0 HL HCi HCm C
  go_wp2_with (fail)
  go_ret
  exact ⟨rfl, A, c, B, e, H2.out, HB2.out⟩
set_option maxRecDepth 100000 in
set_option maxHeartbeats 4000000 in
theorem rel_wrong (w : World) (n0 p : Nat) (A : Option Addr) (c : Nat) (t : Tl) (m : Cm) (B : Option Addr) (e : Nat) (es : List Ev) (h : Chg w n0 p A c t m B e es) (hm : t.rs.length ≤ 1000) (hrt : ∀ v, Below n0 w v → RTab v) (hg : regdB t m = true) (hh : holdsB t m.ho = true) (hq : (m.ty != t.ty) = true) :
    Calls Tryd.prog 57 #[.pointer (some ⟨p, 0, none⟩)] w fun e w' => e = .returned (.int .i64 5) ∧ WrO n0 p t m es w w' := by
  have H := Lib.hid h
  have HRG := Lib.hid (fun v A c B e es (hv : ChAt v p A c t m B e es) => isRegd_any v p A c t m B e es hv (by unfold maxLen; omega))
  rw [hg] at HRG
  clear hg
  have HRT := Lib.hid (fun v (hb : Below n0 w v) => hrt v hb)
  have HHB := Lib.hid hh
  clear hrt hh
  have HEQ := Lib.hid hq
  clear hq
  clear h
  go_enter Tryd.func57, Tryd.ntmps57
  go_wp2_with (fail)
  refine (HRG.out _ _ _ _ _ _ H.out.at_).mono ?_; rintro e w1 ⟨rfl, hb1⟩
  have H1 := Lib.hid (H.out.below hb1); have HB1 := Lib.hid (hb1.mono H.out.lt)
  clear hb1
  go_upto_region 3 with (fail)
  obtain ⟨C, hC0, hCl, hCi, hCm⟩ := class_ch H1.out.at_
  have HC0 := Lib.hid hC0; have HL := Lib.hid hCl; have HCi := Lib.hid hCi; have HCm := Lib.hid hCm
  clear hC0 hCl hCi hCm
  have HO := Lib.hid (fun v (hv : C v) => holds_any A c t m.ho v (HL.out v hv).rgs (by unfold maxLen; omega) (HRT.out v (HB1.out.trans ((HCi.out v hv).mono H1.out.lt))))
  rw [HHB.out] at HO
  refine wp_region_class C (by kernel_rfl) (by kernel_rfl) HC0.out ?_
  go_big_quiet_want
  go_big_quiet_op
  first | go_big_quiet_on | (refine ⟨_, fun _ _ => rfl, ?_⟩; go_big_quiet_on)
  go_big_quiet_want
  go_big_quiet_op
  first | go_big_quiet_on | (refine ⟨_, fun _ _ => rfl, ?_⟩; go_big_quiet_on)
  go_big_quiet_want
  go_big_quiet_op
  first | go_big_quiet_on | (refine ⟨_, fun _ _ => rfl, ?_⟩; go_big_quiet_on)
  go_big_quiet_want
  refine quiet_run (v := tlV A c t) (fun v hv => by have hr := (HL.out v hv).r; obtain ⟨c0, c1, c2, c3, c4, c7, c13, c14, c15, c16, c17, c18⟩ := hr; go_simp) ?_
  simp only [Act.put, List.setIfInBounds_toArray, List.set_cons_zero, List.set_cons_succ]
  go_big_quiet_on
  go_big_quiet_want
  go_big_quiet_op
  first | go_big_quiet_on | (refine ⟨_, fun _ _ => rfl, ?_⟩; go_big_quiet_on)
  go_big_quiet_want
  go_big_quiet_op
  first | go_big_quiet_on | (refine ⟨_, fun _ _ => rfl, ?_⟩; go_big_quiet_on)
  go_big_quiet_want
  go_big_quiet_op
  first | go_big_quiet_on | (refine ⟨_, fun _ _ => rfl, ?_⟩; go_big_quiet_on)
  go_big_quiet_want
  go_big_quiet_op
  first | go_big_quiet_on | (refine ⟨_, fun _ _ => rfl, ?_⟩; go_big_quiet_on)
  go_big_quiet_want
  refine quiet_run (v := .string m.ho) (fun v hv => by have hr := (HL.out v hv).r; obtain ⟨c0, c1, c2, c3, c4, c7, c13, c14, c15, c16, c17, c18⟩ := hr; go_simp) ?_
  simp only [Act.put, List.setIfInBounds_toArray, List.set_cons_zero, List.set_cons_succ]
  go_big_quiet_on
  go_big_quiet_want
  refine quiet_call (f := 28) (args := #[tlV A c t, .string m.ho]) (fun v _ => by go_simp) (fun v hv => (HO.out v hv).mono (fun e w' h => ⟨h.1, HCm.out v w' hv h.2⟩)) ?_
  simp only [Act.put, List.setIfInBounds_toArray, List.set_cons_zero, List.set_cons_succ]
  go_big_quiet_on
  go_big_quiet_want
  refine quiet_run (v := .bool false) (fun v hv => by rfl) ?_
  simp only [Act.put, List.setIfInBounds_toArray, List.set_cons_zero, List.set_cons_succ]
  go_big_quiet_on
  go_big_quiet_want
  go_big_quiet_op
  first | go_big_quiet_on | (refine ⟨_, fun _ _ => rfl, ?_⟩; go_big_quiet_on)

  intro w2 hC2
  have H2 := Lib.hid (H1.out.below (HCi.out w2 hC2)); have HB2 := Lib.hid (HB1.out.trans ((HCi.out w2 hC2).mono H1.out.lt))
  clear hC2 HO HC0 HL HCi HCm C
  have c1 := H2.out.at_.r.ty
  have c16 := H2.out.at_.r.mt
  have hqe := HEQ.out
  go_upto_region 5 with (fail)
  go_quiet (fail)
  clear c1 c16
  have H3 := Lib.hid (fun n => H2.out.below (below_drewN (Below.refl _ _) n)); have HB3 := Lib.hid (fun n => below_drewN HB2.out n)
  go_wp2_with (fail)
  go_ret
  exact ⟨rfl, A, c, B, e, H3.out _, HB3.out _⟩
set_option maxRecDepth 100000 in
set_option maxHeartbeats 4000000 in
theorem rel_ends (w : World) (n0 p : Nat) (A : Option Addr) (c : Nat) (t : Tl) (m : Cm) (B : Option Addr) (e : Nat) (es : List Ev) (h : Chg w n0 p A c t m B e es) (hm : t.rs.length ≤ 1000) (hx : ∀ x ∈ t.rs, x.h.size ≤ 1000) (he : es.length ≤ 1000) (hrt : ∀ v, Below n0 w v → RTab v) (hg : regdB t m = true) (hh : holdsB t m.ho = true) (hq : (m.ty != t.ty) = false) :
    Calls Tryd.prog 57 #[.pointer (some ⟨p, 0, none⟩)] w fun e w' => e = .returned (.int .i64 1) ∧ WrO n0 p (endT t) m (endE t m es) w w' := by
  have H := Lib.hid h
  have HRG := Lib.hid (fun v A c B e es (hv : ChAt v p A c t m B e es) => isRegd_any v p A c t m B e es hv (by unfold maxLen; omega))
  rw [hg] at HRG
  clear hg
  have HRT := Lib.hid (fun v (hb : Below n0 w v) => hrt v hb)
  have HHB := Lib.hid hh
  clear hrt hh
  have HEQ := Lib.hid hq
  clear hq
  have HE := Lib.hid (fun v A c B e (hv : Chg v n0 p A c t m B e es) => end_any v n0 p A c t m B e es hv hx hm he)
  clear hx he
  clear h
  go_enter Tryd.func57, Tryd.ntmps57
  go_wp2_with (fail)
  refine (HRG.out _ _ _ _ _ _ H.out.at_).mono ?_; rintro e w1 ⟨rfl, hb1⟩
  have H1 := Lib.hid (H.out.below hb1); have HB1 := Lib.hid (hb1.mono H.out.lt)
  clear hb1
  go_upto_region 3 with (fail)
  obtain ⟨C, hC0, hCl, hCi, hCm⟩ := class_ch H1.out.at_
  have HC0 := Lib.hid hC0; have HL := Lib.hid hCl; have HCi := Lib.hid hCi; have HCm := Lib.hid hCm
  clear hC0 hCl hCi hCm
  have HO := Lib.hid (fun v (hv : C v) => holds_any A c t m.ho v (HL.out v hv).rgs (by unfold maxLen; omega) (HRT.out v (HB1.out.trans ((HCi.out v hv).mono H1.out.lt))))
  rw [HHB.out] at HO
  refine wp_region_class C (by kernel_rfl) (by kernel_rfl) HC0.out ?_
  go_big_quiet_want
  go_big_quiet_op
  first | go_big_quiet_on | (refine ⟨_, fun _ _ => rfl, ?_⟩; go_big_quiet_on)
  go_big_quiet_want
  go_big_quiet_op
  first | go_big_quiet_on | (refine ⟨_, fun _ _ => rfl, ?_⟩; go_big_quiet_on)
  go_big_quiet_want
  go_big_quiet_op
  first | go_big_quiet_on | (refine ⟨_, fun _ _ => rfl, ?_⟩; go_big_quiet_on)
  go_big_quiet_want
  refine quiet_run (v := tlV A c t) (fun v hv => by have hr := (HL.out v hv).r; obtain ⟨c0, c1, c2, c3, c4, c7, c13, c14, c15, c16, c17, c18⟩ := hr; go_simp) ?_
  simp only [Act.put, List.setIfInBounds_toArray, List.set_cons_zero, List.set_cons_succ]
  go_big_quiet_on
  go_big_quiet_want
  go_big_quiet_op
  first | go_big_quiet_on | (refine ⟨_, fun _ _ => rfl, ?_⟩; go_big_quiet_on)
  go_big_quiet_want
  go_big_quiet_op
  first | go_big_quiet_on | (refine ⟨_, fun _ _ => rfl, ?_⟩; go_big_quiet_on)
  go_big_quiet_want
  go_big_quiet_op
  first | go_big_quiet_on | (refine ⟨_, fun _ _ => rfl, ?_⟩; go_big_quiet_on)
  go_big_quiet_want
  go_big_quiet_op
  first | go_big_quiet_on | (refine ⟨_, fun _ _ => rfl, ?_⟩; go_big_quiet_on)
  go_big_quiet_want
  refine quiet_run (v := .string m.ho) (fun v hv => by have hr := (HL.out v hv).r; obtain ⟨c0, c1, c2, c3, c4, c7, c13, c14, c15, c16, c17, c18⟩ := hr; go_simp) ?_
  simp only [Act.put, List.setIfInBounds_toArray, List.set_cons_zero, List.set_cons_succ]
  go_big_quiet_on
  go_big_quiet_want
  refine quiet_call (f := 28) (args := #[tlV A c t, .string m.ho]) (fun v _ => by go_simp) (fun v hv => (HO.out v hv).mono (fun e w' h => ⟨h.1, HCm.out v w' hv h.2⟩)) ?_
  simp only [Act.put, List.setIfInBounds_toArray, List.set_cons_zero, List.set_cons_succ]
  go_big_quiet_on
  go_big_quiet_want
  refine quiet_run (v := .bool false) (fun v hv => by rfl) ?_
  simp only [Act.put, List.setIfInBounds_toArray, List.set_cons_zero, List.set_cons_succ]
  go_big_quiet_on
  go_big_quiet_want
  go_big_quiet_op
  first | go_big_quiet_on | (refine ⟨_, fun _ _ => rfl, ?_⟩; go_big_quiet_on)

  intro w2 hC2
  have H2 := Lib.hid (H1.out.below (HCi.out w2 hC2)); have HB2 := Lib.hid (HB1.out.trans ((HCi.out w2 hC2).mono H1.out.lt))
  clear hC2 HO HC0 HL HCi HCm C
  have c1 := H2.out.at_.r.ty
  have c16 := H2.out.at_.r.mt
  have hqe := HEQ.out
  go_upto_region 5 with (fail)
  go_quiet (fail)
  clear c1 c16
  have H3 := Lib.hid (fun n => H2.out.below (below_drewN (Below.refl _ _) n)); have HB3 := Lib.hid (fun n => below_drewN HB2.out n)
  go_wp2_with (fail)
  refine (HE.out _ _ _ _ _ (H3.out _)).mono ?_; rintro e w5 ⟨rfl, A5, c5, B5, e5, h5, hb5⟩
  have H5 := Lib.hid h5; have HB5 := Lib.hid ((HB3.out _).trans hb5)
  clear h5 hb5
  go_wp2_with (fail)
  go_ret
  exact ⟨rfl, A5, c5, B5, e5, H5.out, HB5.out⟩
theorem rel_any (w : World) (n0 p : Nat) (A : Option Addr) (c : Nat) (t : Tl) (m : Cm) (B : Option Addr) (e : Nat) (es : List Ev) (h : Chg w n0 p A c t m B e es) (hm : t.rs.length ≤ 1000) (hx : ∀ x ∈ t.rs, x.h.size ≤ 1000) (he : es.length ≤ 1000) (hrt : ∀ v, Below n0 w v → RTab v) :
    Calls Tryd.prog 57 #[.pointer (some ⟨p, 0, none⟩)] w fun e w' => e = .returned (.int .i64 (relCode t m)) ∧ WrO n0 p (relT t m) m (relE t m es) w w' := by
  cases hg : regdB t m with
  | false =>
    have hb : relB t m = false := by unfold relB; rw [hg]; rfl
    rw [show relCode t m = 2 by unfold relCode; rw [if_pos hg], show relT t m = t by unfold relT; rw [hb]; rfl, show relE t m es = es by unfold relE; rw [hb]; rfl]
    exact rel_unreg w n0 p A c t m B e es h hm hg
  | true =>
    have ng : ¬ regdB t m = false := by rw [hg]; decide
    cases hh : holdsB t m.ho with
    | false =>
      have hb : relB t m = false := by unfold relB; rw [hg, hh]; rfl
      rw [show relCode t m = 1 by unfold relCode; rw [if_neg ng, if_pos hh], show relT t m = t by unfold relT; rw [hb]; rfl, show relE t m es = es by unfold relE; rw [hb]; rfl]
      exact rel_free w n0 p A c t m B e es h hm hrt hg hh
    | true =>
      have nh : ¬ holdsB t m.ho = false := by rw [hh]; decide
      cases hq : (m.ty != t.ty) with
      | true =>
        have hq' : (m.ty == t.ty) = false := by cases h0 : (m.ty == t.ty) with | false => rfl | true => rw [bne, h0] at hq; cases hq
        have hb : relB t m = false := by unfold relB; rw [hg, hh, hq']; rfl
        rw [show relCode t m = 5 by unfold relCode; rw [if_neg ng, if_neg nh, if_pos hq], show relT t m = t by unfold relT; rw [hb]; rfl, show relE t m es = es by unfold relE; rw [hb]; rfl]
        exact rel_wrong w n0 p A c t m B e es h hm hrt hg hh hq
      | false =>
        have hq' : (m.ty == t.ty) = true := by cases h0 : (m.ty == t.ty) with | true => rfl | false => rw [bne, h0] at hq; cases hq
        have hb : relB t m = true := by unfold relB; rw [hg, hh, hq']; rfl
        rw [show relCode t m = 1 by unfold relCode; rw [if_neg ng, if_neg nh, if_neg (by rw [hq]; decide)], show relT t m = endT t by unfold relT; rw [hb]; rfl, show relE t m es = endE t m es by unfold relE; rw [hb]; rfl]
        exact rel_ends w n0 p A c t m B e es h hm hx he hrt hg hh hq
def clrT (t : Tl) : Tl := { t with rs := [], ty := 0, ho := ⟨#[]⟩, ge := incG t.ge }
def clearCode (t : Tl) (m : Cm) : Int := if regdB t m = true then 1 else 2
def clearT (t : Tl) (m : Cm) : Tl := if regdB t m = true then clrT t else t
def clearE (t : Tl) (m : Cm) (es : List Ev) : List Ev := if regdB t m = true then es ++ told 4 (isO m) t.rs else es
theorem Chg.cleared {w : World} {n0 p : Nat} {A : Option Addr} {c : Nat} {t : Tl} {m : Cm} {B : Option Addr} {e : Nat} {es : List Ev} (h : Chg w n0 p A c t m B e es) :
    Chg ((((w.setCell ⟨p, 0, none⟩ (.slice none 0 0)).setCell ⟨p, 1, none⟩ (.int .i64 0)).setCell ⟨p, 2, none⟩ (.string ⟨#[]⟩)).setCell ⟨p, 3, none⟩ (.int .u32 (incG t.ge))) n0 p none 0 (clrT t) m B e es ∧ Below n0 w ((((w.setCell ⟨p, 0, none⟩ (.slice none 0 0)).setCell ⟨p, 1, none⟩ (.int .i64 0)).setCell ⟨p, 2, none⟩ (.string ⟨#[]⟩)).setCell ⟨p, 3, none⟩ (.int .u32 (incG t.ge))) := by
  obtain ⟨h0, hb0⟩ := h.rows_put (v := w) (Only.refl _ _) (Own.nil w n0)
  obtain ⟨h1, hb1⟩ := h0.put 1 (.int .i64 0) (t' := { t with rs := [], ty := 0 }) rfl rfl
  obtain ⟨h2, hb2⟩ := h1.put 2 (.string ⟨#[]⟩) (t' := { t with rs := [], ty := 0, ho := ⟨#[]⟩ }) rfl rfl
  obtain ⟨h3, hb3⟩ := h2.put 3 (.int .u32 (incG t.ge)) (t' := clrT t) rfl rfl
  exact ⟨h3, ((hb0.trans hb1).trans hb2).trans hb3⟩
set_option maxRecDepth 100000 in
set_option maxHeartbeats 4000000 in
theorem clear_unreg (w : World) (n0 p : Nat) (A : Option Addr) (c : Nat) (t : Tl) (m : Cm) (B : Option Addr) (e : Nat) (es : List Ev) (h : Chg w n0 p A c t m B e es) (hm : t.rs.length ≤ 1000) (hg : regdB t m = false) :
    Calls Tryd.prog 58 #[.pointer (some ⟨p, 0, none⟩)] w fun e w' => e = .returned (.int .i64 2) ∧ WrO n0 p t m es w w' := by
  have H := Lib.hid h
  have HRG := Lib.hid (fun v A c B e es (hv : ChAt v p A c t m B e es) => isRegd_any v p A c t m B e es hv (by unfold maxLen; omega))
  rw [hg] at HRG
  clear hg
  clear h
  go_enter Tryd.func58, Tryd.ntmps58
  go_wp2_with (fail)
  refine (HRG.out _ _ _ _ _ _ H.out.at_).mono ?_; rintro e w1 ⟨rfl, hb1⟩
  have H1 := Lib.hid (H.out.below hb1); have HB1 := Lib.hid (hb1.mono H.out.lt)
  clear hb1
  go_wp2_with (fail)
  go_ret
  exact ⟨rfl, A, c, B, e, H1.out, HB1.out⟩
set_option maxRecDepth 100000 in
set_option maxHeartbeats 4000000 in
theorem clear_all (w : World) (n0 p : Nat) (A : Option Addr) (c : Nat) (t : Tl) (m : Cm) (B : Option Addr) (e : Nat) (es : List Ev) (h : Chg w n0 p A c t m B e es) (hm : t.rs.length ≤ 1000) (hx : ∀ x ∈ t.rs, x.h.size ≤ 1000) (he : es.length ≤ 1000) (hg : regdB t m = true) :
    Calls Tryd.prog 58 #[.pointer (some ⟨p, 0, none⟩)] w fun e w' => e = .returned (.int .i64 1) ∧ WrO n0 p (clrT t) m (es ++ told 4 (isO m) t.rs) w w' := by
  have H := Lib.hid h
  have HRG := Lib.hid (fun v A c B e es (hv : ChAt v p A c t m B e es) => isRegd_any v p A c t m B e es hv (by unfold maxLen; omega))
  rw [hg] at HRG
  clear hg
  have hmf : ∀ (fn : Fn) (first cap : Array Value) (w : World), (Instr.makeFunc fn first cap).run Tryd.prog w = .ok (.func fn first cap) w := fun _ _ _ _ => rfl
  have HN := Lib.hid (fun v A c B e (hv : Chg v n0 p A c t m B e es) => notify_other v n0 p A c t m B e es 4 hv hx hm he)
  clear hx he
  obtain ⟨es1, hes⟩ : ∃ x, es ++ told 4 (isO m) t.rs = x := ⟨_, rfl⟩
  rw [hes] at HN ⊢
  clear hes
  clear h
  go_enter Tryd.func58, Tryd.ntmps58
  go_wp2_with (fail)
  refine (HRG.out _ _ _ _ _ _ H.out.at_).mono ?_; rintro e w1 ⟨rfl, hb1⟩
  have H1 := Lib.hid (H.out.below hb1); have HB1 := Lib.hid (hb1.mono H.out.lt)
  clear hb1
  go_wp2_with (fail)
  refine (HN.out _ _ _ _ _ H1.out).mono ?_; rintro e w2 ⟨rfl, A2, c2, B2, e2, h2, hb2⟩
  have H2 := Lib.hid h2; have HB2 := Lib.hid (HB1.out.trans hb2)
  have c0 := h2.at_.r.rs
  have c1 := h2.at_.r.ty
  have c2 := h2.at_.r.hh
  have c3 := h2.at_.r.ge
  have f0 := h2.blk.free 0
  have f1 := h2.blk.free 1
  have f2 := h2.blk.free 2
  have f3 := h2.blk.free 3
  have hig : IntKind.u32.wrap (t.ge + 1) = incG t.ge := rfl
  clear h2 hb2
  go_wp2_with (fail)
  go_ret
  exact ⟨rfl, none, 0, B2, e2, H2.out.cleared.1, HB2.out.trans H2.out.cleared.2⟩
theorem clear_any (w : World) (n0 p : Nat) (A : Option Addr) (c : Nat) (t : Tl) (m : Cm) (B : Option Addr) (e : Nat) (es : List Ev) (h : Chg w n0 p A c t m B e es) (hm : t.rs.length ≤ 1000) (hx : ∀ x ∈ t.rs, x.h.size ≤ 1000) (he : es.length ≤ 1000) :
    Calls Tryd.prog 58 #[.pointer (some ⟨p, 0, none⟩)] w fun e w' => e = .returned (.int .i64 (clearCode t m)) ∧ WrO n0 p (clearT t m) m (clearE t m es) w w' := by
  cases hg : regdB t m with
  | false =>
    have nb : ¬ regdB t m = true := by rw [hg]; decide
    rw [show clearCode t m = 2 from if_neg nb, show clearT t m = t from if_neg nb, show clearE t m es = es from if_neg nb]
    exact clear_unreg w n0 p A c t m B e es h hm hg
  | true =>
    rw [show clearCode t m = 1 from if_pos hg, show clearT t m = clrT t from if_pos hg, show clearE t m es = es ++ told 4 (isO m) t.rs from if_pos hg]
    exact clear_all w n0 p A c t m B e es h hm hx he hg
end Go.Proofs.YtgekadfkokkapaaDoor
