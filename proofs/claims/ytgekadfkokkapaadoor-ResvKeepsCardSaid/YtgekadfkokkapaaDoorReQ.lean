/- A reservation made, released; a unit cleared. -/
import Derived.Test.YtgekadfkokkapaaDoorReM
namespace Go.Proofs.YtgekadfkokkapaaDoor
open Go.RowKit
def resvCode (t : Tl) (m : Cm) : Int := if typeB m.ty = false then 5 else if regdB t m = false then 2 else if t.ty = 0 then 1 else if (t.ty == m.ty && holdsB t m.ho) = true then 1 else 2
def resvT (t : Tl) (m : Cm) : Tl := if typeB m.ty = false then t else if regdB t m = false then t else if t.ty = 0 then holdT t m else t
theorem Chg.hbox {w : World} {n0 p : Nat} {A : Option Addr} {c : Nat} {t : Tl} {m : Cm} {B : Option Addr} {e : Nat} {es : List Ev} (h : Chg w n0 p A c t m B e es) : ∀ v, v = w.alloc (.cells (hoC t) 24) → Blk v w.heap.size 24 (hoC t) ∧ Chg v n0 p A c t m B e es ∧ Below w.heap.size w v := by
  rintro v rfl
  have hb := (Below.refl w.heap.size w).alloc (Nat.le_refl _) (.cells (hoC t) 24)
  exact ⟨Blk.new w _ _, h.below hb, hb⟩
set_option maxRecDepth 100000 in
set_option maxHeartbeats 4000000 in
theorem resv_type (w : World) (n0 p : Nat) (A : Option Addr) (c : Nat) (t : Tl) (m : Cm) (B : Option Addr) (e : Nat) (es : List Ev) (h : Chg w n0 p A c t m B e es) (ht : typeB m.ty = false) :
    Calls Tryd.prog 56 #[.pointer (some ⟨p, 0, none⟩)] w fun e w' => e = .returned (.int .i64 5) ∧ WrO n0 p t m es w w' := by
  have c1 := h.at_.r.ty
  have c2 := h.at_.r.hh
  obtain ⟨h1, h2, h3⟩ := h.hbox _ rfl
  have HX := Lib.hid h1; have H := Lib.hid h2; have HB := Lib.hid (h3.mono h.lt)
  have HT := Lib.hid (fun v => type_any m.ty v)
  rw [ht] at HT
  clear h1 h2 h3 h ht
  go_enter Tryd.func56, Tryd.ntmps56
  go_upto_region 2 with (fail)
  change Code.wp _ _ _ _ (w.alloc (.cells (hoC t) 24))
  generalize w.alloc (.cells (hoC t) 24) = w0 at *
  clear c1 c2
  have c16 := H.out.at_.r.mt
  have d0 : w0.cell? ⟨w.heap.size, 0, none⟩ = some (.int .i64 t.ty) := HX.out.cell 0
  go_wp2_with (fail)
  refine (HT.out _).mono ?_; rintro e w1 ⟨rfl, rfl⟩
  go_wp2_with (fail)
  go_ret
  exact ⟨rfl, A, c, B, e, H.out, HB.out⟩
set_option maxRecDepth 100000 in
set_option maxHeartbeats 4000000 in
theorem resv_unreg (w : World) (n0 p : Nat) (A : Option Addr) (c : Nat) (t : Tl) (m : Cm) (B : Option Addr) (e : Nat) (es : List Ev) (h : Chg w n0 p A c t m B e es) (hm : t.rs.length ≤ 1000) (ht : typeB m.ty = true) (hg : regdB t m = false) :
    Calls Tryd.prog 56 #[.pointer (some ⟨p, 0, none⟩)] w fun e w' => e = .returned (.int .i64 2) ∧ WrO n0 p t m es w w' := by
  have c1 := h.at_.r.ty
  have c2 := h.at_.r.hh
  obtain ⟨h1, h2, h3⟩ := h.hbox _ rfl
  have HX := Lib.hid h1; have H := Lib.hid h2; have HB := Lib.hid (h3.mono h.lt)
  have HT := Lib.hid (fun v => type_any m.ty v)
  rw [ht] at HT
  clear h1 h2 h3 h ht
  have HRG := Lib.hid (fun v A c B e es (hv : ChAt v p A c t m B e es) => isRegd_any v p A c t m B e es hv (by unfold maxLen; omega))
  rw [hg] at HRG
  clear hg
  go_enter Tryd.func56, Tryd.ntmps56
  go_upto_region 2 with (fail)
  change Code.wp _ _ _ _ (w.alloc (.cells (hoC t) 24))
  generalize w.alloc (.cells (hoC t) 24) = w0 at *
  clear c1 c2
  have c16 := H.out.at_.r.mt
  have d0 : w0.cell? ⟨w.heap.size, 0, none⟩ = some (.int .i64 t.ty) := HX.out.cell 0
  go_wp2_with (fail)
  refine (HT.out _).mono ?_; rintro e w1 ⟨rfl, rfl⟩
  go_wp2_with (fail)
  refine (HRG.out _ _ _ _ _ _ H.out.at_).mono ?_; rintro e w2 ⟨rfl, hb2⟩
  have H2 := Lib.hid (H.out.below hb2); have HB2 := Lib.hid (HB.out.trans (hb2.mono H.out.lt))
  have HX2 := Lib.hid (HX.out.below hb2 HX.out.lt)
  clear hb2 c16 d0
  have d0 : w2.cell? ⟨w.heap.size, 0, none⟩ = some (.int .i64 t.ty) := HX2.out.cell 0
  go_wp2_with (fail)
  go_ret
  exact ⟨rfl, A, c, B, e, H2.out, HB2.out⟩
set_option maxRecDepth 100000 in
set_option maxHeartbeats 4000000 in
theorem resv_free (w : World) (n0 p : Nat) (A : Option Addr) (c : Nat) (t : Tl) (m : Cm) (B : Option Addr) (e : Nat) (es : List Ev) (h : Chg w n0 p A c t m B e es) (hm : t.rs.length ≤ 1000) (hs : m.ho.size ≤ 1000) (ht : typeB m.ty = true) (hg : regdB t m = true) (hz : (t.ty == 0) = true) :
    Calls Tryd.prog 56 #[.pointer (some ⟨p, 0, none⟩)] w fun e w' => e = .returned (.int .i64 1) ∧ WrO n0 p (holdT t m) m es w w' := by
  have c1 := h.at_.r.ty
  have c2 := h.at_.r.hh
  obtain ⟨h1, h2, h3⟩ := h.hbox _ rfl
  have HX := Lib.hid h1; have H := Lib.hid h2; have HB := Lib.hid (h3.mono h.lt)
  have HT := Lib.hid (fun v => type_any m.ty v)
  rw [ht] at HT
  clear h1 h2 h3 h ht
  have HRG := Lib.hid (fun v A c B e es (hv : ChAt v p A c t m B e es) => isRegd_any v p A c t m B e es hv (by unfold maxLen; omega))
  rw [hg] at HRG
  clear hg
  have HH := Lib.hid (fun v A c B e (hv : Chg v n0 p A c t m B e es) => hold_any v n0 p A c t m B e es hv hs)
  go_enter Tryd.func56, Tryd.ntmps56
  go_upto_region 2 with (fail)
  change Code.wp _ _ _ _ (w.alloc (.cells (hoC t) 24))
  generalize w.alloc (.cells (hoC t) 24) = w0 at *
  clear c1 c2
  have c16 := H.out.at_.r.mt
  have d0 : w0.cell? ⟨w.heap.size, 0, none⟩ = some (.int .i64 t.ty) := HX.out.cell 0
  go_wp2_with (fail)
  refine (HT.out _).mono ?_; rintro e w1 ⟨rfl, rfl⟩
  go_wp2_with (fail)
  refine (HRG.out _ _ _ _ _ _ H.out.at_).mono ?_; rintro e w2 ⟨rfl, hb2⟩
  have H2 := Lib.hid (H.out.below hb2); have HB2 := Lib.hid (HB.out.trans (hb2.mono H.out.lt))
  have HX2 := Lib.hid (HX.out.below hb2 HX.out.lt)
  clear hb2 c16 d0
  have d0 : w2.cell? ⟨w.heap.size, 0, none⟩ = some (.int .i64 t.ty) := HX2.out.cell 0
  go_wp2_with (fail)
  refine (HH.out _ _ _ _ _ H2.out).mono ?_; rintro e w3 ⟨rfl, A3, c3, B3, e3, h3, hb3⟩
  have H3 := Lib.hid h3; have HB3 := Lib.hid (HB2.out.trans hb3)
  clear h3 hb3 d0
  go_wp2_with (fail)
  go_ret
  exact ⟨rfl, A3, c3, B3, e3, H3.out, HB3.out⟩
set_option maxRecDepth 100000 in
set_option maxHeartbeats 4000000 in
theorem resv_other (w : World) (n0 p : Nat) (A : Option Addr) (c : Nat) (t : Tl) (m : Cm) (B : Option Addr) (e : Nat) (es : List Ev) (h : Chg w n0 p A c t m B e es) (hm : t.rs.length ≤ 1000) (ht : typeB m.ty = true) (hg : regdB t m = true) (hz : (t.ty == 0) = false) (hq : (t.ty == m.ty) = false) :
    Calls Tryd.prog 56 #[.pointer (some ⟨p, 0, none⟩)] w fun e w' => e = .returned (.int .i64 2) ∧ WrO n0 p t m es w w' := by
  have c1 := h.at_.r.ty
  have c2 := h.at_.r.hh
  obtain ⟨h1, h2, h3⟩ := h.hbox _ rfl
  have HX := Lib.hid h1; have H := Lib.hid h2; have HB := Lib.hid (h3.mono h.lt)
  have HT := Lib.hid (fun v => type_any m.ty v)
  rw [ht] at HT
  clear h1 h2 h3 h ht
  have HRG := Lib.hid (fun v A c B e es (hv : ChAt v p A c t m B e es) => isRegd_any v p A c t m B e es hv (by unfold maxLen; omega))
  rw [hg] at HRG
  clear hg
  have HEQ := Lib.hid hq
  clear hq
  go_enter Tryd.func56, Tryd.ntmps56
  go_upto_region 2 with (fail)
  change Code.wp _ _ _ _ (w.alloc (.cells (hoC t) 24))
  generalize w.alloc (.cells (hoC t) 24) = w0 at *
  clear c1 c2
  have c16 := H.out.at_.r.mt
  have d0 : w0.cell? ⟨w.heap.size, 0, none⟩ = some (.int .i64 t.ty) := HX.out.cell 0
  go_wp2_with (fail)
  refine (HT.out _).mono ?_; rintro e w1 ⟨rfl, rfl⟩
  go_wp2_with (fail)
  refine (HRG.out _ _ _ _ _ _ H.out.at_).mono ?_; rintro e w2 ⟨rfl, hb2⟩
  have H2 := Lib.hid (H.out.below hb2); have HB2 := Lib.hid (HB.out.trans (hb2.mono H.out.lt))
  have HX2 := Lib.hid (HX.out.below hb2 HX.out.lt)
  clear hb2 c16 d0
  have d0 : w2.cell? ⟨w.heap.size, 0, none⟩ = some (.int .i64 t.ty) := HX2.out.cell 0
  go_upto_region 9 with (fail)
  obtain ⟨C, hC0, hCl, hCi, hCm⟩ := class_of w2 (fun v => ChR v p A c t m ∧ v.cell? ⟨w.heap.size, 0, none⟩ = some (.int .i64 t.ty)) (fun v hb => ⟨(H2.out.at_.below hb).r, (HX2.out.below hb HX2.out.lt).cell 0⟩)
  have HC0 := Lib.hid hC0; have HL := Lib.hid hCl; have HCi := Lib.hid hCi; have HCm := Lib.hid hCm
  clear hC0 hCl hCi hCm
  refine wp_region_class C (by kernel_rfl) (by kernel_rfl) HC0.out ?_
  go_big_quiet_want
  go_big_quiet_op
  first | go_big_quiet_on | (refine ⟨_, fun _ _ => rfl, ?_⟩; go_big_quiet_on)
  go_big_quiet_want
  refine quiet_run (v := .int .i64 t.ty) (fun v hv => by obtain ⟨⟨rs, ty, hh, ge, ap, ho, ke, nk, ot, mt, ig, ma⟩, d0⟩ := HL.out v hv; go_simp) ?_
  simp only [Act.put, List.setIfInBounds_toArray, List.set_cons_zero, List.set_cons_succ]
  go_big_quiet_on
  go_big_quiet_want
  go_big_quiet_op
  first | go_big_quiet_on | (refine ⟨_, fun _ _ => rfl, ?_⟩; go_big_quiet_on)
  go_big_quiet_want
  go_big_quiet_op
  first | go_big_quiet_on | (refine ⟨_, fun _ _ => rfl, ?_⟩; go_big_quiet_on)
  go_big_quiet_want
  go_big_quiet_op
  first | go_big_quiet_on | (refine ⟨_, fun _ _ => rfl, ?_⟩; go_big_quiet_on)
  go_big_quiet_want
  go_big_quiet_op
  first | go_big_quiet_on | (refine ⟨_, fun _ _ => rfl, ?_⟩; go_big_quiet_on)
  go_big_quiet_want
  refine quiet_run (v := .int .i64 m.ty) (fun v hv => by obtain ⟨⟨rs, ty, hh, ge, ap, ho, ke, nk, ot, mt, ig, ma⟩, d0⟩ := HL.out v hv; go_simp) ?_
  simp only [Act.put, List.setIfInBounds_toArray, List.set_cons_zero, List.set_cons_succ]
  go_big_quiet_on
  go_big_quiet_want
  refine quiet_run (v := .bool false) (fun v hv => by have := HEQ.out; go_simp) ?_
  simp only [Act.put, List.setIfInBounds_toArray, List.set_cons_zero, List.set_cons_succ]
  go_big_quiet_on
  go_big_quiet_want
  go_big_quiet_op
  first | go_big_quiet_on | (refine ⟨_, fun _ _ => rfl, ?_⟩; go_big_quiet_on)
  go_big_quiet_skip
  go_big_quiet_skip
  go_big_quiet_skip
  go_big_quiet_skip
  go_big_quiet_skip
  go_big_quiet_skip
  go_big_quiet_skip
  go_big_quiet_skip
  go_big_quiet_skip
  go_big_quiet_skip
  go_big_quiet_want
  go_big_quiet_op
  first | go_big_quiet_on | (refine ⟨_, fun _ _ => rfl, ?_⟩; go_big_quiet_on)
  go_big_quiet_want
  go_big_quiet_op
  first | go_big_quiet_on | (refine ⟨_, fun _ _ => rfl, ?_⟩; go_big_quiet_on)

  intro w9 hC9
  have H9 := Lib.hid (H2.out.below (HCi.out w9 hC9)); have HB9 := Lib.hid (HB2.out.trans ((HCi.out w9 hC9).mono H2.out.lt))
  clear hC9
  go_wp2_with (fail)
  go_ret
  exact ⟨rfl, A, c, B, e, H9.out, HB9.out⟩
set_option maxRecDepth 100000 in
set_option maxHeartbeats 4000000 in
theorem resv_same (w : World) (n0 p : Nat) (A : Option Addr) (c : Nat) (t : Tl) (m : Cm) (B : Option Addr) (e : Nat) (es : List Ev) (h : Chg w n0 p A c t m B e es) (hm : t.rs.length ≤ 1000) (hrt : ∀ v, Below n0 w v → RTab v) (ht : typeB m.ty = true) (hg : regdB t m = true) (hz : (t.ty == 0) = false) (hq : (t.ty == m.ty) = true) (hh : holdsB t m.ho = true) :
    Calls Tryd.prog 56 #[.pointer (some ⟨p, 0, none⟩)] w fun e w' => e = .returned (.int .i64 1) ∧ WrO n0 p t m es w w' := by
  have c1 := h.at_.r.ty
  have c2 := h.at_.r.hh
  obtain ⟨h1, h2, h3⟩ := h.hbox _ rfl
  have HX := Lib.hid h1; have H := Lib.hid h2; have HB := Lib.hid (h3.mono h.lt)
  have HT := Lib.hid (fun v => type_any m.ty v)
  rw [ht] at HT
  clear h1 h2 h3 h ht
  have HRG := Lib.hid (fun v A c B e es (hv : ChAt v p A c t m B e es) => isRegd_any v p A c t m B e es hv (by unfold maxLen; omega))
  rw [hg] at HRG
  clear hg
  have HRT := Lib.hid (fun v (hb : Below n0 w v) => hrt v hb)
  clear hrt
  have HEQ := Lib.hid hq
  have HHB := Lib.hid hh
  clear hq hh
  go_enter Tryd.func56, Tryd.ntmps56
  go_upto_region 2 with (fail)
  change Code.wp _ _ _ _ (w.alloc (.cells (hoC t) 24))
  generalize w.alloc (.cells (hoC t) 24) = w0 at *
  clear c1 c2
  have c16 := H.out.at_.r.mt
  have d0 : w0.cell? ⟨w.heap.size, 0, none⟩ = some (.int .i64 t.ty) := HX.out.cell 0
  go_wp2_with (fail)
  refine (HT.out _).mono ?_; rintro e w1 ⟨rfl, rfl⟩
  go_wp2_with (fail)
  refine (HRG.out _ _ _ _ _ _ H.out.at_).mono ?_; rintro e w2 ⟨rfl, hb2⟩
  have H2 := Lib.hid (H.out.below hb2); have HB2 := Lib.hid (HB.out.trans (hb2.mono H.out.lt))
  have HX2 := Lib.hid (HX.out.below hb2 HX.out.lt)
  clear hb2 c16 d0
  have d0 : w2.cell? ⟨w.heap.size, 0, none⟩ = some (.int .i64 t.ty) := HX2.out.cell 0
  go_upto_region 9 with (fail)
  obtain ⟨C, hC0, hCl, hCi, hCm⟩ := class_of w2 (fun v => ChR v p A c t m ∧ v.cell? ⟨w.heap.size, 0, none⟩ = some (.int .i64 t.ty)) (fun v hb => ⟨(H2.out.at_.below hb).r, (HX2.out.below hb HX2.out.lt).cell 0⟩)
  have HC0 := Lib.hid hC0; have HL := Lib.hid hCl; have HCi := Lib.hid hCi; have HCm := Lib.hid hCm
  clear hC0 hCl hCi hCm
  have HO := Lib.hid (fun v (hv : C v) => holds_any A c t m.ho v (H2.out.at_.below (HCi.out v hv)).rgs (by unfold maxLen; omega) (HRT.out v (HB2.out.trans ((HCi.out v hv).mono H2.out.lt))))
  rw [HHB.out] at HO
  refine wp_region_class C (by kernel_rfl) (by kernel_rfl) HC0.out ?_
  go_big_quiet_want
  go_big_quiet_op
  first | go_big_quiet_on | (refine ⟨_, fun _ _ => rfl, ?_⟩; go_big_quiet_on)
  go_big_quiet_want
  refine quiet_run (v := .int .i64 t.ty) (fun v hv => by obtain ⟨⟨rs, ty, hh, ge, ap, ho, ke, nk, ot, mt, ig, ma⟩, d0⟩ := HL.out v hv; go_simp) ?_
  simp only [Act.put, List.setIfInBounds_toArray, List.set_cons_zero, List.set_cons_succ]
  go_big_quiet_on
  go_big_quiet_want
  go_big_quiet_op
  first | go_big_quiet_on | (refine ⟨_, fun _ _ => rfl, ?_⟩; go_big_quiet_on)
  go_big_quiet_want
  go_big_quiet_op
  first | go_big_quiet_on | (refine ⟨_, fun _ _ => rfl, ?_⟩; go_big_quiet_on)
  go_big_quiet_want
  go_big_quiet_op
  first | go_big_quiet_on | (refine ⟨_, fun _ _ => rfl, ?_⟩; go_big_quiet_on)
  go_big_quiet_want
  go_big_quiet_op
  first | go_big_quiet_on | (refine ⟨_, fun _ _ => rfl, ?_⟩; go_big_quiet_on)
  go_big_quiet_want
  refine quiet_run (v := .int .i64 m.ty) (fun v hv => by obtain ⟨⟨rs, ty, hh, ge, ap, ho, ke, nk, ot, mt, ig, ma⟩, d0⟩ := HL.out v hv; go_simp) ?_
  simp only [Act.put, List.setIfInBounds_toArray, List.set_cons_zero, List.set_cons_succ]
  go_big_quiet_on
  go_big_quiet_want
  refine quiet_run (v := .bool true) (fun v hv => by have := HEQ.out; go_simp) ?_
  simp only [Act.put, List.setIfInBounds_toArray, List.set_cons_zero, List.set_cons_succ]
  go_big_quiet_on
  go_big_quiet_want
  go_big_quiet_op
  first | go_big_quiet_on | (refine ⟨_, fun _ _ => rfl, ?_⟩; go_big_quiet_on)
  go_big_quiet_want
  go_big_quiet_op
  first | go_big_quiet_on | (refine ⟨_, fun _ _ => rfl, ?_⟩; go_big_quiet_on)
  go_big_quiet_want
  go_big_quiet_op
  first | go_big_quiet_on | (refine ⟨_, fun _ _ => rfl, ?_⟩; go_big_quiet_on)
  go_big_quiet_want
  go_big_quiet_op
  first | go_big_quiet_on | (refine ⟨_, fun _ _ => rfl, ?_⟩; go_big_quiet_on)
  go_big_quiet_want
  refine quiet_run (v := tlV A c t) (fun v hv => by obtain ⟨⟨rs, ty, hh, ge, ap, ho, ke, nk, ot, mt, ig, ma⟩, d0⟩ := HL.out v hv; go_simp) ?_
  simp only [Act.put, List.setIfInBounds_toArray, List.set_cons_zero, List.set_cons_succ]
  go_big_quiet_on
  go_big_quiet_want
  go_big_quiet_op
  first | go_big_quiet_on | (refine ⟨_, fun _ _ => rfl, ?_⟩; go_big_quiet_on)
  go_big_quiet_want
  go_big_quiet_op
  first | go_big_quiet_on | (refine ⟨_, fun _ _ => rfl, ?_⟩; go_big_quiet_on)
  go_big_quiet_want
  go_big_quiet_op
  first | go_big_quiet_on | (refine ⟨_, fun _ _ => rfl, ?_⟩; go_big_quiet_on)
  go_big_quiet_want
  go_big_quiet_op
  first | go_big_quiet_on | (refine ⟨_, fun _ _ => rfl, ?_⟩; go_big_quiet_on)
  go_big_quiet_want
  refine quiet_run (v := .string m.ho) (fun v hv => by obtain ⟨⟨rs, ty, hh, ge, ap, ho, ke, nk, ot, mt, ig, ma⟩, d0⟩ := HL.out v hv; go_simp) ?_
  simp only [Act.put, List.setIfInBounds_toArray, List.set_cons_zero, List.set_cons_succ]
  go_big_quiet_on
  go_big_quiet_want
  refine quiet_call (f := 28) (args := #[tlV A c t, .string m.ho]) (fun v _ => by go_simp) (fun v hv => (HO.out v hv).mono (fun e w' h => ⟨h.1, HCm.out v w' hv h.2⟩)) ?_
  simp only [Act.put, List.setIfInBounds_toArray, List.set_cons_zero, List.set_cons_succ]
  go_big_quiet_on
  go_big_quiet_want
  go_big_quiet_op
  first | go_big_quiet_on | (refine ⟨_, fun _ _ => rfl, ?_⟩; go_big_quiet_on)
  go_big_quiet_want
  go_big_quiet_op
  first | go_big_quiet_on | (refine ⟨_, fun _ _ => rfl, ?_⟩; go_big_quiet_on)

  intro w9 hC9
  have H9 := Lib.hid (H2.out.below (HCi.out w9 hC9)); have HB9 := Lib.hid (HB2.out.trans ((HCi.out w9 hC9).mono H2.out.lt))
  clear hC9
  go_wp2_with (fail)
  go_ret
  exact ⟨rfl, A, c, B, e, H9.out, HB9.out⟩
set_option maxRecDepth 100000 in
set_option maxHeartbeats 4000000 in
theorem resv_held (w : World) (n0 p : Nat) (A : Option Addr) (c : Nat) (t : Tl) (m : Cm) (B : Option Addr) (e : Nat) (es : List Ev) (h : Chg w n0 p A c t m B e es) (hm : t.rs.length ≤ 1000) (hrt : ∀ v, Below n0 w v → RTab v) (ht : typeB m.ty = true) (hg : regdB t m = true) (hz : (t.ty == 0) = false) (hq : (t.ty == m.ty) = true) (hh : holdsB t m.ho = false) :
    Calls Tryd.prog 56 #[.pointer (some ⟨p, 0, none⟩)] w fun e w' => e = .returned (.int .i64 2) ∧ WrO n0 p t m es w w' := by
  have c1 := h.at_.r.ty
  have c2 := h.at_.r.hh
  obtain ⟨h1, h2, h3⟩ := h.hbox _ rfl
  have HX := Lib.hid h1; have H := Lib.hid h2; have HB := Lib.hid (h3.mono h.lt)
  have HT := Lib.hid (fun v => type_any m.ty v)
  rw [ht] at HT
  clear h1 h2 h3 h ht
  have HRG := Lib.hid (fun v A c B e es (hv : ChAt v p A c t m B e es) => isRegd_any v p A c t m B e es hv (by unfold maxLen; omega))
  rw [hg] at HRG
  clear hg
  have HRT := Lib.hid (fun v (hb : Below n0 w v) => hrt v hb)
  clear hrt
  have HEQ := Lib.hid hq
  have HHB := Lib.hid hh
  clear hq hh
  go_enter Tryd.func56, Tryd.ntmps56
  go_upto_region 2 with (fail)
  change Code.wp _ _ _ _ (w.alloc (.cells (hoC t) 24))
  generalize w.alloc (.cells (hoC t) 24) = w0 at *
  clear c1 c2
  have c16 := H.out.at_.r.mt
  have d0 : w0.cell? ⟨w.heap.size, 0, none⟩ = some (.int .i64 t.ty) := HX.out.cell 0
  go_wp2_with (fail)
  refine (HT.out _).mono ?_; rintro e w1 ⟨rfl, rfl⟩
  go_wp2_with (fail)
  refine (HRG.out _ _ _ _ _ _ H.out.at_).mono ?_; rintro e w2 ⟨rfl, hb2⟩
  have H2 := Lib.hid (H.out.below hb2); have HB2 := Lib.hid (HB.out.trans (hb2.mono H.out.lt))
  have HX2 := Lib.hid (HX.out.below hb2 HX.out.lt)
  clear hb2 c16 d0
  have d0 : w2.cell? ⟨w.heap.size, 0, none⟩ = some (.int .i64 t.ty) := HX2.out.cell 0
  go_upto_region 9 with (fail)
  obtain ⟨C, hC0, hCl, hCi, hCm⟩ := class_of w2 (fun v => ChR v p A c t m ∧ v.cell? ⟨w.heap.size, 0, none⟩ = some (.int .i64 t.ty)) (fun v hb => ⟨(H2.out.at_.below hb).r, (HX2.out.below hb HX2.out.lt).cell 0⟩)
  have HC0 := Lib.hid hC0; have HL := Lib.hid hCl; have HCi := Lib.hid hCi; have HCm := Lib.hid hCm
  clear hC0 hCl hCi hCm
  have HO := Lib.hid (fun v (hv : C v) => holds_any A c t m.ho v (H2.out.at_.below (HCi.out v hv)).rgs (by unfold maxLen; omega) (HRT.out v (HB2.out.trans ((HCi.out v hv).mono H2.out.lt))))
  rw [HHB.out] at HO
  refine wp_region_class C (by kernel_rfl) (by kernel_rfl) HC0.out ?_
  go_big_quiet_want
  go_big_quiet_op
  first | go_big_quiet_on | (refine ⟨_, fun _ _ => rfl, ?_⟩; go_big_quiet_on)
  go_big_quiet_want
  refine quiet_run (v := .int .i64 t.ty) (fun v hv => by obtain ⟨⟨rs, ty, hh, ge, ap, ho, ke, nk, ot, mt, ig, ma⟩, d0⟩ := HL.out v hv; go_simp) ?_
  simp only [Act.put, List.setIfInBounds_toArray, List.set_cons_zero, List.set_cons_succ]
  go_big_quiet_on
  go_big_quiet_want
  go_big_quiet_op
  first | go_big_quiet_on | (refine ⟨_, fun _ _ => rfl, ?_⟩; go_big_quiet_on)
  go_big_quiet_want
  go_big_quiet_op
  first | go_big_quiet_on | (refine ⟨_, fun _ _ => rfl, ?_⟩; go_big_quiet_on)
  go_big_quiet_want
  go_big_quiet_op
  first | go_big_quiet_on | (refine ⟨_, fun _ _ => rfl, ?_⟩; go_big_quiet_on)
  go_big_quiet_want
  go_big_quiet_op
  first | go_big_quiet_on | (refine ⟨_, fun _ _ => rfl, ?_⟩; go_big_quiet_on)
  go_big_quiet_want
  refine quiet_run (v := .int .i64 m.ty) (fun v hv => by obtain ⟨⟨rs, ty, hh, ge, ap, ho, ke, nk, ot, mt, ig, ma⟩, d0⟩ := HL.out v hv; go_simp) ?_
  simp only [Act.put, List.setIfInBounds_toArray, List.set_cons_zero, List.set_cons_succ]
  go_big_quiet_on
  go_big_quiet_want
  refine quiet_run (v := .bool true) (fun v hv => by have := HEQ.out; go_simp) ?_
  simp only [Act.put, List.setIfInBounds_toArray, List.set_cons_zero, List.set_cons_succ]
  go_big_quiet_on
  go_big_quiet_want
  go_big_quiet_op
  first | go_big_quiet_on | (refine ⟨_, fun _ _ => rfl, ?_⟩; go_big_quiet_on)
  go_big_quiet_want
  go_big_quiet_op
  first | go_big_quiet_on | (refine ⟨_, fun _ _ => rfl, ?_⟩; go_big_quiet_on)
  go_big_quiet_want
  go_big_quiet_op
  first | go_big_quiet_on | (refine ⟨_, fun _ _ => rfl, ?_⟩; go_big_quiet_on)
  go_big_quiet_want
  go_big_quiet_op
  first | go_big_quiet_on | (refine ⟨_, fun _ _ => rfl, ?_⟩; go_big_quiet_on)
  go_big_quiet_want
  refine quiet_run (v := tlV A c t) (fun v hv => by obtain ⟨⟨rs, ty, hh, ge, ap, ho, ke, nk, ot, mt, ig, ma⟩, d0⟩ := HL.out v hv; go_simp) ?_
  simp only [Act.put, List.setIfInBounds_toArray, List.set_cons_zero, List.set_cons_succ]
  go_big_quiet_on
  go_big_quiet_want
  go_big_quiet_op
  first | go_big_quiet_on | (refine ⟨_, fun _ _ => rfl, ?_⟩; go_big_quiet_on)
  go_big_quiet_want
  go_big_quiet_op
  first | go_big_quiet_on | (refine ⟨_, fun _ _ => rfl, ?_⟩; go_big_quiet_on)
  go_big_quiet_want
  go_big_quiet_op
  first | go_big_quiet_on | (refine ⟨_, fun _ _ => rfl, ?_⟩; go_big_quiet_on)
  go_big_quiet_want
  go_big_quiet_op
  first | go_big_quiet_on | (refine ⟨_, fun _ _ => rfl, ?_⟩; go_big_quiet_on)
  go_big_quiet_want
  refine quiet_run (v := .string m.ho) (fun v hv => by obtain ⟨⟨rs, ty, hh, ge, ap, ho, ke, nk, ot, mt, ig, ma⟩, d0⟩ := HL.out v hv; go_simp) ?_
  simp only [Act.put, List.setIfInBounds_toArray, List.set_cons_zero, List.set_cons_succ]
  go_big_quiet_on
  go_big_quiet_want
  refine quiet_call (f := 28) (args := #[tlV A c t, .string m.ho]) (fun v _ => by go_simp) (fun v hv => (HO.out v hv).mono (fun e w' h => ⟨h.1, HCm.out v w' hv h.2⟩)) ?_
  simp only [Act.put, List.setIfInBounds_toArray, List.set_cons_zero, List.set_cons_succ]
  go_big_quiet_on
  go_big_quiet_want
  go_big_quiet_op
  first | go_big_quiet_on | (refine ⟨_, fun _ _ => rfl, ?_⟩; go_big_quiet_on)
  go_big_quiet_want
  go_big_quiet_op
  first | go_big_quiet_on | (refine ⟨_, fun _ _ => rfl, ?_⟩; go_big_quiet_on)

  intro w9 hC9
  have H9 := Lib.hid (H2.out.below (HCi.out w9 hC9)); have HB9 := Lib.hid (HB2.out.trans ((HCi.out w9 hC9).mono H2.out.lt))
  clear hC9
  go_wp2_with (fail)
  go_ret
  exact ⟨rfl, A, c, B, e, H9.out, HB9.out⟩
theorem resv_any (w : World) (n0 p : Nat) (A : Option Addr) (c : Nat) (t : Tl) (m : Cm) (B : Option Addr) (e : Nat) (es : List Ev) (h : Chg w n0 p A c t m B e es) (hm : t.rs.length ≤ 1000) (hs : m.ho.size ≤ 1000) (hrt : ∀ v, Below n0 w v → RTab v) :
    Calls Tryd.prog 56 #[.pointer (some ⟨p, 0, none⟩)] w fun e w' => e = .returned (.int .i64 (resvCode t m)) ∧ WrO n0 p (resvT t m) m es w w' := by
  cases ht : typeB m.ty with
  | false =>
    rw [show resvCode t m = 5 by unfold resvCode; rw [if_pos ht], show resvT t m = t by unfold resvT; rw [if_pos ht]]
    exact resv_type w n0 p A c t m B e es h ht
  | true =>
    have nt : ¬ typeB m.ty = false := by rw [ht]; decide
    cases hg : regdB t m with
    | false =>
      rw [show resvCode t m = 2 by unfold resvCode; rw [if_neg nt, if_pos hg], show resvT t m = t by unfold resvT; rw [if_neg nt, if_pos hg]]
      exact resv_unreg w n0 p A c t m B e es h hm ht hg
    | true =>
      have ng : ¬ regdB t m = false := by rw [hg]; decide
      cases hz : (t.ty == 0) with
      | true =>
        rw [show resvCode t m = 1 by unfold resvCode; rw [if_neg nt, if_neg ng, if_pos (eqB hz)], show resvT t m = holdT t m by unfold resvT; rw [if_neg nt, if_neg ng, if_pos (eqB hz)]]
        exact resv_free w n0 p A c t m B e es h hm hs ht hg hz
      | false =>
        rw [show resvT t m = t by unfold resvT; rw [if_neg nt, if_neg ng, if_neg (neB hz)]]
        have e0 : resvCode t m = if (t.ty == m.ty && holdsB t m.ho) = true then 1 else 2 := by unfold resvCode; rw [if_neg nt, if_neg ng, if_neg (neB hz)]
        rw [e0]
        cases hq : (t.ty == m.ty) with
        | false => exact resv_other w n0 p A c t m B e es h hm ht hg hz hq
        | true =>
          cases hh : holdsB t m.ho with
          | true => exact resv_same w n0 p A c t m B e es h hm hrt ht hg hz hq hh
          | false => exact resv_held w n0 p A c t m B e es h hm hrt ht hg hz hq hh
end Go.Proofs.YtgekadfkokkapaaDoor
