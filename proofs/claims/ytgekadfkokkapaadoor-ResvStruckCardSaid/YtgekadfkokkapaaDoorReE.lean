/- A change's readers: is the reservation taken over. -/
import Derived.Test.YtgekadfkokkapaaDoorReD
namespace Go.Proofs.YtgekadfkokkapaaDoor
open Go.RowKit
def takesB (t : Tl) (m : Cm) : Bool := if t.ty = 0 then false else if shB t.ty then decide (m.ot = 0) else decide (keyR t.rs t.ho = m.ot)
abbrev hoC (t : Tl) : Array Value := #[.int .i64 t.ty, .string t.ho]
theorem ho_box {w : World} {p : Nat} {A : Option Addr} {c : Nat} {t : Tl} {m : Cm} {B : Option Addr} {e : Nat} {es : List Ev} (h : ChAt w p A c t m B e es) : ∀ v, v = w.alloc (.cells (hoC t) 24) → Blk v w.heap.size 24 (hoC t) ∧ ChAt v p A c t m B e es ∧ Below w.heap.size w v := by
  rintro v rfl
  have hb := (Below.refl w.heap.size w).alloc (Nat.le_refl _) (.cells (hoC t) 24)
  exact ⟨Blk.new w _ _, h.below hb, hb⟩
set_option maxHeartbeats 1000000 in
theorem takes_zero (w : World) (p : Nat) (A : Option Addr) (c : Nat) (t : Tl) (m : Cm) (B : Option Addr) (e : Nat) (es : List Ev) (h : ChAt w p A c t m B e es) (hn : (t.ty == 0) = true) :
    Calls Tryd.prog 75 #[.pointer (some ⟨p, 0, none⟩)] w fun e w' => e = .returned (.bool false) ∧ Below w.heap.size w w' := by
  have hr := h.r
  have c1 := hr.ty
  have c2 := hr.hh
  obtain ⟨h1, h2, h3⟩ := ho_box h _ rfl
  have HX := Lib.hid h1; have HCH := Lib.hid h2; have HB := Lib.hid h3
  clear h1 h2 h3 h hr
  go_enter Tryd.func75, Tryd.ntmps75
  go_upto_region 2 with (fail)
  change Code.wp _ _ _ _ (w.alloc (.cells (hoC t) 24))
  generalize w.alloc (.cells (hoC t) 24) = w0 at *
  clear c1 c2
  have c0 : w0.cell? ⟨w.heap.size, 0, none⟩ = some (.int .i64 t.ty) := HX.out.cell 0
  have c9 : w0.cell? ⟨w.heap.size, 1, none⟩ = some (.string t.ho) := HX.out.cell 1
  go_wp2_with (fail)
  go_ret
  exact ⟨rfl, HB.out⟩
set_option maxHeartbeats 1000000 in
theorem takes_sh (w : World) (p : Nat) (A : Option Addr) (c : Nat) (t : Tl) (m : Cm) (B : Option Addr) (e : Nat) (es : List Ev) (h : ChAt w p A c t m B e es) (hn : (t.ty == 0) = false) (hs : shB t.ty = true) :
    Calls Tryd.prog 75 #[.pointer (some ⟨p, 0, none⟩)] w fun e w' => e = .returned (.bool (m.ot == 0)) ∧ Below w.heap.size w w' := by
  have hr := h.r
  have c1 := hr.ty
  have c2 := hr.hh
  obtain ⟨h1, h2, h3⟩ := ho_box h _ rfl
  have HX := Lib.hid h1; have HCH := Lib.hid h2; have HB := Lib.hid h3
  clear h1 h2 h3 h hr
  have HS := Lib.hid (fun v => shared_any t.ty v)
  rw [hs] at HS
  go_enter Tryd.func75, Tryd.ntmps75
  go_upto_region 2 with (fail)
  change Code.wp _ _ _ _ (w.alloc (.cells (hoC t) 24))
  generalize w.alloc (.cells (hoC t) 24) = w0 at *
  clear c1 c2
  have c0 : w0.cell? ⟨w.heap.size, 0, none⟩ = some (.int .i64 t.ty) := HX.out.cell 0
  have c9 : w0.cell? ⟨w.heap.size, 1, none⟩ = some (.string t.ho) := HX.out.cell 1
  have c15 := HCH.out.r.ot
  go_wp2_with (fail)
  refine (HS.out _).mono ?_; rintro e w1 ⟨rfl, rfl⟩
  go_wp2_with (fail)
  go_ret
  exact ⟨rfl, HB.out⟩
set_option maxHeartbeats 1000000 in
theorem takes_one (w : World) (p : Nat) (A : Option Addr) (c : Nat) (t : Tl) (m : Cm) (B : Option Addr) (e : Nat) (es : List Ev) (h : ChAt w p A c t m B e es) (hn : (t.ty == 0) = false) (hs : shB t.ty = false) (hm : t.rs.length ≤ maxLen) :
    Calls Tryd.prog 75 #[.pointer (some ⟨p, 0, none⟩)] w fun e w' => e = .returned (.bool (keyR t.rs t.ho == m.ot)) ∧ Below w.heap.size w w' := by
  have hr := h.r
  have c1 := hr.ty
  have c2 := hr.hh
  obtain ⟨h1, h2, h3⟩ := ho_box h _ rfl
  have HX := Lib.hid h1; have HCH := Lib.hid h2; have HB := Lib.hid h3
  clear h1 h2 h3 h hr
  have HS := Lib.hid (fun v => shared_any t.ty v)
  rw [hs] at HS
  go_enter Tryd.func75, Tryd.ntmps75
  go_upto_region 2 with (fail)
  change Code.wp _ _ _ _ (w.alloc (.cells (hoC t) 24))
  generalize w.alloc (.cells (hoC t) 24) = w0 at *
  clear c1 c2
  have c0 : w0.cell? ⟨w.heap.size, 0, none⟩ = some (.int .i64 t.ty) := HX.out.cell 0
  have c9 : w0.cell? ⟨w.heap.size, 1, none⟩ = some (.string t.ho) := HX.out.cell 1
  go_wp2_with (fail)
  refine (HS.out _).mono ?_; rintro e w1 ⟨rfl, rfl⟩
  go_upto_region 6 with (fail)
  obtain ⟨C, hC0, hCl, hCi, hCm⟩ := class_of w0 (fun v => ChR v p A c t m ∧ v.cell? ⟨w.heap.size, 1, none⟩ = some (.string t.ho)) (fun v hb => ⟨(HCH.out.below hb).r, (HX.out.below hb HX.out.lt).cell 1⟩)
  have HC0 := Lib.hid hC0; have HL := Lib.hid hCl; have HCi := Lib.hid hCi; have HCm := Lib.hid hCm
  clear hC0 hCl hCi hCm
  have HK := Lib.hid (fun v (hv : C v) => key_any A c t t.ho v (HCH.out.below (HCi.out v hv)).rgs hm)
  clear c0 c9
  refine wp_region_class C (by kernel_rfl) (by kernel_rfl) HC0.out ?_
  go_big_quiet_want
  go_big_quiet_op
  first | go_big_quiet_on | (refine ⟨_, fun _ _ => rfl, ?_⟩; go_big_quiet_on)
  go_big_quiet_want
  go_big_quiet_op
  first | go_big_quiet_on | (refine ⟨_, fun _ _ => rfl, ?_⟩; go_big_quiet_on)
  go_big_quiet_want
  go_big_quiet_op
  first | go_big_quiet_on | (refine ⟨_, fun _ _ => rfl, ?_⟩; go_big_quiet_on)
  go_big_quiet_want
  refine quiet_run (v := tlV A c t) (fun v hv => by obtain ⟨⟨rs, ty, hh, ge, ap, ho, ke, nk, ot, mt, ig, ma⟩, c9⟩ := HL.out v hv; go_simp) ?_
  simp only [Act.put, List.setIfInBounds_toArray, List.set_cons_zero, List.set_cons_succ]
  go_big_quiet_on
  go_big_quiet_want
  go_big_quiet_op
  first | go_big_quiet_on | (refine ⟨_, fun _ _ => rfl, ?_⟩; go_big_quiet_on)
  go_big_quiet_want
  refine quiet_run (v := .string t.ho) (fun v hv => by obtain ⟨⟨rs, ty, hh, ge, ap, ho, ke, nk, ot, mt, ig, ma⟩, c9⟩ := HL.out v hv; go_simp) ?_
  simp only [Act.put, List.setIfInBounds_toArray, List.set_cons_zero, List.set_cons_succ]
  go_big_quiet_on
  go_big_quiet_want
  refine quiet_call (f := 16) (args := #[tlV A c t, .string t.ho]) (fun v _ => by go_simp) (fun v hv => (HK.out v hv).mono (fun e w' h => ⟨h.1, HCm.out v w' hv h.2⟩)) ?_
  simp only [Act.put, List.setIfInBounds_toArray, List.set_cons_zero, List.set_cons_succ]
  go_big_quiet_on
  go_big_quiet_want
  go_big_quiet_op
  first | go_big_quiet_on | (refine ⟨_, fun _ _ => rfl, ?_⟩; go_big_quiet_on)
  go_big_quiet_want
  go_big_quiet_op
  first | go_big_quiet_on | (refine ⟨_, fun _ _ => rfl, ?_⟩; go_big_quiet_on)
  go_big_quiet_want
  go_big_quiet_op
  first | go_big_quiet_on | (refine ⟨_, fun _ _ => rfl, ?_⟩; go_big_quiet_on)
  go_big_quiet_want
  go_big_quiet_op
  first | go_big_quiet_on | (refine ⟨_, fun _ _ => rfl, ?_⟩; go_big_quiet_on)
  go_big_quiet_want
  refine quiet_run (v := .int .u64 m.ot) (fun v hv => by obtain ⟨⟨rs, ty, hh, ge, ap, ho, ke, nk, ot, mt, ig, ma⟩, c9⟩ := HL.out v hv; go_simp) ?_
  simp only [Act.put, List.setIfInBounds_toArray, List.set_cons_zero, List.set_cons_succ]
  go_big_quiet_on
  go_big_quiet_want
  refine quiet_run (v := .bool (keyR t.rs t.ho == m.ot)) (fun v hv => by rfl) ?_
  simp only [Act.put, List.setIfInBounds_toArray, List.set_cons_zero, List.set_cons_succ]
  go_big_quiet_on
  go_big_quiet_want
  go_big_quiet_op
  first | go_big_quiet_on | (refine ⟨_, fun _ _ => rfl, ?_⟩; go_big_quiet_on)

  intro w9 hC9
  have HB9 := Lib.hid (HB.out.trans ((HCi.out w9 hC9).mono HB.out.size))
  clear hC9
  go_wp2_with (fail)
  go_ret
  exact ⟨rfl, HB9.out⟩
theorem takes_any (w : World) (p : Nat) (A : Option Addr) (c : Nat) (t : Tl) (m : Cm) (B : Option Addr) (e : Nat) (es : List Ev) (h : ChAt w p A c t m B e es) (hm : t.rs.length ≤ maxLen) :
    Calls Tryd.prog 75 #[.pointer (some ⟨p, 0, none⟩)] w fun e w' => e = .returned (.bool (takesB t m)) ∧ Below w.heap.size w w' := by
  cases hn : (t.ty == 0) with
  | true =>
    rw [show takesB t m = false by unfold takesB; rw [if_pos (eqB hn)]]
    exact takes_zero w p A c t m B e es h hn
  | false =>
    cases hs : shB t.ty with
    | true =>
      rw [show takesB t m = (m.ot == 0) by unfold takesB; rw [if_neg (neB hn), if_pos hs, int_beq]]
      exact takes_sh w p A c t m B e es h hn hs
    | false =>
      rw [show takesB t m = (keyR t.rs t.ho == m.ot) by unfold takesB; rw [if_neg (neB hn), if_neg (by rw [hs]; decide), int_beq]]
      exact takes_one w p A c t m B e es h hn hs hm
end Go.Proofs.YtgekadfkokkapaaDoor
