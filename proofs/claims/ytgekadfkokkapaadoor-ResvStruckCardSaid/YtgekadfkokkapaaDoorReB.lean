/- A change's readers: who is another one, who is taken away. -/
import Derived.Test.YtgekadfkokkapaaDoorReA
namespace Go.Proofs.YtgekadfkokkapaaDoor
open Go.RowKit
abbrev regC (x : Rg) : Array Value := #[.string x.h, .int .u64 x.k]
/-- The box of a registration that came in by value. -/
theorem rg_box (w : World) (x : Rg) : ∀ v, v = w.alloc (.cells (regC x) 57) → Blk v w.heap.size 57 (regC x) ∧ Below w.heap.size w v ∧ v.heap.size = w.heap.size + 1 := by
  rintro v rfl
  exact ⟨Blk.new w _ _, (Below.refl w.heap.size w).alloc (Nat.le_refl _) _, by simp⟩
/-- The cells that the readers load. -/
structure ChR (w : World) (p : Nat) (A : Option Addr) (c : Nat) (t : Tl) (m : Cm) : Prop where
  rs : w.cell? ⟨p, 0, none⟩ = some (.slice A t.rs.length c)
  ty : w.cell? ⟨p, 1, none⟩ = some (.int .i64 t.ty)
  hh : w.cell? ⟨p, 2, none⟩ = some (.string t.ho)
  ge : w.cell? ⟨p, 3, none⟩ = some (.int .u32 t.ge)
  ap : w.cell? ⟨p, 4, none⟩ = some (.bool t.ap)
  ho : w.cell? ⟨p, 7, none⟩ = some (.string m.ho)
  ke : w.cell? ⟨p, 13, none⟩ = some (.int .u64 m.ke)
  nk : w.cell? ⟨p, 14, none⟩ = some (.int .u64 m.nk)
  ot : w.cell? ⟨p, 15, none⟩ = some (.int .u64 m.ot)
  mt : w.cell? ⟨p, 16, none⟩ = some (.int .i64 m.ty)
  ig : w.cell? ⟨p, 17, none⟩ = some (.bool m.ig)
  ma : w.cell? ⟨p, 18, none⟩ = some (.int .i64 m.ap)
theorem ChAt.r {w : World} {p : Nat} {A : Option Addr} {c : Nat} {t : Tl} {m : Cm} {B : Option Addr} {e : Nat} {es : List Ev} (h : ChAt w p A c t m B e es) : ChR w p A c t m :=
  ⟨h.blk.cell 0, h.blk.cell 1, h.blk.cell 2, h.blk.cell 3, h.blk.cell 4, h.blk.cell 7, h.blk.cell 13, h.blk.cell 14, h.blk.cell 15, h.blk.cell 16, h.blk.cell 17, h.blk.cell 18⟩
section
variable {w : World} {p : Nat} {A : Option Addr} {c : Nat} {t : Tl} {m : Cm} {B : Option Addr} {e : Nat} {es : List Ev}
theorem ChAt.rb {v : World} (h : ChAt w p A c t m B e es) (hb : Below w.heap.size w v) : ChR v p A c t m := (h.below hb).r
end
set_option maxHeartbeats 1000000 in
theorem isOther_any (x : Rg) (w : World) (p : Nat) (A : Option Addr) (c : Nat) (t : Tl) (m : Cm) (B : Option Addr) (e : Nat) (es : List Ev) (h : ChAt w p A c t m B e es) :
    Calls Tryd.prog 74 #[.pointer (some ⟨p, 0, none⟩), rgV x] w fun e w' => e = .returned (.bool (isO m x)) ∧ Below w.heap.size w w' := by
  obtain ⟨h1, h2, h3⟩ := rg_box w x _ rfl
  have HX := Lib.hid h1; have HB := Lib.hid h2
  have HR := Lib.hid (h.rb h2)
  have he := neS x.h m.ho
  have hq : (!eqS x.h m.ho) = isO m x := rfl
  rw [hq] at he
  generalize isO m x = r at he
  clear h1 h2 h3 hq h
  go_enter Tryd.func74, Tryd.ntmps74
  go_upto_region 1 with (fail)
  change Code.wp _ _ _ _ (w.alloc (.cells (regC x) 57))
  generalize w.alloc (.cells (regC x) 57) = w0 at *
  have c0 : w0.cell? ⟨w.heap.size, 0, none⟩ = some (.string x.h) := HX.out.cell 0
  have c7 := HR.out.ho
  go_quiet (fail)
  go_wp2_with (fail)
  go_ret
  exact ⟨by rw [← he]; rfl, below_drewN HB.out _⟩
set_option maxHeartbeats 1000000 in
theorem all_any (w : World) (p : Nat) (A : Option Addr) (c : Nat) (t : Tl) (m : Cm) (B : Option Addr) (e : Nat) (es : List Ev) (h : ChAt w p A c t m B e es) :
    Calls Tryd.prog 81 #[.pointer (some ⟨p, 0, none⟩)] w fun e w' => e = .returned (.bool (allB t m)) ∧ w = w' := by
  have hr := h.r
  have c1 := hr.ty
  have c15 := hr.ot
  have hf : allB t m = (decide (m.ot = 0) && shB t.ty) := rfl
  have HS := Lib.hid (fun v => shared_any t.ty v)
  generalize allB t m = r at hf
  clear h hr
  cases e1 : (m.ot == 0) with
  | true =>
    rw [(int_beq m.ot 0).symm.trans e1, Bool.true_and] at hf
    rw [← hf] at HS
    clear hf
    go_enter Tryd.func81, Tryd.ntmps81
    go_wp2_with (fail)
    refine (HS.out _).mono ?_; rintro e w1 ⟨rfl, rfl⟩
    go_wp2_with (fail)
    go_ret
    exact ⟨rfl, rfl⟩
  | false =>
    rw [(int_beq m.ot 0).symm.trans e1, Bool.false_and] at hf
    subst hf
    go_enter Tryd.func81, Tryd.ntmps81
    go_wp2_with (fail)
    go_ret
    exact ⟨rfl, rfl⟩
set_option maxHeartbeats 1000000 in
theorem removes_same (x : Rg) (w : World) (p : Nat) (A : Option Addr) (c : Nat) (t : Tl) (m : Cm) (B : Option Addr) (e : Nat) (es : List Ev) (h : ChAt w p A c t m B e es) (he : eqS x.h m.ho = true) :
    Calls Tryd.prog 77 #[.pointer (some ⟨p, 0, none⟩), rgV x] w fun e w' => e = .returned (.bool false) ∧ Below w.heap.size w w' := by
  obtain ⟨h1, h2, h3⟩ := rg_box w x _ rfl
  have HX := Lib.hid h1; have HB := Lib.hid h2; have HS := Lib.hid h3
  have HR := Lib.hid (h.below h2)
  have HE := Lib.hid (show isO m x = false by show (!eqS x.h m.ho) = false; rw [he]; rfl)
  clear he
  clear h1 h2 h3 h
  go_enter Tryd.func77, Tryd.ntmps77
  go_upto_region 1 with (fail)
  change Code.wp _ _ _ _ (w.alloc (.cells (regC x) 57))
  generalize w.alloc (.cells (regC x) 57) = w0 at *
  obtain ⟨C, hC0, hCl, hCi, hCm⟩ := class_of w0 (fun v => v.cell? ⟨w.heap.size, 0, none⟩ = some (.string x.h) ∧ v.cell? ⟨w.heap.size, 1, none⟩ = some (.int .u64 x.k) ∧ v.cell? ⟨p, 7, none⟩ = some (.string m.ho) ∧ v.cell? ⟨p, 15, none⟩ = some (.int .u64 m.ot)) (fun v hb => ⟨(HX.out.below hb HX.out.lt).cell 0, (HX.out.below hb HX.out.lt).cell 1, (HR.out.rb hb).ho, (HR.out.rb hb).ot⟩)
  have HC0 := Lib.hid hC0; have HL := Lib.hid hCl; have HCi := Lib.hid hCi; have HCm := Lib.hid hCm
  clear hC0 hCl hCi hCm
  have HO := Lib.hid (fun v (hv : C v) => isOther_any x v p A c t m B e es (HR.out.below (HCi.out v hv)))
  rw [HE.out] at HO
  refine wp_region_class C (by kernel_rfl) (by kernel_rfl) HC0.out ?_
  go_big_quiet_want
  go_big_quiet_op
  first | go_big_quiet_on | (refine ⟨_, fun _ _ => rfl, ?_⟩; go_big_quiet_on)
  go_big_quiet_want
  refine quiet_run (v := rgV x) (fun v hv => by obtain ⟨c0, c1, c7, c15⟩ := HL.out v hv; go_simp) ?_
  simp only [Act.put, List.setIfInBounds_toArray, List.set_cons_zero, List.set_cons_succ]
  go_big_quiet_on
  go_big_quiet_want
  refine quiet_call (f := 74) (args := #[.pointer (some ⟨p, 0, none⟩), rgV x]) (fun v _ => by go_simp) (fun v hv => (HO.out v hv).mono (fun e w' h => ⟨h.1, HCm.out v w' hv h.2⟩)) ?_
  simp only [Act.put, List.setIfInBounds_toArray, List.set_cons_zero, List.set_cons_succ]
  go_big_quiet_on
  go_big_quiet_want
  go_big_quiet_op
  first | go_big_quiet_on | (refine ⟨_, fun _ _ => rfl, ?_⟩; go_big_quiet_on)
  go_big_quiet_skip
  go_big_quiet_skip
  go_big_quiet_skip
  go_big_quiet_skip
  go_big_quiet_skip
  go_big_quiet_skip
  go_big_quiet_skip
  go_big_quiet_skip
  go_big_quiet_skip
  go_big_quiet_skip
  go_big_quiet_skip
  go_big_quiet_skip
  go_big_quiet_want
  go_big_quiet_op
  first | go_big_quiet_on | (refine ⟨_, fun _ _ => rfl, ?_⟩; go_big_quiet_on)
  go_big_quiet_want
  go_big_quiet_op
  first | go_big_quiet_on | (refine ⟨_, fun _ _ => rfl, ?_⟩; go_big_quiet_on)

  intro w9 hC9
  have HB9 := Lib.hid (HB.out.trans ((HCi.out w9 hC9).mono HB.out.size))
  clear hC9
  go_wp2_with (fail)
  go_ret
  exact ⟨rfl, HB9.out⟩
set_option maxHeartbeats 1000000 in
theorem removes_key (x : Rg) (w : World) (p : Nat) (A : Option Addr) (c : Nat) (t : Tl) (m : Cm) (B : Option Addr) (e : Nat) (es : List Ev) (h : ChAt w p A c t m B e es) (he : eqS x.h m.ho = false) (hk : (x.k == m.ot) = true) :
    Calls Tryd.prog 77 #[.pointer (some ⟨p, 0, none⟩), rgV x] w fun e w' => e = .returned (.bool true) ∧ Below w.heap.size w w' := by
  obtain ⟨h1, h2, h3⟩ := rg_box w x _ rfl
  have HX := Lib.hid h1; have HB := Lib.hid h2; have HS := Lib.hid h3
  have HR := Lib.hid (h.below h2)
  have HE := Lib.hid (show isO m x = true by show (!eqS x.h m.ho) = true; rw [he]; rfl)
  have HK := Lib.hid hk
  clear he hk
  clear h1 h2 h3 h
  go_enter Tryd.func77, Tryd.ntmps77
  go_upto_region 1 with (fail)
  change Code.wp _ _ _ _ (w.alloc (.cells (regC x) 57))
  generalize w.alloc (.cells (regC x) 57) = w0 at *
  obtain ⟨C, hC0, hCl, hCi, hCm⟩ := class_of w0 (fun v => v.cell? ⟨w.heap.size, 0, none⟩ = some (.string x.h) ∧ v.cell? ⟨w.heap.size, 1, none⟩ = some (.int .u64 x.k) ∧ v.cell? ⟨p, 7, none⟩ = some (.string m.ho) ∧ v.cell? ⟨p, 15, none⟩ = some (.int .u64 m.ot)) (fun v hb => ⟨(HX.out.below hb HX.out.lt).cell 0, (HX.out.below hb HX.out.lt).cell 1, (HR.out.rb hb).ho, (HR.out.rb hb).ot⟩)
  have HC0 := Lib.hid hC0; have HL := Lib.hid hCl; have HCi := Lib.hid hCi; have HCm := Lib.hid hCm
  clear hC0 hCl hCi hCm
  have HO := Lib.hid (fun v (hv : C v) => isOther_any x v p A c t m B e es (HR.out.below (HCi.out v hv)))
  rw [HE.out] at HO
  refine wp_region_class C (by kernel_rfl) (by kernel_rfl) HC0.out ?_
  go_big_quiet_want
  go_big_quiet_op
  first | go_big_quiet_on | (refine ⟨_, fun _ _ => rfl, ?_⟩; go_big_quiet_on)
  go_big_quiet_want
  refine quiet_run (v := rgV x) (fun v hv => by obtain ⟨c0, c1, c7, c15⟩ := HL.out v hv; go_simp) ?_
  simp only [Act.put, List.setIfInBounds_toArray, List.set_cons_zero, List.set_cons_succ]
  go_big_quiet_on
  go_big_quiet_want
  refine quiet_call (f := 74) (args := #[.pointer (some ⟨p, 0, none⟩), rgV x]) (fun v _ => by go_simp) (fun v hv => (HO.out v hv).mono (fun e w' h => ⟨h.1, HCm.out v w' hv h.2⟩)) ?_
  simp only [Act.put, List.setIfInBounds_toArray, List.set_cons_zero, List.set_cons_succ]
  go_big_quiet_on
  go_big_quiet_want
  go_big_quiet_op
  first | go_big_quiet_on | (refine ⟨_, fun _ _ => rfl, ?_⟩; go_big_quiet_on)
  go_big_quiet_want
  go_big_quiet_op
  first | go_big_quiet_on | (refine ⟨_, fun _ _ => rfl, ?_⟩; go_big_quiet_on)
  go_big_quiet_want
  refine quiet_run (v := .int .u64 x.k) (fun v hv => by obtain ⟨c0, c1, c7, c15⟩ := HL.out v hv; go_simp) ?_
  simp only [Act.put, List.setIfInBounds_toArray, List.set_cons_zero, List.set_cons_succ]
  go_big_quiet_on
  go_big_quiet_want
  go_big_quiet_op
  first | go_big_quiet_on | (refine ⟨_, fun _ _ => rfl, ?_⟩; go_big_quiet_on)
  go_big_quiet_want
  go_big_quiet_op
  first | go_big_quiet_on | (refine ⟨_, fun _ _ => rfl, ?_⟩; go_big_quiet_on)
  go_big_quiet_want
  go_big_quiet_op
  first | go_big_quiet_on | (refine ⟨_, fun _ _ => rfl, ?_⟩; go_big_quiet_on)
  go_big_quiet_want
  go_big_quiet_op
  first | go_big_quiet_on | (refine ⟨_, fun _ _ => rfl, ?_⟩; go_big_quiet_on)
  go_big_quiet_want
  refine quiet_run (v := .int .u64 m.ot) (fun v hv => by obtain ⟨c0, c1, c7, c15⟩ := HL.out v hv; go_simp) ?_
  simp only [Act.put, List.setIfInBounds_toArray, List.set_cons_zero, List.set_cons_succ]
  go_big_quiet_on
  go_big_quiet_want
  refine quiet_run (v := .bool true) (fun v hv => by have := HK.out; go_simp) ?_
  simp only [Act.put, List.setIfInBounds_toArray, List.set_cons_zero, List.set_cons_succ]
  go_big_quiet_on
  go_big_quiet_want
  go_big_quiet_op
  first | go_big_quiet_on | (refine ⟨_, fun _ _ => rfl, ?_⟩; go_big_quiet_on)
  go_big_quiet_skip
  go_big_quiet_skip
  go_big_quiet_want
  go_big_quiet_op
  first | go_big_quiet_on | (refine ⟨_, fun _ _ => rfl, ?_⟩; go_big_quiet_on)
  go_big_quiet_want
  go_big_quiet_op
  first | go_big_quiet_on | (refine ⟨_, fun _ _ => rfl, ?_⟩; go_big_quiet_on)
  go_big_quiet_want
  go_big_quiet_op
  first | go_big_quiet_on | (refine ⟨_, fun _ _ => rfl, ?_⟩; go_big_quiet_on)

  intro w9 hC9
  have HB9 := Lib.hid (HB.out.trans ((HCi.out w9 hC9).mono HB.out.size))
  clear hC9
  go_wp2_with (fail)
  go_ret
  exact ⟨rfl, HB9.out⟩
set_option maxHeartbeats 1000000 in
theorem removes_else (x : Rg) (w : World) (p : Nat) (A : Option Addr) (c : Nat) (t : Tl) (m : Cm) (B : Option Addr) (e : Nat) (es : List Ev) (h : ChAt w p A c t m B e es) (he : eqS x.h m.ho = false) (hk : (x.k == m.ot) = false) :
    Calls Tryd.prog 77 #[.pointer (some ⟨p, 0, none⟩), rgV x] w fun e w' => e = .returned (.bool (allB t m)) ∧ Below w.heap.size w w' := by
  obtain ⟨h1, h2, h3⟩ := rg_box w x _ rfl
  have HX := Lib.hid h1; have HB := Lib.hid h2; have HS := Lib.hid h3
  have HR := Lib.hid (h.below h2)
  have HE := Lib.hid (show isO m x = true by show (!eqS x.h m.ho) = true; rw [he]; rfl)
  have HK := Lib.hid hk
  clear he hk
  clear h1 h2 h3 h
  go_enter Tryd.func77, Tryd.ntmps77
  go_upto_region 1 with (fail)
  change Code.wp _ _ _ _ (w.alloc (.cells (regC x) 57))
  generalize w.alloc (.cells (regC x) 57) = w0 at *
  obtain ⟨C, hC0, hCl, hCi, hCm⟩ := class_of w0 (fun v => v.cell? ⟨w.heap.size, 0, none⟩ = some (.string x.h) ∧ v.cell? ⟨w.heap.size, 1, none⟩ = some (.int .u64 x.k) ∧ v.cell? ⟨p, 7, none⟩ = some (.string m.ho) ∧ v.cell? ⟨p, 15, none⟩ = some (.int .u64 m.ot)) (fun v hb => ⟨(HX.out.below hb HX.out.lt).cell 0, (HX.out.below hb HX.out.lt).cell 1, (HR.out.rb hb).ho, (HR.out.rb hb).ot⟩)
  have HC0 := Lib.hid hC0; have HL := Lib.hid hCl; have HCi := Lib.hid hCi; have HCm := Lib.hid hCm
  clear hC0 hCl hCi hCm
  have HO := Lib.hid (fun v (hv : C v) => isOther_any x v p A c t m B e es (HR.out.below (HCi.out v hv)))
  rw [HE.out] at HO
  have HA := Lib.hid (fun v (hv : C v) => all_any v p A c t m B e es (HR.out.below (HCi.out v hv)))
  obtain ⟨r, hr⟩ : ∃ r, allB t m = r := ⟨_, rfl⟩
  rw [hr] at HA
  have HRR := Lib.hid hr
  clear hr
  refine wp_region_class C (by kernel_rfl) (by kernel_rfl) HC0.out ?_
  go_big_quiet_want
  go_big_quiet_op
  first | go_big_quiet_on | (refine ⟨_, fun _ _ => rfl, ?_⟩; go_big_quiet_on)
  go_big_quiet_want
  refine quiet_run (v := rgV x) (fun v hv => by obtain ⟨c0, c1, c7, c15⟩ := HL.out v hv; go_simp) ?_
  simp only [Act.put, List.setIfInBounds_toArray, List.set_cons_zero, List.set_cons_succ]
  go_big_quiet_on
  go_big_quiet_want
  refine quiet_call (f := 74) (args := #[.pointer (some ⟨p, 0, none⟩), rgV x]) (fun v _ => by go_simp) (fun v hv => (HO.out v hv).mono (fun e w' h => ⟨h.1, HCm.out v w' hv h.2⟩)) ?_
  simp only [Act.put, List.setIfInBounds_toArray, List.set_cons_zero, List.set_cons_succ]
  go_big_quiet_on
  go_big_quiet_want
  go_big_quiet_op
  first | go_big_quiet_on | (refine ⟨_, fun _ _ => rfl, ?_⟩; go_big_quiet_on)
  go_big_quiet_want
  go_big_quiet_op
  first | go_big_quiet_on | (refine ⟨_, fun _ _ => rfl, ?_⟩; go_big_quiet_on)
  go_big_quiet_want
  refine quiet_run (v := .int .u64 x.k) (fun v hv => by obtain ⟨c0, c1, c7, c15⟩ := HL.out v hv; go_simp) ?_
  simp only [Act.put, List.setIfInBounds_toArray, List.set_cons_zero, List.set_cons_succ]
  go_big_quiet_on
  go_big_quiet_want
  go_big_quiet_op
  first | go_big_quiet_on | (refine ⟨_, fun _ _ => rfl, ?_⟩; go_big_quiet_on)
  go_big_quiet_want
  go_big_quiet_op
  first | go_big_quiet_on | (refine ⟨_, fun _ _ => rfl, ?_⟩; go_big_quiet_on)
  go_big_quiet_want
  go_big_quiet_op
  first | go_big_quiet_on | (refine ⟨_, fun _ _ => rfl, ?_⟩; go_big_quiet_on)
  go_big_quiet_want
  go_big_quiet_op
  first | go_big_quiet_on | (refine ⟨_, fun _ _ => rfl, ?_⟩; go_big_quiet_on)
  go_big_quiet_want
  refine quiet_run (v := .int .u64 m.ot) (fun v hv => by obtain ⟨c0, c1, c7, c15⟩ := HL.out v hv; go_simp) ?_
  simp only [Act.put, List.setIfInBounds_toArray, List.set_cons_zero, List.set_cons_succ]
  go_big_quiet_on
  go_big_quiet_want
  refine quiet_run (v := .bool false) (fun v hv => by have := HK.out; go_simp) ?_
  simp only [Act.put, List.setIfInBounds_toArray, List.set_cons_zero, List.set_cons_succ]
  go_big_quiet_on
  go_big_quiet_want
  go_big_quiet_op
  first | go_big_quiet_on | (refine ⟨_, fun _ _ => rfl, ?_⟩; go_big_quiet_on)
  go_big_quiet_want
  go_big_quiet_op
  first | go_big_quiet_on | (refine ⟨_, fun _ _ => rfl, ?_⟩; go_big_quiet_on)
  go_big_quiet_want
  refine quiet_call (f := 81) (args := #[.pointer (some ⟨p, 0, none⟩)]) (fun v _ => by go_simp) (fun v hv => (HA.out v hv).mono (fun e w' h => ⟨h.1, h.2 ▸ hv⟩)) ?_
  simp only [Act.put, List.setIfInBounds_toArray, List.set_cons_zero, List.set_cons_succ]
  go_big_quiet_on
  go_big_quiet_want
  go_big_quiet_op
  first | go_big_quiet_on | (refine ⟨_, fun _ _ => rfl, ?_⟩; go_big_quiet_on)
  go_big_quiet_want
  go_big_quiet_op
  first | go_big_quiet_on | (refine ⟨_, fun _ _ => rfl, ?_⟩; go_big_quiet_on)
  go_big_quiet_want
  go_big_quiet_op
  first | go_big_quiet_on | (refine ⟨_, fun _ _ => rfl, ?_⟩; go_big_quiet_on)

  intro w9 hC9
  have HB9 := Lib.hid (HB.out.trans ((HCi.out w9 hC9).mono HB.out.size))
  clear hC9
  go_wp2_with (fail)
  go_ret
  exact ⟨by rw [HRR.out]; rfl, HB9.out⟩
theorem removes_any (x : Rg) (w : World) (p : Nat) (A : Option Addr) (c : Nat) (t : Tl) (m : Cm) (B : Option Addr) (e : Nat) (es : List Ev) (h : ChAt w p A c t m B e es) :
    Calls Tryd.prog 77 #[.pointer (some ⟨p, 0, none⟩), rgV x] w fun e w' => e = .returned (.bool (isR t m x)) ∧ Below w.heap.size w w' := by
  cases he : eqS x.h m.ho with
  | true =>
    rw [show isR t m x = false by show (!eqS x.h m.ho && _) = false; rw [he]; rfl]
    exact removes_same x w p A c t m B e es h he
  | false =>
    cases hk : (x.k == m.ot) with
    | true =>
      rw [show isR t m x = true by show (!eqS x.h m.ho && (decide (x.k = m.ot) || _)) = true; rw [he, (int_beq _ _).symm.trans hk]; rfl]
      exact removes_key x w p A c t m B e es h he hk
    | false =>
      rw [show isR t m x = allB t m by show (!eqS x.h m.ho && (decide (x.k = m.ot) || _)) = _; rw [he, (int_beq _ _).symm.trans hk]; rfl]
      exact removes_else x w p A c t m B e es h he hk
end Go.Proofs.YtgekadfkokkapaaDoor
