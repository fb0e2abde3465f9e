/- Who asks is registered: a key turned, one more. Who asks is registered: one more. Who asks is registered: all ways. -/
import Derived.Test.YtgekadfkokkapaaDoorPk08
namespace Go.Proofs.YtgekadfkokkapaaDoor
open Go.RowKit
set_option maxRecDepth 100000 in
set_option maxHeartbeats 4000000 in
theorem reg_full_i (w : World) (n0 p : Nat) (A : Option Addr) (c : Nat) (t : Tl) (m : Cm) (B : Option Addr) (e : Nat) (es : List Ev) (h : Chg w n0 p A c t m B e es) (_hm : t.rs.length ≤ 1000) (hg : m.ig = true) (hr : regB t.rs m.ho = false) (hk : (m.nk == 0) = false) (h16 : t.rs.length = 16) :
    Calls Tryd.prog 55 #[.pointer (some ⟨p, 0, none⟩)] w fun e w' => e = .returned (.int .i64 8) ∧ WrO n0 p t m es w w' := by
  have H := Lib.hid h
  have HIG := Lib.hid hg
  clear hg
  have hf := findQ_none (q := isH m.ho) hr
  have HF := Lib.hid hf
  clear hf hr
  clear h
  go_enter Tryd.func55, Tryd.ntmps55
  go_upto_region 1 with (fail)
  obtain ⟨C1, hC0, hCl, hCi, hCm⟩ := class_ch H.out.at_
  have HC0 := Lib.hid hC0; have HL := Lib.hid hCl; have HCi := Lib.hid hCi; have HCm := Lib.hid hCm
  clear hC0 hCl hCi hCm
  have HI := Lib.hid (fun v (hv : C1 v) => indexOf_any A c t.rs m.ho v (HL.out v hv).rgs (by unfold maxLen; omega))
  rw [HF.out] at HI
  refine wp_region_class C1 (by kernel_rfl) (by kernel_rfl) HC0.out ?_
  go_big_quiet_want
  go_big_quiet_op
  first | go_big_quiet_on | (refine ⟨_, fun _ _ => rfl, ?_⟩; go_big_quiet_on)
  go_big_quiet_want
  go_big_quiet_op
  first | go_big_quiet_on | (refine ⟨_, fun _ _ => rfl, ?_⟩; go_big_quiet_on)
  go_big_quiet_want
  go_big_quiet_op
  first | go_big_quiet_on | (refine ⟨_, fun _ _ => rfl, ?_⟩; go_big_quiet_on)
  go_big_quiet_want
  go_big_quiet_op
  first | go_big_quiet_on | (refine ⟨_, fun _ _ => rfl, ?_⟩; go_big_quiet_on)
  go_big_quiet_want
  refine quiet_run (v := .slice A t.rs.length c) (fun v hv => by have hr := (HL.out v hv).r; obtain ⟨c0, c1, c2, c3, c4, c7, c13, c14, c15, c16, c17, c18⟩ := hr; go_simp) ?_
  simp only [Act.put, List.setIfInBounds_toArray, List.set_cons_zero, List.set_cons_succ]
  go_big_quiet_on
  go_big_quiet_want
  go_big_quiet_op
  first | go_big_quiet_on | (refine ⟨_, fun _ _ => rfl, ?_⟩; go_big_quiet_on)
  go_big_quiet_want
  go_big_quiet_op
  first | go_big_quiet_on | (refine ⟨_, fun _ _ => rfl, ?_⟩; go_big_quiet_on)
  go_big_quiet_want
  go_big_quiet_op
  first | go_big_quiet_on | (refine ⟨_, fun _ _ => rfl, ?_⟩; go_big_quiet_on)
  go_big_quiet_want
  go_big_quiet_op
  first | go_big_quiet_on | (refine ⟨_, fun _ _ => rfl, ?_⟩; go_big_quiet_on)
  go_big_quiet_want
  refine quiet_run (v := .string m.ho) (fun v hv => by have hr := (HL.out v hv).r; obtain ⟨c0, c1, c2, c3, c4, c7, c13, c14, c15, c16, c17, c18⟩ := hr; go_simp) ?_
  simp only [Act.put, List.setIfInBounds_toArray, List.set_cons_zero, List.set_cons_succ]
  go_big_quiet_on
  go_big_quiet_want
  refine quiet_call (f := 35) (args := #[.slice A t.rs.length c, .string m.ho]) (fun v _ => by go_simp) (fun v hv => (HI.out v hv).mono (fun e w' h => ⟨h.1, HCm.out v w' hv h.2⟩)) ?_
  simp only [Act.put, List.setIfInBounds_toArray, List.set_cons_zero, List.set_cons_succ]
  go_big_quiet_on
  go_big_quiet_want
  go_big_quiet_op
  first | go_big_quiet_on | (refine ⟨_, fun _ _ => rfl, ?_⟩; go_big_quiet_on)

  intro w1 hC1
  have HB1 := Lib.hid (HCi.out w1 hC1)
  have H1 := Lib.hid (H.out.below HB1.out)
  clear hC1 HC0 HL HCi HCm HI C1
  go_upto_region 4 with (fail)
  obtain ⟨C2, hC0, hCl, hCi, hCm⟩ := class_ch H1.out.at_
  have HC0 := Lib.hid hC0; have HL := Lib.hid hCl; have HCi := Lib.hid hCi; have HCm := Lib.hid hCm
  clear hC0 hCl hCi hCm
  have HK := Lib.hid (fun v (hv : C2 v) => key_any A c t m.ho v (HL.out v hv).rgs (by unfold maxLen; omega))
  refine wp_region_class C2 (by kernel_rfl) (by kernel_rfl) HC0.out ?_
  go_big_quiet_want
  go_big_quiet_op
  first | go_big_quiet_on | (refine ⟨_, fun _ _ => rfl, ?_⟩; go_big_quiet_on)
  go_big_quiet_want
  go_big_quiet_op
  first | go_big_quiet_on | (refine ⟨_, fun _ _ => rfl, ?_⟩; go_big_quiet_on)
  go_big_quiet_want
  go_big_quiet_op
  first | go_big_quiet_on | (refine ⟨_, fun _ _ => rfl, ?_⟩; go_big_quiet_on)
  go_big_quiet_want
  go_big_quiet_op
  first | go_big_quiet_on | (refine ⟨_, fun _ _ => rfl, ?_⟩; go_big_quiet_on)
  go_big_quiet_want
  refine quiet_run (v := .bool true) (fun v hv => by have hr := (HL.out v hv).r; obtain ⟨c0, c1, c2, c3, c4, c7, c13, c14, c15, c16, c17, c18⟩ := hr; rw [HIG.out] at c17; go_simp) ?_
  simp only [Act.put, List.setIfInBounds_toArray, List.set_cons_zero, List.set_cons_succ]
  go_big_quiet_on
  go_big_quiet_want
  refine quiet_run (v := .bool false) (fun v hv => by rfl) ?_
  simp only [Act.put, List.setIfInBounds_toArray, List.set_cons_zero, List.set_cons_succ]
  go_big_quiet_on
  go_big_quiet_want
  go_big_quiet_op
  first | go_big_quiet_on | (refine ⟨_, fun _ _ => rfl, ?_⟩; go_big_quiet_on)
  go_big_quiet_skip
  go_big_quiet_skip
  go_big_quiet_skip
  go_big_quiet_skip
  go_big_quiet_skip
  go_big_quiet_skip
  go_big_quiet_skip
  go_big_quiet_skip
  go_big_quiet_skip
  go_big_quiet_skip
  go_big_quiet_skip
  go_big_quiet_skip
  go_big_quiet_skip
  go_big_quiet_skip
  go_big_quiet_skip
  go_big_quiet_skip
  go_big_quiet_want
  go_big_quiet_op
  first | go_big_quiet_on | (refine ⟨_, fun _ _ => rfl, ?_⟩; go_big_quiet_on)
  go_big_quiet_want
  go_big_quiet_op
  first | go_big_quiet_on | (refine ⟨_, fun _ _ => rfl, ?_⟩; go_big_quiet_on)

  intro w2 hC2
  have HB2 := Lib.hid ((HB1.out.mono H.out.lt).trans ((HCi.out w2 hC2).mono H1.out.lt))
  have HBQ := Lib.hid (HB1.out.trans ((HCi.out w2 hC2).mono HB1.out.size))
  have H2 := Lib.hid (H1.out.below (HCi.out w2 hC2))
  clear hC2 HC0 HL HCi HCm HK C2
  have c14 := H2.out.at_.r.nk
  have c0 := H2.out.at_.r.rs
  rw [h16] at c0
  go_wp2_with (fail)
  go_ret
  exact ⟨rfl, A, c, B, e, H2.out, HB2.out⟩
set_option maxRecDepth 100000 in
set_option maxHeartbeats 4000000 in
theorem reg_key_i (w : World) (n0 p : Nat) (A : Option Addr) (c : Nat) (t : Tl) (m : Cm) (B : Option Addr) (e : Nat) (es : List Ev) (h : Chg w n0 p A c t m B e es) (hm : t.rs.length ≤ 1000) (hg : m.ig = true) (hr : regB t.rs m.ho = true) (hk : (m.nk == 0) = false) :
    Calls Tryd.prog 55 #[.pointer (some ⟨p, 0, none⟩)] w fun e w' => e = .returned (.int .i64 1) ∧ WrO n0 p (setAp (keyT t m) m) m es w w' := by
  obtain ⟨k, x0, hf, hx0, hq0, hk0⟩ := findQ_some (q := isH m.ho) hr
  have hkn := (List.getElem?_eq_some_iff.1 hx0).1
  obtain ⟨g, rfl, hg0, hrow⟩ := RowR.of h.rgs (by omega)
  have HRW := Lib.hid hrow; have HG := Lib.hid hg0; have HX0 := Lib.hid hx0
  have HF := Lib.hid hf
  have HKE : Hid (keyed t.rs m.ho m.nk = t.rs.set k ⟨x0.h, m.nk⟩) := by
    show keyed t.rs m.ho m.nk = t.rs.set k ⟨x0.h, m.nk⟩
    unfold keyed
    rw [← hk0, List.getD_eq_getElem?_getD, hx0]
    rfl
  clear hrow hg0 hf hx0 hq0 hk0 hr
  have H := Lib.hid h
  have HIG := Lib.hid hg
  clear hg
  have HAP := Lib.hid (fun v A c B e (hv : Chg v n0 p A c (keyT t m) m B e es) => aptpl_any v n0 p A c (keyT t m) m B e es hv)
  clear h
  go_enter Tryd.func55, Tryd.ntmps55
  go_upto_region 1 with (fail)
  obtain ⟨C1, hC0, hCl, hCi, hCm⟩ := class_ch H.out.at_
  have HC0 := Lib.hid hC0; have HL := Lib.hid hCl; have HCi := Lib.hid hCi; have HCm := Lib.hid hCm
  clear hC0 hCl hCi hCm
  have HI := Lib.hid (fun v (hv : C1 v) => indexOf_any (some ⟨g, 0, none⟩) c t.rs m.ho v (HL.out v hv).rgs (by unfold maxLen; omega))
  rw [HF.out] at HI
  refine wp_region_class C1 (by kernel_rfl) (by kernel_rfl) HC0.out ?_
  go_big_quiet_want
  go_big_quiet_op
  first | go_big_quiet_on | (refine ⟨_, fun _ _ => rfl, ?_⟩; go_big_quiet_on)
  go_big_quiet_want
  go_big_quiet_op
  first | go_big_quiet_on | (refine ⟨_, fun _ _ => rfl, ?_⟩; go_big_quiet_on)
  go_big_quiet_want
  go_big_quiet_op
  first | go_big_quiet_on | (refine ⟨_, fun _ _ => rfl, ?_⟩; go_big_quiet_on)
  go_big_quiet_want
  go_big_quiet_op
  first | go_big_quiet_on | (refine ⟨_, fun _ _ => rfl, ?_⟩; go_big_quiet_on)
  go_big_quiet_want
  refine quiet_run (v := .slice (some ⟨g, 0, none⟩) t.rs.length c) (fun v hv => by have hr := (HL.out v hv).r; obtain ⟨c0, c1, c2, c3, c4, c7, c13, c14, c15, c16, c17, c18⟩ := hr; go_simp) ?_
  simp only [Act.put, List.setIfInBounds_toArray, List.set_cons_zero, List.set_cons_succ]
  go_big_quiet_on
  go_big_quiet_want
  go_big_quiet_op
  first | go_big_quiet_on | (refine ⟨_, fun _ _ => rfl, ?_⟩; go_big_quiet_on)
  go_big_quiet_want
  go_big_quiet_op
  first | go_big_quiet_on | (refine ⟨_, fun _ _ => rfl, ?_⟩; go_big_quiet_on)
  go_big_quiet_want
  go_big_quiet_op
  first | go_big_quiet_on | (refine ⟨_, fun _ _ => rfl, ?_⟩; go_big_quiet_on)
  go_big_quiet_want
  go_big_quiet_op
  first | go_big_quiet_on | (refine ⟨_, fun _ _ => rfl, ?_⟩; go_big_quiet_on)
  go_big_quiet_want
  refine quiet_run (v := .string m.ho) (fun v hv => by have hr := (HL.out v hv).r; obtain ⟨c0, c1, c2, c3, c4, c7, c13, c14, c15, c16, c17, c18⟩ := hr; go_simp) ?_
  simp only [Act.put, List.setIfInBounds_toArray, List.set_cons_zero, List.set_cons_succ]
  go_big_quiet_on
  go_big_quiet_want
  refine quiet_call (f := 35) (args := #[.slice (some ⟨g, 0, none⟩) t.rs.length c, .string m.ho]) (fun v _ => by go_simp) (fun v hv => (HI.out v hv).mono (fun e w' h => ⟨h.1, HCm.out v w' hv h.2⟩)) ?_
  simp only [Act.put, List.setIfInBounds_toArray, List.set_cons_zero, List.set_cons_succ]
  go_big_quiet_on
  go_big_quiet_want
  go_big_quiet_op
  first | go_big_quiet_on | (refine ⟨_, fun _ _ => rfl, ?_⟩; go_big_quiet_on)

  intro w1 hC1
  have HB1 := Lib.hid (HCi.out w1 hC1)
  have H1 := Lib.hid (H.out.below HB1.out)
  clear hC1 HC0 HL HCi HCm HI C1
  go_upto_region 4 with (fail)
  obtain ⟨C2, hC0, hCl, hCi, hCm⟩ := class_ch H1.out.at_
  have HC0 := Lib.hid hC0; have HL := Lib.hid hCl; have HCi := Lib.hid hCi; have HCm := Lib.hid hCm
  clear hC0 hCl hCi hCm
  have HK := Lib.hid (fun v (hv : C2 v) => key_any (some ⟨g, 0, none⟩) c t m.ho v (HL.out v hv).rgs (by unfold maxLen; omega))
  refine wp_region_class C2 (by kernel_rfl) (by kernel_rfl) HC0.out ?_
  go_big_quiet_want
  go_big_quiet_op
  first | go_big_quiet_on | (refine ⟨_, fun _ _ => rfl, ?_⟩; go_big_quiet_on)
  go_big_quiet_want
  go_big_quiet_op
  first | go_big_quiet_on | (refine ⟨_, fun _ _ => rfl, ?_⟩; go_big_quiet_on)
  go_big_quiet_want
  go_big_quiet_op
  first | go_big_quiet_on | (refine ⟨_, fun _ _ => rfl, ?_⟩; go_big_quiet_on)
  go_big_quiet_want
  go_big_quiet_op
  first | go_big_quiet_on | (refine ⟨_, fun _ _ => rfl, ?_⟩; go_big_quiet_on)
  go_big_quiet_want
  refine quiet_run (v := .bool true) (fun v hv => by have hr := (HL.out v hv).r; obtain ⟨c0, c1, c2, c3, c4, c7, c13, c14, c15, c16, c17, c18⟩ := hr; rw [HIG.out] at c17; go_simp) ?_
  simp only [Act.put, List.setIfInBounds_toArray, List.set_cons_zero, List.set_cons_succ]
  go_big_quiet_on
  go_big_quiet_want
  refine quiet_run (v := .bool false) (fun v hv => by rfl) ?_
  simp only [Act.put, List.setIfInBounds_toArray, List.set_cons_zero, List.set_cons_succ]
  go_big_quiet_on
  go_big_quiet_want
  go_big_quiet_op
  first | go_big_quiet_on | (refine ⟨_, fun _ _ => rfl, ?_⟩; go_big_quiet_on)
  go_big_quiet_skip
  go_big_quiet_skip
  go_big_quiet_skip
  go_big_quiet_skip
  go_big_quiet_skip
  go_big_quiet_skip
  go_big_quiet_skip
  go_big_quiet_skip
  go_big_quiet_skip
  go_big_quiet_skip
  go_big_quiet_skip
  go_big_quiet_skip
  go_big_quiet_skip
  go_big_quiet_skip
  go_big_quiet_skip
  go_big_quiet_skip
  go_big_quiet_want
  go_big_quiet_op
  first | go_big_quiet_on | (refine ⟨_, fun _ _ => rfl, ?_⟩; go_big_quiet_on)
  go_big_quiet_want
  go_big_quiet_op
  first | go_big_quiet_on | (refine ⟨_, fun _ _ => rfl, ?_⟩; go_big_quiet_on)

  intro w2 hC2
  have HB2 := Lib.hid ((HB1.out.mono H.out.lt).trans ((HCi.out w2 hC2).mono H1.out.lt))
  have HBQ := Lib.hid (HB1.out.trans ((HCi.out w2 hC2).mono HB1.out.size))
  have H2 := Lib.hid (H1.out.below (HCi.out w2 hC2))
  clear hC2 HC0 HL HCi HCm HK C2
  have c14 := H2.out.at_.r.nk
  go_upto_region 9 with (fail)
  have c0 := H2.out.at_.r.rs
  have R2 : RowR w2 g c t.rs := RowR.keep HRW.out (HBQ.out.block g HRW.out.lt)
  have d1 := (R2.cells HX0.out).2
  have f1 := R2.free (k * 2 + 1)
  have hki : (k : Int) < t.rs.length := by omega
  obtain ⟨g1, g2⟩ := H2.out.key HG.out R2 k x0 HX0.out m.nk
  rw [← HKE.out] at g1
  have H3 := Lib.hid (g1.below ((Below.refl _ _).drew)); have HB3 := Lib.hid ((HB2.out.trans g2).drew)
  clear g1 g2
  go_region_law (fail)
  all_goals (
    go_upto_region 10 with (fail)
    generalize (w2.setCell ⟨g, k * 2 + 1, none⟩ (.int .u64 m.nk)).drew = w3 at *
    clear c0 c14 d1 f1
    have c3 : w3.cell? ⟨p, 3, none⟩ = some (.int .u32 t.ge) := H3.out.blk.cell 3
    have f3 := H3.out.blk.free 3
    have hig : IntKind.u32.wrap (t.ge + 1) = incG t.ge := rfl
    obtain ⟨g1, g2⟩ := H3.out.put 3 (.int .u32 (incG t.ge)) (t' := keyT t m) rfl rfl
    have H4 := Lib.hid g1; have HB4 := Lib.hid (HB3.out.trans g2)
    clear g1 g2
    go_wp2_with (fail)
    refine (HAP.out _ _ _ _ _ H4.out).mono ?_; rintro e w9 ⟨rfl, A9, c9, B9, e9, h9, hb9⟩
    have H9 := Lib.hid h9; have HB9 := Lib.hid (HB4.out.trans hb9)
    clear h9 hb9
    go_wp2_with (fail)
    go_ret
    exact ⟨rfl, A9, c9, B9, e9, H9.out, HB9.out⟩
    )
set_option maxRecDepth 100000 in
set_option maxHeartbeats 4000000 in
theorem reg_full_k (w : World) (n0 p : Nat) (A : Option Addr) (c : Nat) (t : Tl) (m : Cm) (B : Option Addr) (e : Nat) (es : List Ev) (h : Chg w n0 p A c t m B e es) (_hm : t.rs.length ≤ 1000) (hg : m.ig = false) (hn : (m.ke != keyR t.rs m.ho) = false) (hr : regB t.rs m.ho = false) (hk : (m.nk == 0) = false) (h16 : t.rs.length = 16) :
    Calls Tryd.prog 55 #[.pointer (some ⟨p, 0, none⟩)] w fun e w' => e = .returned (.int .i64 8) ∧ WrO n0 p t m es w w' := by
  have H := Lib.hid h
  have HIG := Lib.hid hg
  clear hg
  have HN := Lib.hid hn
  clear hn
  have hf := findQ_none (q := isH m.ho) hr
  have HF := Lib.hid hf
  clear hf hr
  clear h
  go_enter Tryd.func55, Tryd.ntmps55
  go_upto_region 1 with (fail)
  obtain ⟨C1, hC0, hCl, hCi, hCm⟩ := class_ch H.out.at_
  have HC0 := Lib.hid hC0; have HL := Lib.hid hCl; have HCi := Lib.hid hCi; have HCm := Lib.hid hCm
  clear hC0 hCl hCi hCm
  have HI := Lib.hid (fun v (hv : C1 v) => indexOf_any A c t.rs m.ho v (HL.out v hv).rgs (by unfold maxLen; omega))
  rw [HF.out] at HI
  refine wp_region_class C1 (by kernel_rfl) (by kernel_rfl) HC0.out ?_
  go_big_quiet_want
  go_big_quiet_op
  first | go_big_quiet_on | (refine ⟨_, fun _ _ => rfl, ?_⟩; go_big_quiet_on)
  go_big_quiet_want
  go_big_quiet_op
  first | go_big_quiet_on | (refine ⟨_, fun _ _ => rfl, ?_⟩; go_big_quiet_on)
  go_big_quiet_want
  go_big_quiet_op
  first | go_big_quiet_on | (refine ⟨_, fun _ _ => rfl, ?_⟩; go_big_quiet_on)
  go_big_quiet_want
  go_big_quiet_op
  first | go_big_quiet_on | (refine ⟨_, fun _ _ => rfl, ?_⟩; go_big_quiet_on)
  go_big_quiet_want
  refine quiet_run (v := .slice A t.rs.length c) (fun v hv => by have hr := (HL.out v hv).r; obtain ⟨c0, c1, c2, c3, c4, c7, c13, c14, c15, c16, c17, c18⟩ := hr; go_simp) ?_
  simp only [Act.put, List.setIfInBounds_toArray, List.set_cons_zero, List.set_cons_succ]
  go_big_quiet_on
  go_big_quiet_want
  go_big_quiet_op
  first | go_big_quiet_on | (refine ⟨_, fun _ _ => rfl, ?_⟩; go_big_quiet_on)
  go_big_quiet_want
  go_big_quiet_op
  first | go_big_quiet_on | (refine ⟨_, fun _ _ => rfl, ?_⟩; go_big_quiet_on)
  go_big_quiet_want
  go_big_quiet_op
  first | go_big_quiet_on | (refine ⟨_, fun _ _ => rfl, ?_⟩; go_big_quiet_on)
  go_big_quiet_want
  go_big_quiet_op
  first | go_big_quiet_on | (refine ⟨_, fun _ _ => rfl, ?_⟩; go_big_quiet_on)
  go_big_quiet_want
  refine quiet_run (v := .string m.ho) (fun v hv => by have hr := (HL.out v hv).r; obtain ⟨c0, c1, c2, c3, c4, c7, c13, c14, c15, c16, c17, c18⟩ := hr; go_simp) ?_
  simp only [Act.put, List.setIfInBounds_toArray, List.set_cons_zero, List.set_cons_succ]
  go_big_quiet_on
  go_big_quiet_want
  refine quiet_call (f := 35) (args := #[.slice A t.rs.length c, .string m.ho]) (fun v _ => by go_simp) (fun v hv => (HI.out v hv).mono (fun e w' h => ⟨h.1, HCm.out v w' hv h.2⟩)) ?_
  simp only [Act.put, List.setIfInBounds_toArray, List.set_cons_zero, List.set_cons_succ]
  go_big_quiet_on
  go_big_quiet_want
  go_big_quiet_op
  first | go_big_quiet_on | (refine ⟨_, fun _ _ => rfl, ?_⟩; go_big_quiet_on)

  intro w1 hC1
  have HB1 := Lib.hid (HCi.out w1 hC1)
  have H1 := Lib.hid (H.out.below HB1.out)
  clear hC1 HC0 HL HCi HCm HI C1
  go_upto_region 4 with (fail)
  obtain ⟨C2, hC0, hCl, hCi, hCm⟩ := class_ch H1.out.at_
  have HC0 := Lib.hid hC0; have HL := Lib.hid hCl; have HCi := Lib.hid hCi; have HCm := Lib.hid hCm
  clear hC0 hCl hCi hCm
  have HK := Lib.hid (fun v (hv : C2 v) => key_any A c t m.ho v (HL.out v hv).rgs (by unfold maxLen; omega))
  refine wp_region_class C2 (by kernel_rfl) (by kernel_rfl) HC0.out ?_
  go_big_quiet_want
  go_big_quiet_op
  first | go_big_quiet_on | (refine ⟨_, fun _ _ => rfl, ?_⟩; go_big_quiet_on)
  go_big_quiet_want
  go_big_quiet_op
  first | go_big_quiet_on | (refine ⟨_, fun _ _ => rfl, ?_⟩; go_big_quiet_on)
  go_big_quiet_want
  go_big_quiet_op
  first | go_big_quiet_on | (refine ⟨_, fun _ _ => rfl, ?_⟩; go_big_quiet_on)
  go_big_quiet_want
  go_big_quiet_op
  first | go_big_quiet_on | (refine ⟨_, fun _ _ => rfl, ?_⟩; go_big_quiet_on)
  go_big_quiet_want
  refine quiet_run (v := .bool false) (fun v hv => by have hr := (HL.out v hv).r; obtain ⟨c0, c1, c2, c3, c4, c7, c13, c14, c15, c16, c17, c18⟩ := hr; rw [HIG.out] at c17; go_simp) ?_
  simp only [Act.put, List.setIfInBounds_toArray, List.set_cons_zero, List.set_cons_succ]
  go_big_quiet_on
  go_big_quiet_want
  refine quiet_run (v := .bool true) (fun v hv => by rfl) ?_
  simp only [Act.put, List.setIfInBounds_toArray, List.set_cons_zero, List.set_cons_succ]
  go_big_quiet_on
  go_big_quiet_want
  go_big_quiet_op
  first | go_big_quiet_on | (refine ⟨_, fun _ _ => rfl, ?_⟩; go_big_quiet_on)
  go_big_quiet_want
  go_big_quiet_op
  first | go_big_quiet_on | (refine ⟨_, fun _ _ => rfl, ?_⟩; go_big_quiet_on)
  go_big_quiet_want
  go_big_quiet_op
  first | go_big_quiet_on | (refine ⟨_, fun _ _ => rfl, ?_⟩; go_big_quiet_on)
  go_big_quiet_want
  go_big_quiet_op
  first | go_big_quiet_on | (refine ⟨_, fun _ _ => rfl, ?_⟩; go_big_quiet_on)
  go_big_quiet_want
  go_big_quiet_op
  first | go_big_quiet_on | (refine ⟨_, fun _ _ => rfl, ?_⟩; go_big_quiet_on)
  go_big_quiet_want
  refine quiet_run (v := .int .u64 m.ke) (fun v hv => by have hr := (HL.out v hv).r; obtain ⟨c0, c1, c2, c3, c4, c7, c13, c14, c15, c16, c17, c18⟩ := hr; rw [HIG.out] at c17; go_simp) ?_
  simp only [Act.put, List.setIfInBounds_toArray, List.set_cons_zero, List.set_cons_succ]
  go_big_quiet_on
  go_big_quiet_want
  go_big_quiet_op
  first | go_big_quiet_on | (refine ⟨_, fun _ _ => rfl, ?_⟩; go_big_quiet_on)
  go_big_quiet_want
  go_big_quiet_op
  first | go_big_quiet_on | (refine ⟨_, fun _ _ => rfl, ?_⟩; go_big_quiet_on)
  go_big_quiet_want
  go_big_quiet_op
  first | go_big_quiet_on | (refine ⟨_, fun _ _ => rfl, ?_⟩; go_big_quiet_on)
  go_big_quiet_want
  refine quiet_run (v := tlV A c t) (fun v hv => by have hr := (HL.out v hv).r; obtain ⟨c0, c1, c2, c3, c4, c7, c13, c14, c15, c16, c17, c18⟩ := hr; rw [HIG.out] at c17; go_simp) ?_
  simp only [Act.put, List.setIfInBounds_toArray, List.set_cons_zero, List.set_cons_succ]
  go_big_quiet_on
  go_big_quiet_want
  go_big_quiet_op
  first | go_big_quiet_on | (refine ⟨_, fun _ _ => rfl, ?_⟩; go_big_quiet_on)
  go_big_quiet_want
  go_big_quiet_op
  first | go_big_quiet_on | (refine ⟨_, fun _ _ => rfl, ?_⟩; go_big_quiet_on)
  go_big_quiet_want
  go_big_quiet_op
  first | go_big_quiet_on | (refine ⟨_, fun _ _ => rfl, ?_⟩; go_big_quiet_on)
  go_big_quiet_want
  go_big_quiet_op
  first | go_big_quiet_on | (refine ⟨_, fun _ _ => rfl, ?_⟩; go_big_quiet_on)
  go_big_quiet_want
  refine quiet_run (v := .string m.ho) (fun v hv => by have hr := (HL.out v hv).r; obtain ⟨c0, c1, c2, c3, c4, c7, c13, c14, c15, c16, c17, c18⟩ := hr; rw [HIG.out] at c17; go_simp) ?_
  simp only [Act.put, List.setIfInBounds_toArray, List.set_cons_zero, List.set_cons_succ]
  go_big_quiet_on
  go_big_quiet_want
  refine quiet_call (f := 16) (args := #[tlV A c t, .string m.ho]) (fun v _ => by go_simp) (fun v hv => (HK.out v hv).mono (fun e w' h => ⟨h.1, HCm.out v w' hv h.2⟩)) ?_
  simp only [Act.put, List.setIfInBounds_toArray, List.set_cons_zero, List.set_cons_succ]
  go_big_quiet_on
  go_big_quiet_want
  refine quiet_run (v := .bool false) (fun v hv => by have := HN.out; go_simp) ?_
  simp only [Act.put, List.setIfInBounds_toArray, List.set_cons_zero, List.set_cons_succ]
  go_big_quiet_on
  go_big_quiet_want
  go_big_quiet_op
  first | go_big_quiet_on | (refine ⟨_, fun _ _ => rfl, ?_⟩; go_big_quiet_on)
  go_big_quiet_want
  go_big_quiet_op
  first | go_big_quiet_on | (refine ⟨_, fun _ _ => rfl, ?_⟩; go_big_quiet_on)

  intro w2 hC2
  have HB2 := Lib.hid ((HB1.out.mono H.out.lt).trans ((HCi.out w2 hC2).mono H1.out.lt))
  have HBQ := Lib.hid (HB1.out.trans ((HCi.out w2 hC2).mono HB1.out.size))
  have H2 := Lib.hid (H1.out.below (HCi.out w2 hC2))
  clear hC2 HC0 HL HCi HCm HK C2
  have c14 := H2.out.at_.r.nk
  have c0 := H2.out.at_.r.rs
  rw [h16] at c0
  go_wp2_with (fail)
  go_ret
  exact ⟨rfl, A, c, B, e, H2.out, HB2.out⟩
set_option maxRecDepth 100000 in
set_option maxHeartbeats 4000000 in
theorem reg_key_k (w : World) (n0 p : Nat) (A : Option Addr) (c : Nat) (t : Tl) (m : Cm) (B : Option Addr) (e : Nat) (es : List Ev) (h : Chg w n0 p A c t m B e es) (hm : t.rs.length ≤ 1000) (hg : m.ig = false) (hn : (m.ke != keyR t.rs m.ho) = false) (hr : regB t.rs m.ho = true) (hk : (m.nk == 0) = false) :
    Calls Tryd.prog 55 #[.pointer (some ⟨p, 0, none⟩)] w fun e w' => e = .returned (.int .i64 1) ∧ WrO n0 p (setAp (keyT t m) m) m es w w' := by
  obtain ⟨k, x0, hf, hx0, hq0, hk0⟩ := findQ_some (q := isH m.ho) hr
  have hkn := (List.getElem?_eq_some_iff.1 hx0).1
  obtain ⟨g, rfl, hg0, hrow⟩ := RowR.of h.rgs (by omega)
  have HRW := Lib.hid hrow; have HG := Lib.hid hg0; have HX0 := Lib.hid hx0
  have HF := Lib.hid hf
  have HKE : Hid (keyed t.rs m.ho m.nk = t.rs.set k ⟨x0.h, m.nk⟩) := by
    show keyed t.rs m.ho m.nk = t.rs.set k ⟨x0.h, m.nk⟩
    unfold keyed
    rw [← hk0, List.getD_eq_getElem?_getD, hx0]
    rfl
  clear hrow hg0 hf hx0 hq0 hk0 hr
  have H := Lib.hid h
  have HIG := Lib.hid hg
  clear hg
  have HN := Lib.hid hn
  clear hn
  have HAP := Lib.hid (fun v A c B e (hv : Chg v n0 p A c (keyT t m) m B e es) => aptpl_any v n0 p A c (keyT t m) m B e es hv)
  clear h
  go_enter Tryd.func55, Tryd.ntmps55
  go_upto_region 1 with (fail)
  obtain ⟨C1, hC0, hCl, hCi, hCm⟩ := class_ch H.out.at_
  have HC0 := Lib.hid hC0; have HL := Lib.hid hCl; have HCi := Lib.hid hCi; have HCm := Lib.hid hCm
  clear hC0 hCl hCi hCm
  have HI := Lib.hid (fun v (hv : C1 v) => indexOf_any (some ⟨g, 0, none⟩) c t.rs m.ho v (HL.out v hv).rgs (by unfold maxLen; omega))
  rw [HF.out] at HI
  refine wp_region_class C1 (by kernel_rfl) (by kernel_rfl) HC0.out ?_
  go_big_quiet_want
  go_big_quiet_op
  first | go_big_quiet_on | (refine ⟨_, fun _ _ => rfl, ?_⟩; go_big_quiet_on)
  go_big_quiet_want
  go_big_quiet_op
  first | go_big_quiet_on | (refine ⟨_, fun _ _ => rfl, ?_⟩; go_big_quiet_on)
  go_big_quiet_want
  go_big_quiet_op
  first | go_big_quiet_on | (refine ⟨_, fun _ _ => rfl, ?_⟩; go_big_quiet_on)
  go_big_quiet_want
  go_big_quiet_op
  first | go_big_quiet_on | (refine ⟨_, fun _ _ => rfl, ?_⟩; go_big_quiet_on)
  go_big_quiet_want
  refine quiet_run (v := .slice (some ⟨g, 0, none⟩) t.rs.length c) (fun v hv => by have hr := (HL.out v hv).r; obtain ⟨c0, c1, c2, c3, c4, c7, c13, c14, c15, c16, c17, c18⟩ := hr; go_simp) ?_
  simp only [Act.put, List.setIfInBounds_toArray, List.set_cons_zero, List.set_cons_succ]
  go_big_quiet_on
  go_big_quiet_want
  go_big_quiet_op
  first | go_big_quiet_on | (refine ⟨_, fun _ _ => rfl, ?_⟩; go_big_quiet_on)
  go_big_quiet_want
  go_big_quiet_op
  first | go_big_quiet_on | (refine ⟨_, fun _ _ => rfl, ?_⟩; go_big_quiet_on)
  go_big_quiet_want
  go_big_quiet_op
  first | go_big_quiet_on | (refine ⟨_, fun _ _ => rfl, ?_⟩; go_big_quiet_on)
  go_big_quiet_want
  go_big_quiet_op
  first | go_big_quiet_on | (refine ⟨_, fun _ _ => rfl, ?_⟩; go_big_quiet_on)
  go_big_quiet_want
  refine quiet_run (v := .string m.ho) (fun v hv => by have hr := (HL.out v hv).r; obtain ⟨c0, c1, c2, c3, c4, c7, c13, c14, c15, c16, c17, c18⟩ := hr; go_simp) ?_
  simp only [Act.put, List.setIfInBounds_toArray, List.set_cons_zero, List.set_cons_succ]
  go_big_quiet_on
  go_big_quiet_want
  refine quiet_call (f := 35) (args := #[.slice (some ⟨g, 0, none⟩) t.rs.length c, .string m.ho]) (fun v _ => by go_simp) (fun v hv => (HI.out v hv).mono (fun e w' h => ⟨h.1, HCm.out v w' hv h.2⟩)) ?_
  simp only [Act.put, List.setIfInBounds_toArray, List.set_cons_zero, List.set_cons_succ]
  go_big_quiet_on
  go_big_quiet_want
  go_big_quiet_op
  first | go_big_quiet_on | (refine ⟨_, fun _ _ => rfl, ?_⟩; go_big_quiet_on)

  intro w1 hC1
  have HB1 := Lib.hid (HCi.out w1 hC1)
  have H1 := Lib.hid (H.out.below HB1.out)
  clear hC1 HC0 HL HCi HCm HI C1
  go_upto_region 4 with (fail)
  obtain ⟨C2, hC0, hCl, hCi, hCm⟩ := class_ch H1.out.at_
  have HC0 := Lib.hid hC0; have HL := Lib.hid hCl; have HCi := Lib.hid hCi; have HCm := Lib.hid hCm
  clear hC0 hCl hCi hCm
  have HK := Lib.hid (fun v (hv : C2 v) => key_any (some ⟨g, 0, none⟩) c t m.ho v (HL.out v hv).rgs (by unfold maxLen; omega))
  refine wp_region_class C2 (by kernel_rfl) (by kernel_rfl) HC0.out ?_
  go_big_quiet_want
  go_big_quiet_op
  first | go_big_quiet_on | (refine ⟨_, fun _ _ => rfl, ?_⟩; go_big_quiet_on)
  go_big_quiet_want
  go_big_quiet_op
  first | go_big_quiet_on | (refine ⟨_, fun _ _ => rfl, ?_⟩; go_big_quiet_on)
  go_big_quiet_want
  go_big_quiet_op
  first | go_big_quiet_on | (refine ⟨_, fun _ _ => rfl, ?_⟩; go_big_quiet_on)
  go_big_quiet_want
  go_big_quiet_op
  first | go_big_quiet_on | (refine ⟨_, fun _ _ => rfl, ?_⟩; go_big_quiet_on)
  go_big_quiet_want
  refine quiet_run (v := .bool false) (fun v hv => by have hr := (HL.out v hv).r; obtain ⟨c0, c1, c2, c3, c4, c7, c13, c14, c15, c16, c17, c18⟩ := hr; rw [HIG.out] at c17; go_simp) ?_
  simp only [Act.put, List.setIfInBounds_toArray, List.set_cons_zero, List.set_cons_succ]
  go_big_quiet_on
  go_big_quiet_want
  refine quiet_run (v := .bool true) (fun v hv => by rfl) ?_
  simp only [Act.put, List.setIfInBounds_toArray, List.set_cons_zero, List.set_cons_succ]
  go_big_quiet_on
  go_big_quiet_want
  go_big_quiet_op
  first | go_big_quiet_on | (refine ⟨_, fun _ _ => rfl, ?_⟩; go_big_quiet_on)
  go_big_quiet_want
  go_big_quiet_op
  first | go_big_quiet_on | (refine ⟨_, fun _ _ => rfl, ?_⟩; go_big_quiet_on)
  go_big_quiet_want
  go_big_quiet_op
  first | go_big_quiet_on | (refine ⟨_, fun _ _ => rfl, ?_⟩; go_big_quiet_on)
  go_big_quiet_want
  go_big_quiet_op
  first | go_big_quiet_on | (refine ⟨_, fun _ _ => rfl, ?_⟩; go_big_quiet_on)
  go_big_quiet_want
  go_big_quiet_op
  first | go_big_quiet_on | (refine ⟨_, fun _ _ => rfl, ?_⟩; go_big_quiet_on)
  go_big_quiet_want
  refine quiet_run (v := .int .u64 m.ke) (fun v hv => by have hr := (HL.out v hv).r; obtain ⟨c0, c1, c2, c3, c4, c7, c13, c14, c15, c16, c17, c18⟩ := hr; rw [HIG.out] at c17; go_simp) ?_
  simp only [Act.put, List.setIfInBounds_toArray, List.set_cons_zero, List.set_cons_succ]
  go_big_quiet_on
  go_big_quiet_want
  go_big_quiet_op
  first | go_big_quiet_on | (refine ⟨_, fun _ _ => rfl, ?_⟩; go_big_quiet_on)
  go_big_quiet_want
  go_big_quiet_op
  first | go_big_quiet_on | (refine ⟨_, fun _ _ => rfl, ?_⟩; go_big_quiet_on)
  go_big_quiet_want
  go_big_quiet_op
  first | go_big_quiet_on | (refine ⟨_, fun _ _ => rfl, ?_⟩; go_big_quiet_on)
  go_big_quiet_want
  refine quiet_run (v := tlV (some ⟨g, 0, none⟩) c t) (fun v hv => by have hr := (HL.out v hv).r; obtain ⟨c0, c1, c2, c3, c4, c7, c13, c14, c15, c16, c17, c18⟩ := hr; rw [HIG.out] at c17; go_simp) ?_
  simp only [Act.put, List.setIfInBounds_toArray, List.set_cons_zero, List.set_cons_succ]
  go_big_quiet_on
  go_big_quiet_want
  go_big_quiet_op
  first | go_big_quiet_on | (refine ⟨_, fun _ _ => rfl, ?_⟩; go_big_quiet_on)
  go_big_quiet_want
  go_big_quiet_op
  first | go_big_quiet_on | (refine ⟨_, fun _ _ => rfl, ?_⟩; go_big_quiet_on)
  go_big_quiet_want
  go_big_quiet_op
  first | go_big_quiet_on | (refine ⟨_, fun _ _ => rfl, ?_⟩; go_big_quiet_on)
  go_big_quiet_want
  go_big_quiet_op
  first | go_big_quiet_on | (refine ⟨_, fun _ _ => rfl, ?_⟩; go_big_quiet_on)
  go_big_quiet_want
  refine quiet_run (v := .string m.ho) (fun v hv => by have hr := (HL.out v hv).r; obtain ⟨c0, c1, c2, c3, c4, c7, c13, c14, c15, c16, c17, c18⟩ := hr; rw [HIG.out] at c17; go_simp) ?_
  simp only [Act.put, List.setIfInBounds_toArray, List.set_cons_zero, List.set_cons_succ]
  go_big_quiet_on
  go_big_quiet_want
  refine quiet_call (f := 16) (args := #[tlV (some ⟨g, 0, none⟩) c t, .string m.ho]) (fun v _ => by go_simp) (fun v hv => (HK.out v hv).mono (fun e w' h => ⟨h.1, HCm.out v w' hv h.2⟩)) ?_
  simp only [Act.put, List.setIfInBounds_toArray, List.set_cons_zero, List.set_cons_succ]
  go_big_quiet_on
  go_big_quiet_want
  refine quiet_run (v := .bool false) (fun v hv => by have := HN.out; go_simp) ?_
  simp only [Act.put, List.setIfInBounds_toArray, List.set_cons_zero, List.set_cons_succ]
  go_big_quiet_on
  go_big_quiet_want
  go_big_quiet_op
  first | go_big_quiet_on | (refine ⟨_, fun _ _ => rfl, ?_⟩; go_big_quiet_on)
  go_big_quiet_want
  go_big_quiet_op
  first | go_big_quiet_on | (refine ⟨_, fun _ _ => rfl, ?_⟩; go_big_quiet_on)

  intro w2 hC2
  have HB2 := Lib.hid ((HB1.out.mono H.out.lt).trans ((HCi.out w2 hC2).mono H1.out.lt))
  have HBQ := Lib.hid (HB1.out.trans ((HCi.out w2 hC2).mono HB1.out.size))
  have H2 := Lib.hid (H1.out.below (HCi.out w2 hC2))
  clear hC2 HC0 HL HCi HCm HK C2
  have c14 := H2.out.at_.r.nk
  go_upto_region 9 with (fail)
  have c0 := H2.out.at_.r.rs
  have R2 : RowR w2 g c t.rs := RowR.keep HRW.out (HBQ.out.block g HRW.out.lt)
  have d1 := (R2.cells HX0.out).2
  have f1 := R2.free (k * 2 + 1)
  have hki : (k : Int) < t.rs.length := by omega
  obtain ⟨g1, g2⟩ := H2.out.key HG.out R2 k x0 HX0.out m.nk
  rw [← HKE.out] at g1
  have H3 := Lib.hid (g1.below ((Below.refl _ _).drew)); have HB3 := Lib.hid ((HB2.out.trans g2).drew)
  clear g1 g2
  go_region_law (fail)
  all_goals (
    go_upto_region 10 with (fail)
    generalize (w2.setCell ⟨g, k * 2 + 1, none⟩ (.int .u64 m.nk)).drew = w3 at *
    clear c0 c14 d1 f1
    have c3 : w3.cell? ⟨p, 3, none⟩ = some (.int .u32 t.ge) := H3.out.blk.cell 3
    have f3 := H3.out.blk.free 3
    have hig : IntKind.u32.wrap (t.ge + 1) = incG t.ge := rfl
    obtain ⟨g1, g2⟩ := H3.out.put 3 (.int .u32 (incG t.ge)) (t' := keyT t m) rfl rfl
    have H4 := Lib.hid g1; have HB4 := Lib.hid (HB3.out.trans g2)
    clear g1 g2
    go_wp2_with (fail)
    refine (HAP.out _ _ _ _ _ H4.out).mono ?_; rintro e w9 ⟨rfl, A9, c9, B9, e9, h9, hb9⟩
    have H9 := Lib.hid h9; have HB9 := Lib.hid (HB4.out.trans hb9)
    clear h9 hb9
    go_wp2_with (fail)
    go_ret
    exact ⟨rfl, A9, c9, B9, e9, H9.out, HB9.out⟩
    )
open Go.RowKit
set_option maxRecDepth 100000 in
set_option maxHeartbeats 4000000 in
theorem reg_new_i (w : World) (n0 p : Nat) (A : Option Addr) (c : Nat) (t : Tl) (m : Cm) (B : Option Addr) (e : Nat) (es : List Ev) (h : Chg w n0 p A c t m B e es) (hm : t.rs.length ≤ 1000) (hg : m.ig = true) (hs : m.ho.size ≤ 1000) (hr : regB t.rs m.ho = false) (hk : (m.nk == 0) = false) (h16 : t.rs.length ≠ 16) :
    Calls Tryd.prog 55 #[.pointer (some ⟨p, 0, none⟩)] w fun e w' => e = .returned (.int .i64 1) ∧ WrO n0 p (setAp (newT t m) m) m es w w' := by
  have H := Lib.hid h
  have HIG := Lib.hid hg
  clear hg
  have hf := findQ_none (q := isH m.ho) hr
  have HF := Lib.hid hf
  clear hf hr
  have HAP := Lib.hid (fun v A c B e (hv : Chg v n0 p A c (newT t m) m B e es) => aptpl_any v n0 p A c (newT t m) m B e es hv)
  clear h
  go_enter Tryd.func55, Tryd.ntmps55
  go_upto_region 1 with (fail)
  obtain ⟨C1, hC0, hCl, hCi, hCm⟩ := class_ch H.out.at_
  have HC0 := Lib.hid hC0; have HL := Lib.hid hCl; have HCi := Lib.hid hCi; have HCm := Lib.hid hCm
  clear hC0 hCl hCi hCm
  have HI := Lib.hid (fun v (hv : C1 v) => indexOf_any A c t.rs m.ho v (HL.out v hv).rgs (by unfold maxLen; omega))
  rw [HF.out] at HI
  refine wp_region_class C1 (by kernel_rfl) (by kernel_rfl) HC0.out ?_
  go_big_quiet_want
  go_big_quiet_op
  first | go_big_quiet_on | (refine ⟨_, fun _ _ => rfl, ?_⟩; go_big_quiet_on)
  go_big_quiet_want
  go_big_quiet_op
  first | go_big_quiet_on | (refine ⟨_, fun _ _ => rfl, ?_⟩; go_big_quiet_on)
  go_big_quiet_want
  go_big_quiet_op
  first | go_big_quiet_on | (refine ⟨_, fun _ _ => rfl, ?_⟩; go_big_quiet_on)
  go_big_quiet_want
  go_big_quiet_op
  first | go_big_quiet_on | (refine ⟨_, fun _ _ => rfl, ?_⟩; go_big_quiet_on)
  go_big_quiet_want
  refine quiet_run (v := .slice A t.rs.length c) (fun v hv => by have hr := (HL.out v hv).r; obtain ⟨c0, c1, c2, c3, c4, c7, c13, c14, c15, c16, c17, c18⟩ := hr; go_simp) ?_
  simp only [Act.put, List.setIfInBounds_toArray, List.set_cons_zero, List.set_cons_succ]
  go_big_quiet_on
  go_big_quiet_want
  go_big_quiet_op
  first | go_big_quiet_on | (refine ⟨_, fun _ _ => rfl, ?_⟩; go_big_quiet_on)
  go_big_quiet_want
  go_big_quiet_op
  first | go_big_quiet_on | (refine ⟨_, fun _ _ => rfl, ?_⟩; go_big_quiet_on)
  go_big_quiet_want
  go_big_quiet_op
  first | go_big_quiet_on | (refine ⟨_, fun _ _ => rfl, ?_⟩; go_big_quiet_on)
  go_big_quiet_want
  go_big_quiet_op
  first | go_big_quiet_on | (refine ⟨_, fun _ _ => rfl, ?_⟩; go_big_quiet_on)
  go_big_quiet_want
  refine quiet_run (v := .string m.ho) (fun v hv => by have hr := (HL.out v hv).r; obtain ⟨c0, c1, c2, c3, c4, c7, c13, c14, c15, c16, c17, c18⟩ := hr; go_simp) ?_
  simp only [Act.put, List.setIfInBounds_toArray, List.set_cons_zero, List.set_cons_succ]
  go_big_quiet_on
  go_big_quiet_want
  refine quiet_call (f := 35) (args := #[.slice A t.rs.length c, .string m.ho]) (fun v _ => by go_simp) (fun v hv => (HI.out v hv).mono (fun e w' h => ⟨h.1, HCm.out v w' hv h.2⟩)) ?_
  simp only [Act.put, List.setIfInBounds_toArray, List.set_cons_zero, List.set_cons_succ]
  go_big_quiet_on
  go_big_quiet_want
  go_big_quiet_op
  first | go_big_quiet_on | (refine ⟨_, fun _ _ => rfl, ?_⟩; go_big_quiet_on)

  intro w1 hC1
  have HB1 := Lib.hid (HCi.out w1 hC1)
  have H1 := Lib.hid (H.out.below HB1.out)
  clear hC1 HC0 HL HCi HCm HI C1
  go_upto_region 4 with (fail)
  obtain ⟨C2, hC0, hCl, hCi, hCm⟩ := class_ch H1.out.at_
  have HC0 := Lib.hid hC0; have HL := Lib.hid hCl; have HCi := Lib.hid hCi; have HCm := Lib.hid hCm
  clear hC0 hCl hCi hCm
  have HK := Lib.hid (fun v (hv : C2 v) => key_any A c t m.ho v (HL.out v hv).rgs (by unfold maxLen; omega))
  refine wp_region_class C2 (by kernel_rfl) (by kernel_rfl) HC0.out ?_
  go_big_quiet_want
  go_big_quiet_op
  first | go_big_quiet_on | (refine ⟨_, fun _ _ => rfl, ?_⟩; go_big_quiet_on)
  go_big_quiet_want
  go_big_quiet_op
  first | go_big_quiet_on | (refine ⟨_, fun _ _ => rfl, ?_⟩; go_big_quiet_on)
  go_big_quiet_want
  go_big_quiet_op
  first | go_big_quiet_on | (refine ⟨_, fun _ _ => rfl, ?_⟩; go_big_quiet_on)
  go_big_quiet_want
  go_big_quiet_op
  first | go_big_quiet_on | (refine ⟨_, fun _ _ => rfl, ?_⟩; go_big_quiet_on)
  go_big_quiet_want
  refine quiet_run (v := .bool true) (fun v hv => by have hr := (HL.out v hv).r; obtain ⟨c0, c1, c2, c3, c4, c7, c13, c14, c15, c16, c17, c18⟩ := hr; rw [HIG.out] at c17; go_simp) ?_
  simp only [Act.put, List.setIfInBounds_toArray, List.set_cons_zero, List.set_cons_succ]
  go_big_quiet_on
  go_big_quiet_want
  refine quiet_run (v := .bool false) (fun v hv => by rfl) ?_
  simp only [Act.put, List.setIfInBounds_toArray, List.set_cons_zero, List.set_cons_succ]
  go_big_quiet_on
  go_big_quiet_want
  go_big_quiet_op
  first | go_big_quiet_on | (refine ⟨_, fun _ _ => rfl, ?_⟩; go_big_quiet_on)
  go_big_quiet_skip
  go_big_quiet_skip
  go_big_quiet_skip
  go_big_quiet_skip
  go_big_quiet_skip
  go_big_quiet_skip
  go_big_quiet_skip
  go_big_quiet_skip
  go_big_quiet_skip
  go_big_quiet_skip
  go_big_quiet_skip
  go_big_quiet_skip
  go_big_quiet_skip
  go_big_quiet_skip
  go_big_quiet_skip
  go_big_quiet_skip
  go_big_quiet_want
  go_big_quiet_op
  first | go_big_quiet_on | (refine ⟨_, fun _ _ => rfl, ?_⟩; go_big_quiet_on)
  go_big_quiet_want
  go_big_quiet_op
  first | go_big_quiet_on | (refine ⟨_, fun _ _ => rfl, ?_⟩; go_big_quiet_on)

  intro w2 hC2
  have HB2 := Lib.hid ((HB1.out.mono H.out.lt).trans ((HCi.out w2 hC2).mono H1.out.lt))
  have HBQ := Lib.hid (HB1.out.trans ((HCi.out w2 hC2).mono HB1.out.size))
  have H2 := Lib.hid (H1.out.below (HCi.out w2 hC2))
  clear hC2 HC0 HL HCi HCm HK C2
  have c14 := H2.out.at_.r.nk
  have c0 := H2.out.at_.r.rs
  have c7 := H2.out.at_.r.ho
  have h16b : ((t.rs.length : Int) == 16) = false := by rw [int_beq]; exact decide_eq_false (by omega)
  go_upto_region 2 with (fail)
  go_region_law (first
    | (refine step_clone (by rfl) (.tmp 25) (by rfl) m.ho (by rfl) (by omega) ?_
       intro w5 hb5
       have H5 := Lib.hid (H2.out.below ((Below.refl w2.heap.size w2).drew.trans hb5)); have HB5 := Lib.hid (HB2.out.trans (((Below.refl w2.heap.size w2).drew.trans hb5).mono H2.out.lt))
       have e0 : w5.cell? ⟨p, 0, none⟩ = some (.slice A t.rs.length c) := H5.out.blk.cell 0
       have e14 : w5.cell? ⟨p, 14, none⟩ = some (.int .u64 m.nk) := H5.out.blk.cell 14
       have hal := (Below.refl w5.heap.size w5).alloc (Nat.le_refl _) (.cells (regC ⟨m.ho, m.nk⟩) 57)
       have H6 := Lib.hid (H5.out.below hal); have HB6 := Lib.hid (HB5.out.trans (hal.mono H5.out.lt))
       have e6 : (w5.alloc (.cells (regC ⟨m.ho, m.nk⟩) 57)).cell? ⟨p, 0, none⟩ = some (.slice A t.rs.length c) := H6.out.blk.cell 0
       clear hb5 hal)
    | (refine step_rg (by rfl) (.tmp 20) (.tmp 33) (by rfl) n0 A c t.rs (by rfl) H6.out.rgs w5.heap.size ⟨m.ho, m.nk⟩ (by rfl) (by unfold maxLen; show m.ho.size ≤ _; omega) (Blk.new w5 57 _) (by omega) H6.out.lt ?_
       intro A7 q7 w7 ho7 hg7
       have b7 := H6.out.blk.grown hg7 (Ne.symm H6.out.apart.1)
       have f7 := b7.free 0
       have e7 : w7.cell? ⟨p, 0, none⟩ = some (.slice A t.rs.length c) := b7.cell 0
       have H7 := Lib.hid (H6.out.rows_put ((Only.refl _ _).grown hg7 (fun k hk => .inl hk)) ho7)
       clear ho7 hg7 b7))
  all_goals (
    have hlen : (t.rs ++ [(⟨m.ho, m.nk⟩ : Rg)]).length = t.rs.length + 1 := by simp
    have hP := H7.out
    rw [hlen] at hP
    have HP := Lib.hid hP.1; have HBP := Lib.hid (HB6.out.trans hP.2)
    clear hP hlen
    go_upto_region 3 with (fail)
    generalize w7.setCell ⟨p, 0, none⟩ (.slice A7 (t.rs.length + 1) q7) = w3 at *
    clear c0 c14 c7 e0 e14 e6 e7 f7
    have c3 : w3.cell? ⟨p, 3, none⟩ = some (.int .u32 t.ge) := HP.out.blk.cell 3
    have f3 := HP.out.blk.free 3
    have hig : IntKind.u32.wrap (t.ge + 1) = incG t.ge := rfl
    obtain ⟨g1, g2⟩ := HP.out.put 3 (.int .u32 (incG t.ge)) (t' := newT t m) rfl rfl
    have H4 := Lib.hid g1; have HB4 := Lib.hid (HBP.out.trans g2)
    clear g1 g2
    go_wp2_with (fail)
    refine (HAP.out _ _ _ _ _ H4.out).mono ?_; rintro e w9 ⟨rfl, A9, c9, B9, e9, h9, hb9⟩
    have H9 := Lib.hid h9; have HB9 := Lib.hid (HB4.out.trans hb9)
    clear h9 hb9
    go_wp2_with (fail)
    go_ret
    exact ⟨rfl, A9, c9, B9, e9, H9.out, HB9.out⟩
    )
set_option maxRecDepth 100000 in
set_option maxHeartbeats 4000000 in
theorem reg_new_k (w : World) (n0 p : Nat) (A : Option Addr) (c : Nat) (t : Tl) (m : Cm) (B : Option Addr) (e : Nat) (es : List Ev) (h : Chg w n0 p A c t m B e es) (hm : t.rs.length ≤ 1000) (hg : m.ig = false) (hn : (m.ke != keyR t.rs m.ho) = false) (hs : m.ho.size ≤ 1000) (hr : regB t.rs m.ho = false) (hk : (m.nk == 0) = false) (h16 : t.rs.length ≠ 16) :
    Calls Tryd.prog 55 #[.pointer (some ⟨p, 0, none⟩)] w fun e w' => e = .returned (.int .i64 1) ∧ WrO n0 p (setAp (newT t m) m) m es w w' := by
  have H := Lib.hid h
  have HIG := Lib.hid hg
  clear hg
  have HN := Lib.hid hn
  clear hn
  have hf := findQ_none (q := isH m.ho) hr
  have HF := Lib.hid hf
  clear hf hr
  have HAP := Lib.hid (fun v A c B e (hv : Chg v n0 p A c (newT t m) m B e es) => aptpl_any v n0 p A c (newT t m) m B e es hv)
  clear h
  go_enter Tryd.func55, Tryd.ntmps55
  go_upto_region 1 with (fail)
  obtain ⟨C1, hC0, hCl, hCi, hCm⟩ := class_ch H.out.at_
  have HC0 := Lib.hid hC0; have HL := Lib.hid hCl; have HCi := Lib.hid hCi; have HCm := Lib.hid hCm
  clear hC0 hCl hCi hCm
  have HI := Lib.hid (fun v (hv : C1 v) => indexOf_any A c t.rs m.ho v (HL.out v hv).rgs (by unfold maxLen; omega))
  rw [HF.out] at HI
  refine wp_region_class C1 (by kernel_rfl) (by kernel_rfl) HC0.out ?_
  go_big_quiet_want
  go_big_quiet_op
  first | go_big_quiet_on | (refine ⟨_, fun _ _ => rfl, ?_⟩; go_big_quiet_on)
  go_big_quiet_want
  go_big_quiet_op
  first | go_big_quiet_on | (refine ⟨_, fun _ _ => rfl, ?_⟩; go_big_quiet_on)
  go_big_quiet_want
  go_big_quiet_op
  first | go_big_quiet_on | (refine ⟨_, fun _ _ => rfl, ?_⟩; go_big_quiet_on)
  go_big_quiet_want
  go_big_quiet_op
  first | go_big_quiet_on | (refine ⟨_, fun _ _ => rfl, ?_⟩; go_big_quiet_on)
  go_big_quiet_want
  refine quiet_run (v := .slice A t.rs.length c) (fun v hv => by have hr := (HL.out v hv).r; obtain ⟨c0, c1, c2, c3, c4, c7, c13, c14, c15, c16, c17, c18⟩ := hr; go_simp) ?_
  simp only [Act.put, List.setIfInBounds_toArray, List.set_cons_zero, List.set_cons_succ]
  go_big_quiet_on
  go_big_quiet_want
  go_big_quiet_op
  first | go_big_quiet_on | (refine ⟨_, fun _ _ => rfl, ?_⟩; go_big_quiet_on)
  go_big_quiet_want
  go_big_quiet_op
  first | go_big_quiet_on | (refine ⟨_, fun _ _ => rfl, ?_⟩; go_big_quiet_on)
  go_big_quiet_want
  go_big_quiet_op
  first | go_big_quiet_on | (refine ⟨_, fun _ _ => rfl, ?_⟩; go_big_quiet_on)
  go_big_quiet_want
  go_big_quiet_op
  first | go_big_quiet_on | (refine ⟨_, fun _ _ => rfl, ?_⟩; go_big_quiet_on)
  go_big_quiet_want
  refine quiet_run (v := .string m.ho) (fun v hv => by have hr := (HL.out v hv).r; obtain ⟨c0, c1, c2, c3, c4, c7, c13, c14, c15, c16, c17, c18⟩ := hr; go_simp) ?_
  simp only [Act.put, List.setIfInBounds_toArray, List.set_cons_zero, List.set_cons_succ]
  go_big_quiet_on
  go_big_quiet_want
  refine quiet_call (f := 35) (args := #[.slice A t.rs.length c, .string m.ho]) (fun v _ => by go_simp) (fun v hv => (HI.out v hv).mono (fun e w' h => ⟨h.1, HCm.out v w' hv h.2⟩)) ?_
  simp only [Act.put, List.setIfInBounds_toArray, List.set_cons_zero, List.set_cons_succ]
  go_big_quiet_on
  go_big_quiet_want
  go_big_quiet_op
  first | go_big_quiet_on | (refine ⟨_, fun _ _ => rfl, ?_⟩; go_big_quiet_on)

  intro w1 hC1
  have HB1 := Lib.hid (HCi.out w1 hC1)
  have H1 := Lib.hid (H.out.below HB1.out)
  clear hC1 HC0 HL HCi HCm HI C1
  go_upto_region 4 with (fail)
  obtain ⟨C2, hC0, hCl, hCi, hCm⟩ := class_ch H1.out.at_
  have HC0 := Lib.hid hC0; have HL := Lib.hid hCl; have HCi := Lib.hid hCi; have HCm := Lib.hid hCm
  clear hC0 hCl hCi hCm
  have HK := Lib.hid (fun v (hv : C2 v) => key_any A c t m.ho v (HL.out v hv).rgs (by unfold maxLen; omega))
  refine wp_region_class C2 (by kernel_rfl) (by kernel_rfl) HC0.out ?_
  go_big_quiet_want
  go_big_quiet_op
  first | go_big_quiet_on | (refine ⟨_, fun _ _ => rfl, ?_⟩; go_big_quiet_on)
  go_big_quiet_want
  go_big_quiet_op
  first | go_big_quiet_on | (refine ⟨_, fun _ _ => rfl, ?_⟩; go_big_quiet_on)
  go_big_quiet_want
  go_big_quiet_op
  first | go_big_quiet_on | (refine ⟨_, fun _ _ => rfl, ?_⟩; go_big_quiet_on)
  go_big_quiet_want
  go_big_quiet_op
  first | go_big_quiet_on | (refine ⟨_, fun _ _ => rfl, ?_⟩; go_big_quiet_on)
  go_big_quiet_want
  refine quiet_run (v := .bool false) (fun v hv => by have hr := (HL.out v hv).r; obtain ⟨c0, c1, c2, c3, c4, c7, c13, c14, c15, c16, c17, c18⟩ := hr; rw [HIG.out] at c17; go_simp) ?_
  simp only [Act.put, List.setIfInBounds_toArray, List.set_cons_zero, List.set_cons_succ]
  go_big_quiet_on
  go_big_quiet_want
  refine quiet_run (v := .bool true) (fun v hv => by rfl) ?_
  simp only [Act.put, List.setIfInBounds_toArray, List.set_cons_zero, List.set_cons_succ]
  go_big_quiet_on
  go_big_quiet_want
  go_big_quiet_op
  first | go_big_quiet_on | (refine ⟨_, fun _ _ => rfl, ?_⟩; go_big_quiet_on)
  go_big_quiet_want
  go_big_quiet_op
  first | go_big_quiet_on | (refine ⟨_, fun _ _ => rfl, ?_⟩; go_big_quiet_on)
  go_big_quiet_want
  go_big_quiet_op
  first | go_big_quiet_on | (refine ⟨_, fun _ _ => rfl, ?_⟩; go_big_quiet_on)
  go_big_quiet_want
  go_big_quiet_op
  first | go_big_quiet_on | (refine ⟨_, fun _ _ => rfl, ?_⟩; go_big_quiet_on)
  go_big_quiet_want
  go_big_quiet_op
  first | go_big_quiet_on | (refine ⟨_, fun _ _ => rfl, ?_⟩; go_big_quiet_on)
  go_big_quiet_want
  refine quiet_run (v := .int .u64 m.ke) (fun v hv => by have hr := (HL.out v hv).r; obtain ⟨c0, c1, c2, c3, c4, c7, c13, c14, c15, c16, c17, c18⟩ := hr; rw [HIG.out] at c17; go_simp) ?_
  simp only [Act.put, List.setIfInBounds_toArray, List.set_cons_zero, List.set_cons_succ]
  go_big_quiet_on
  go_big_quiet_want
  go_big_quiet_op
  first | go_big_quiet_on | (refine ⟨_, fun _ _ => rfl, ?_⟩; go_big_quiet_on)
  go_big_quiet_want
  go_big_quiet_op
  first | go_big_quiet_on | (refine ⟨_, fun _ _ => rfl, ?_⟩; go_big_quiet_on)
  go_big_quiet_want
  go_big_quiet_op
  first | go_big_quiet_on | (refine ⟨_, fun _ _ => rfl, ?_⟩; go_big_quiet_on)
  go_big_quiet_want
  refine quiet_run (v := tlV A c t) (fun v hv => by have hr := (HL.out v hv).r; obtain ⟨c0, c1, c2, c3, c4, c7, c13, c14, c15, c16, c17, c18⟩ := hr; rw [HIG.out] at c17; go_simp) ?_
  simp only [Act.put, List.setIfInBounds_toArray, List.set_cons_zero, List.set_cons_succ]
  go_big_quiet_on
  go_big_quiet_want
  go_big_quiet_op
  first | go_big_quiet_on | (refine ⟨_, fun _ _ => rfl, ?_⟩; go_big_quiet_on)
  go_big_quiet_want
  go_big_quiet_op
  first | go_big_quiet_on | (refine ⟨_, fun _ _ => rfl, ?_⟩; go_big_quiet_on)
  go_big_quiet_want
  go_big_quiet_op
  first | go_big_quiet_on | (refine ⟨_, fun _ _ => rfl, ?_⟩; go_big_quiet_on)
  go_big_quiet_want
  go_big_quiet_op
  first | go_big_quiet_on | (refine ⟨_, fun _ _ => rfl, ?_⟩; go_big_quiet_on)
  go_big_quiet_want
  refine quiet_run (v := .string m.ho) (fun v hv => by have hr := (HL.out v hv).r; obtain ⟨c0, c1, c2, c3, c4, c7, c13, c14, c15, c16, c17, c18⟩ := hr; rw [HIG.out] at c17; go_simp) ?_
  simp only [Act.put, List.setIfInBounds_toArray, List.set_cons_zero, List.set_cons_succ]
  go_big_quiet_on
  go_big_quiet_want
  refine quiet_call (f := 16) (args := #[tlV A c t, .string m.ho]) (fun v _ => by go_simp) (fun v hv => (HK.out v hv).mono (fun e w' h => ⟨h.1, HCm.out v w' hv h.2⟩)) ?_
  simp only [Act.put, List.setIfInBounds_toArray, List.set_cons_zero, List.set_cons_succ]
  go_big_quiet_on
  go_big_quiet_want
  refine quiet_run (v := .bool false) (fun v hv => by have := HN.out; go_simp) ?_
  simp only [Act.put, List.setIfInBounds_toArray, List.set_cons_zero, List.set_cons_succ]
  go_big_quiet_on
  go_big_quiet_want
  go_big_quiet_op
  first | go_big_quiet_on | (refine ⟨_, fun _ _ => rfl, ?_⟩; go_big_quiet_on)
  go_big_quiet_want
  go_big_quiet_op
  first | go_big_quiet_on | (refine ⟨_, fun _ _ => rfl, ?_⟩; go_big_quiet_on)

  intro w2 hC2
  have HB2 := Lib.hid ((HB1.out.mono H.out.lt).trans ((HCi.out w2 hC2).mono H1.out.lt))
  have HBQ := Lib.hid (HB1.out.trans ((HCi.out w2 hC2).mono HB1.out.size))
  have H2 := Lib.hid (H1.out.below (HCi.out w2 hC2))
  clear hC2 HC0 HL HCi HCm HK C2
  have c14 := H2.out.at_.r.nk
  have c0 := H2.out.at_.r.rs
  have c7 := H2.out.at_.r.ho
  have h16b : ((t.rs.length : Int) == 16) = false := by rw [int_beq]; exact decide_eq_false (by omega)
  go_upto_region 2 with (fail)
  go_region_law (first
    | (refine step_clone (by rfl) (.tmp 25) (by rfl) m.ho (by rfl) (by omega) ?_
       intro w5 hb5
       have H5 := Lib.hid (H2.out.below ((Below.refl w2.heap.size w2).drew.trans hb5)); have HB5 := Lib.hid (HB2.out.trans (((Below.refl w2.heap.size w2).drew.trans hb5).mono H2.out.lt))
       have e0 : w5.cell? ⟨p, 0, none⟩ = some (.slice A t.rs.length c) := H5.out.blk.cell 0
       have e14 : w5.cell? ⟨p, 14, none⟩ = some (.int .u64 m.nk) := H5.out.blk.cell 14
       have hal := (Below.refl w5.heap.size w5).alloc (Nat.le_refl _) (.cells (regC ⟨m.ho, m.nk⟩) 57)
       have H6 := Lib.hid (H5.out.below hal); have HB6 := Lib.hid (HB5.out.trans (hal.mono H5.out.lt))
       have e6 : (w5.alloc (.cells (regC ⟨m.ho, m.nk⟩) 57)).cell? ⟨p, 0, none⟩ = some (.slice A t.rs.length c) := H6.out.blk.cell 0
       clear hb5 hal)
    | (refine step_rg (by rfl) (.tmp 20) (.tmp 33) (by rfl) n0 A c t.rs (by rfl) H6.out.rgs w5.heap.size ⟨m.ho, m.nk⟩ (by rfl) (by unfold maxLen; show m.ho.size ≤ _; omega) (Blk.new w5 57 _) (by omega) H6.out.lt ?_
       intro A7 q7 w7 ho7 hg7
       have b7 := H6.out.blk.grown hg7 (Ne.symm H6.out.apart.1)
       have f7 := b7.free 0
       have e7 : w7.cell? ⟨p, 0, none⟩ = some (.slice A t.rs.length c) := b7.cell 0
       have H7 := Lib.hid (H6.out.rows_put ((Only.refl _ _).grown hg7 (fun k hk => .inl hk)) ho7)
       clear ho7 hg7 b7))
  all_goals (
    have hlen : (t.rs ++ [(⟨m.ho, m.nk⟩ : Rg)]).length = t.rs.length + 1 := by simp
    have hP := H7.out
    rw [hlen] at hP
    have HP := Lib.hid hP.1; have HBP := Lib.hid (HB6.out.trans hP.2)
    clear hP hlen
    go_upto_region 3 with (fail)
    generalize w7.setCell ⟨p, 0, none⟩ (.slice A7 (t.rs.length + 1) q7) = w3 at *
    clear c0 c14 c7 e0 e14 e6 e7 f7
    have c3 : w3.cell? ⟨p, 3, none⟩ = some (.int .u32 t.ge) := HP.out.blk.cell 3
    have f3 := HP.out.blk.free 3
    have hig : IntKind.u32.wrap (t.ge + 1) = incG t.ge := rfl
    obtain ⟨g1, g2⟩ := HP.out.put 3 (.int .u32 (incG t.ge)) (t' := newT t m) rfl rfl
    have H4 := Lib.hid g1; have HB4 := Lib.hid (HBP.out.trans g2)
    clear g1 g2
    go_wp2_with (fail)
    refine (HAP.out _ _ _ _ _ H4.out).mono ?_; rintro e w9 ⟨rfl, A9, c9, B9, e9, h9, hb9⟩
    have H9 := Lib.hid h9; have HB9 := Lib.hid (HB4.out.trans hb9)
    clear h9 hb9
    go_wp2_with (fail)
    go_ret
    exact ⟨rfl, A9, c9, B9, e9, H9.out, HB9.out⟩
    )
open Go.RowKit
theorem reg_any (w : World) (n0 p : Nat) (A : Option Addr) (c : Nat) (t : Tl) (m : Cm) (B : Option Addr) (e : Nat) (es : List Ev) (h : Chg w n0 p A c t m B e es) (hm : t.rs.length ≤ 1000) (hs : m.ho.size ≤ 1000) (hx : ∀ x ∈ t.rs, x.h.size ≤ 1000) (he : es.length ≤ 1000) :
    Calls Tryd.prog 55 #[.pointer (some ⟨p, 0, none⟩)] w fun e w' => e = .returned (.int .i64 (regCode t m)) ∧ WrO n0 p (regT t m) m (regE t m es) w w' := by
  by_cases hn : (!m.ig && m.ke != keyR t.rs m.ho) = true
  · have hg : m.ig = false := by cases h0 : m.ig with | false => rfl | true => rw [h0] at hn; cases hn
    have hn' : (m.ke != keyR t.rs m.ho) = true := by rw [hg] at hn; exact hn
    rw [show regCode t m = 2 by unfold regCode; rw [if_pos hn], show regT t m = t by unfold regT; rw [if_pos hn], show regE t m es = es by unfold regE; rw [if_pos hn]]
    exact reg_conflict w n0 p A c t m B e es h hm hg hn'
  · have hsel : m.ig = true ∨ (m.ig = false ∧ (m.ke != keyR t.rs m.ho) = false) := by
      cases h0 : m.ig with
      | true => exact .inl rfl
      | false =>
        refine .inr ⟨rfl, ?_⟩
        cases h1 : (m.ke != keyR t.rs m.ho) with
        | false => rfl
        | true => rw [h0, h1] at hn; exact absurd rfl hn
    by_cases hk : m.nk = 0
    · have hkb : (m.nk == 0) = true := by rw [int_beq]; exact decide_eq_true hk
      rw [show regCode t m = 1 by unfold regCode; rw [if_neg hn, if_pos hk], show regT t m = setAp (unregT t m) m by unfold regT; rw [if_neg hn, if_pos hk], show regE t m es = unregE t m es by unfold regE; rw [if_neg hn, if_pos hk]]
      rcases hsel with hg | ⟨hg, hq⟩
      · exact reg_un_i w n0 p A c t m B e es h hm hg hx he hkb
      · exact reg_un_k w n0 p A c t m B e es h hm hg hq hx he hkb
    · have hkb : (m.nk == 0) = false := by rw [int_beq]; exact decide_eq_false hk
      rw [show regE t m es = es by unfold regE; rw [if_neg hn, if_neg hk]]
      cases hr : regB t.rs m.ho with
      | true =>
        rw [show regCode t m = 1 by unfold regCode; rw [if_neg hn, if_neg hk, if_pos hr], show regT t m = setAp (keyT t m) m by unfold regT; rw [if_neg hn, if_neg hk, if_pos hr]]
        rcases hsel with hg | ⟨hg, hq⟩
        · exact reg_key_i w n0 p A c t m B e es h hm hg hr hkb
        · exact reg_key_k w n0 p A c t m B e es h hm hg hq hr hkb
      | false =>
        have hr' : ¬ regB t.rs m.ho = true := by rw [hr]; decide
        by_cases h16 : t.rs.length = 16
        · rw [show regCode t m = 8 by unfold regCode; rw [if_neg hn, if_neg hk, if_neg hr', if_pos h16], show regT t m = t by unfold regT; rw [if_neg hn, if_neg hk, if_neg hr', if_pos h16]]
          rcases hsel with hg | ⟨hg, hq⟩
          · exact reg_full_i w n0 p A c t m B e es h hm hg hr hkb h16
          · exact reg_full_k w n0 p A c t m B e es h hm hg hq hr hkb h16
        · rw [show regCode t m = 1 by unfold regCode; rw [if_neg hn, if_neg hk, if_neg hr', if_neg h16], show regT t m = setAp (newT t m) m by unfold regT; rw [if_neg hn, if_neg hk, if_neg hr', if_neg h16]]
          rcases hsel with hg | ⟨hg, hq⟩
          · exact reg_new_i w n0 p A c t m B e es h hm hg hs hr hkb h16
          · exact reg_new_k w n0 p A c t m B e es h hm hg hq hs hr hkb h16
end Go.Proofs.YtgekadfkokkapaaDoor
