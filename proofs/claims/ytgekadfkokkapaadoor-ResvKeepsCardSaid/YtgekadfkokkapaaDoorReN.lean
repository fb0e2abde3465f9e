/- Who asks is registered: a key turned, one more. -/
import Derived.Test.YtgekadfkokkapaaDoorReM
namespace Go.Proofs.YtgekadfkokkapaaDoor
open Go.RowKit
set_option maxRecDepth 100000 in
set_option maxHeartbeats 4000000 in
theorem reg_full_i (w : World) (n0 p : Nat) (A : Option Addr) (c : Nat) (t : Tl) (m : Cm) (B : Option Addr) (e : Nat) (es : List Ev) (h : Chg w n0 p A c t m B e es) (_hm : t.rs.length ≤ 1000) (hg : m.ig = true) (hr : regB t.rs m.ho = false) (hk : (m.nk == 0) = false) (h16 : t.rs.length = 16) :
    Calls Tryd.prog 55 #[.pointer (some ⟨p, 0, none⟩)] w fun e w' => e = .returned (.int .i64 8) ∧ WrO n0 p t m es w w' := by
  have H := Lib.hid h
  have HIG := Lib.hid hg
  clear hg
  have hf := findQ_none (q := isH m.ho) hr
  have HF := Lib.hid hf
  clear hf hr
  clear h
  go_enter Tryd.func55, Tryd.ntmps55
  go_upto_region 1 with (fail)
  obtain ⟨C1, hC0, hCl, hCi, hCm⟩ := class_ch H.out.at_
  have HC0 := Lib.hid hC0; have HL := Lib.hid hCl; have HCi := Lib.hid hCi; have HCm := Lib.hid hCm
  clear hC0 hCl hCi hCm
  have HI := Lib.hid (fun v (hv : C1 v) => indexOf_any A c t.rs m.ho v (HL.out v hv).rgs (by unfold maxLen; omega))
  rw [HF.out] at HI
  refine wp_region_class C1 (by kernel_rfl) (by kernel_rfl) HC0.out ?_
  go_big_quiet_want
  go_big_quiet_op
  first | go_big_quiet_on | (refine ⟨_, fun _ _ => rfl, ?_⟩; go_big_quiet_on)
  go_big_quiet_want
  go_big_quiet_op
  first | go_big_quiet_on | (refine ⟨_, fun _ _ => rfl, ?_⟩; go_big_quiet_on)
  go_big_quiet_want
  go_big_quiet_op
  first | go_big_quiet_on | (refine ⟨_, fun _ _ => rfl, ?_⟩; go_big_quiet_on)
  go_big_quiet_want
  go_big_quiet_op
  first | go_big_quiet_on | (refine ⟨_, fun _ _ => rfl, ?_⟩; go_big_quiet_on)
  go_big_quiet_want
  refine quiet_run (v := .slice A t.rs.length c) (fun v hv => by have hr := (HL.out v hv).r; obtain ⟨c0, c1, c2, c3, c4, c7, c13, c14, c15, c16, c17, c18⟩ := hr; go_simp) ?_
  simp only [Act.put, List.setIfInBounds_toArray, List.set_cons_zero, List.set_cons_succ]
  go_big_quiet_on
  go_big_quiet_want
  go_big_quiet_op
  first | go_big_quiet_on | (refine ⟨_, fun _ _ => rfl, ?_⟩; go_big_quiet_on)
  go_big_quiet_want
  go_big_quiet_op
  first | go_big_quiet_on | (refine ⟨_, fun _ _ => rfl, ?_⟩; go_big_quiet_on)
  go_big_quiet_want
  go_big_quiet_op
  first | go_big_quiet_on | (refine ⟨_, fun _ _ => rfl, ?_⟩; go_big_quiet_on)
  go_big_quiet_want
  go_big_quiet_op
  first | go_big_quiet_on | (refine ⟨_, fun _ _ => rfl, ?_⟩; go_big_quiet_on)
  go_big_quiet_want
  refine quiet_run (v := .string m.ho) (fun v hv => by have hr := (HL.out v hv).r; obtain ⟨c0, c1, c2, c3, c4, c7, c13, c14, c15, c16, c17, c18⟩ := hr; go_simp) ?_
  simp only [Act.put, List.setIfInBounds_toArray, List.set_cons_zero, List.set_cons_succ]
  go_big_quiet_on
  go_big_quiet_want
  refine quiet_call (f := 35) (args := #[.slice A t.rs.length c, .string m.ho]) (fun v _ => by go_simp) (fun v hv => (HI.out v hv).mono (fun e w' h => ⟨h.1, HCm.out v w' hv h.2⟩)) ?_
  simp only [Act.put, List.setIfInBounds_toArray, List.set_cons_zero, List.set_cons_succ]
  go_big_quiet_on
  go_big_quiet_want
  go_big_quiet_op
  first | go_big_quiet_on | (refine ⟨_, fun _ _ => rfl, ?_⟩; go_big_quiet_on)

  intro w1 hC1
  have HB1 := Lib.hid (HCi.out w1 hC1)
  have H1 := Lib.hid (H.out.below HB1.out)
  clear hC1 HC0 HL HCi HCm HI C1
  go_upto_region 4 with (fail)
  obtain ⟨C2, hC0, hCl, hCi, hCm⟩ := class_ch H1.out.at_
  have HC0 := Lib.hid hC0; have HL := Lib.hid hCl; have HCi := Lib.hid hCi; have HCm := Lib.hid hCm
  clear hC0 hCl hCi hCm
  have HK := Lib.hid (fun v (hv : C2 v) => key_any A c t m.ho v (HL.out v hv).rgs (by unfold maxLen; omega))
  refine wp_region_class C2 (by kernel_rfl) (by kernel_rfl) HC0.out ?_
  go_big_quiet_want
  go_big_quiet_op
  first | go_big_quiet_on | (refine ⟨_, fun _ _ => rfl, ?_⟩; go_big_quiet_on)
  go_big_quiet_want
  go_big_quiet_op
  first | go_big_quiet_on | (refine ⟨_, fun _ _ => rfl, ?_⟩; go_big_quiet_on)
  go_big_quiet_want
  go_big_quiet_op
  first | go_big_quiet_on | (refine ⟨_, fun _ _ => rfl, ?_⟩; go_big_quiet_on)
  go_big_quiet_want
  go_big_quiet_op
  first | go_big_quiet_on | (refine ⟨_, fun _ _ => rfl, ?_⟩; go_big_quiet_on)
  go_big_quiet_want
  refine quiet_run (v := .bool true) (fun v hv => by have hr := (HL.out v hv).r; obtain ⟨c0, c1, c2, c3, c4, c7, c13, c14, c15, c16, c17, c18⟩ := hr; rw [HIG.out] at c17; go_simp) ?_
  simp only [Act.put, List.setIfInBounds_toArray, List.set_cons_zero, List.set_cons_succ]
  go_big_quiet_on
  go_big_quiet_want
  refine quiet_run (v := .bool false) (fun v hv => by rfl) ?_
  simp only [Act.put, List.setIfInBounds_toArray, List.set_cons_zero, List.set_cons_succ]
  go_big_quiet_on
  go_big_quiet_want
  go_big_quiet_op
  first | go_big_quiet_on | (refine ⟨_, fun _ _ => rfl, ?_⟩; go_big_quiet_on)
  go_big_quiet_skip
  go_big_quiet_skip
  go_big_quiet_skip
  go_big_quiet_skip
  go_big_quiet_skip
  go_big_quiet_skip
  go_big_quiet_skip
  go_big_quiet_skip
  go_big_quiet_skip
  go_big_quiet_skip
  go_big_quiet_skip
  go_big_quiet_skip
  go_big_quiet_skip
  go_big_quiet_skip
  go_big_quiet_skip
  go_big_quiet_skip
  go_big_quiet_want
  go_big_quiet_op
  first | go_big_quiet_on | (refine ⟨_, fun _ _ => rfl, ?_⟩; go_big_quiet_on)
  go_big_quiet_want
  go_big_quiet_op
  first | go_big_quiet_on | (refine ⟨_, fun _ _ => rfl, ?_⟩; go_big_quiet_on)

  intro w2 hC2
  have HB2 := Lib.hid ((HB1.out.mono H.out.lt).trans ((HCi.out w2 hC2).mono H1.out.lt))
  have HBQ := Lib.hid (HB1.out.trans ((HCi.out w2 hC2).mono HB1.out.size))
  have H2 := Lib.hid (H1.out.below (HCi.out w2 hC2))
  clear hC2 HC0 HL HCi HCm HK C2
  have c14 := H2.out.at_.r.nk
  have c0 := H2.out.at_.r.rs
  rw [h16] at c0
  go_wp2_with (fail)
  go_ret
  exact ⟨rfl, A, c, B, e, H2.out, HB2.out⟩
set_option maxRecDepth 100000 in
set_option maxHeartbeats 4000000 in
theorem reg_key_i (w : World) (n0 p : Nat) (A : Option Addr) (c : Nat) (t : Tl) (m : Cm) (B : Option Addr) (e : Nat) (es : List Ev) (h : Chg w n0 p A c t m B e es) (hm : t.rs.length ≤ 1000) (hg : m.ig = true) (hr : regB t.rs m.ho = true) (hk : (m.nk == 0) = false) :
    Calls Tryd.prog 55 #[.pointer (some ⟨p, 0, none⟩)] w fun e w' => e = .returned (.int .i64 1) ∧ WrO n0 p (setAp (keyT t m) m) m es w w' := by
  obtain ⟨k, x0, hf, hx0, hq0, hk0⟩ := findQ_some (q := isH m.ho) hr
  have hkn := (List.getElem?_eq_some_iff.1 hx0).1
  obtain ⟨g, rfl, hg0, hrow⟩ := RowR.of h.rgs (by omega)
  have HRW := Lib.hid hrow; have HG := Lib.hid hg0; have HX0 := Lib.hid hx0
  have HF := Lib.hid hf
  have HKE : Hid (keyed t.rs m.ho m.nk = t.rs.set k ⟨x0.h, m.nk⟩) := by
    show keyed t.rs m.ho m.nk = t.rs.set k ⟨x0.h, m.nk⟩
    unfold keyed
    rw [← hk0, List.getD_eq_getElem?_getD, hx0]
    rfl
  clear hrow hg0 hf hx0 hq0 hk0 hr
  have H := Lib.hid h
  have HIG := Lib.hid hg
  clear hg
  have HAP := Lib.hid (fun v A c B e (hv : Chg v n0 p A c (keyT t m) m B e es) => aptpl_any v n0 p A c (keyT t m) m B e es hv)
  clear h
  go_enter Tryd.func55, Tryd.ntmps55
  go_upto_region 1 with (fail)
  obtain ⟨C1, hC0, hCl, hCi, hCm⟩ := class_ch H.out.at_
  have HC0 := Lib.hid hC0; have HL := Lib.hid hCl; have HCi := Lib.hid hCi; have HCm := Lib.hid hCm
  clear hC0 hCl hCi hCm
  have HI := Lib.hid (fun v (hv : C1 v) => indexOf_any (some ⟨g, 0, none⟩) c t.rs m.ho v (HL.out v hv).rgs (by unfold maxLen; omega))
  rw [HF.out] at HI
  refine wp_region_class C1 (by kernel_rfl) (by kernel_rfl) HC0.out ?_
  go_big_quiet_want
  go_big_quiet_op
  first | go_big_quiet_on | (refine ⟨_, fun _ _ => rfl, ?_⟩; go_big_quiet_on)
  go_big_quiet_want
  go_big_quiet_op
  first | go_big_quiet_on | (refine ⟨_, fun _ _ => rfl, ?_⟩; go_big_quiet_on)
  go_big_quiet_want
  go_big_quiet_op
  first | go_big_quiet_on | (refine ⟨_, fun _ _ => rfl, ?_⟩; go_big_quiet_on)
  go_big_quiet_want
  go_big_quiet_op
  first | go_big_quiet_on | (refine ⟨_, fun _ _ => rfl, ?_⟩; go_big_quiet_on)
  go_big_quiet_want
  refine quiet_run (v := .slice (some ⟨g, 0, none⟩) t.rs.length c) (fun v hv => by have hr := (HL.out v hv).r; obtain ⟨c0, c1, c2, c3, c4, c7, c13, c14, c15, c16, c17, c18⟩ := hr; go_simp) ?_
  simp only [Act.put, List.setIfInBounds_toArray, List.set_cons_zero, List.set_cons_succ]
  go_big_quiet_on
  go_big_quiet_want
  go_big_quiet_op
  first | go_big_quiet_on | (refine ⟨_, fun _ _ => rfl, ?_⟩; go_big_quiet_on)
  go_big_quiet_want
  go_big_quiet_op
  first | go_big_quiet_on | (refine ⟨_, fun _ _ => rfl, ?_⟩; go_big_quiet_on)
  go_big_quiet_want
  go_big_quiet_op
  first | go_big_quiet_on | (refine ⟨_, fun _ _ => rfl, ?_⟩; go_big_quiet_on)
  go_big_quiet_want
  go_big_quiet_op
  first | go_big_quiet_on | (refine ⟨_, fun _ _ => rfl, ?_⟩; go_big_quiet_on)
  go_big_quiet_want
  refine quiet_run (v := .string m.ho) (fun v hv => by have hr := (HL.out v hv).r; obtain ⟨c0, c1, c2, c3, c4, c7, c13, c14, c15, c16, c17, c18⟩ := hr; go_simp) ?_
  simp only [Act.put, List.setIfInBounds_toArray, List.set_cons_zero, List.set_cons_succ]
  go_big_quiet_on
  go_big_quiet_want
  refine quiet_call (f := 35) (args := #[.slice (some ⟨g, 0, none⟩) t.rs.length c, .string m.ho]) (fun v _ => by go_simp) (fun v hv => (HI.out v hv).mono (fun e w' h => ⟨h.1, HCm.out v w' hv h.2⟩)) ?_
  simp only [Act.put, List.setIfInBounds_toArray, List.set_cons_zero, List.set_cons_succ]
  go_big_quiet_on
  go_big_quiet_want
  go_big_quiet_op
  first | go_big_quiet_on | (refine ⟨_, fun _ _ => rfl, ?_⟩; go_big_quiet_on)

  intro w1 hC1
  have HB1 := Lib.hid (HCi.out w1 hC1)
  have H1 := Lib.hid (H.out.below HB1.out)
  clear hC1 HC0 HL HCi HCm HI C1
  go_upto_region 4 with (fail)
  obtain ⟨C2, hC0, hCl, hCi, hCm⟩ := class_ch H1.out.at_
  have HC0 := Lib.hid hC0; have HL := Lib.hid hCl; have HCi := Lib.hid hCi; have HCm := Lib.hid hCm
  clear hC0 hCl hCi hCm
  have HK := Lib.hid (fun v (hv : C2 v) => key_any (some ⟨g, 0, none⟩) c t m.ho v (HL.out v hv).rgs (by unfold maxLen; omega))
  refine wp_region_class C2 (by kernel_rfl) (by kernel_rfl) HC0.out ?_
  go_big_quiet_want
  go_big_quiet_op
  first | go_big_quiet_on | (refine ⟨_, fun _ _ => rfl, ?_⟩; go_big_quiet_on)
  go_big_quiet_want
  go_big_quiet_op
  first | go_big_quiet_on | (refine ⟨_, fun _ _ => rfl, ?_⟩; go_big_quiet_on)
  go_big_quiet_want
  go_big_quiet_op
  first | go_big_quiet_on | (refine ⟨_, fun _ _ => rfl, ?_⟩; go_big_quiet_on)
  go_big_quiet_want
  go_big_quiet_op
  first | go_big_quiet_on | (refine ⟨_, fun _ _ => rfl, ?_⟩; go_big_quiet_on)
  go_big_quiet_want
  refine quiet_run (v := .bool true) (fun v hv => by have hr := (HL.out v hv).r; obtain ⟨c0, c1, c2, c3, c4, c7, c13, c14, c15, c16, c17, c18⟩ := hr; rw [HIG.out] at c17; go_simp) ?_
  simp only [Act.put, List.setIfInBounds_toArray, List.set_cons_zero, List.set_cons_succ]
  go_big_quiet_on
  go_big_quiet_want
  refine quiet_run (v := .bool false) (fun v hv => by rfl) ?_
  simp only [Act.put, List.setIfInBounds_toArray, List.set_cons_zero, List.set_cons_succ]
  go_big_quiet_on
  go_big_quiet_want
  go_big_quiet_op
  first | go_big_quiet_on | (refine ⟨_, fun _ _ => rfl, ?_⟩; go_big_quiet_on)
  go_big_quiet_skip
  go_big_quiet_skip
  go_big_quiet_skip
  go_big_quiet_skip
  go_big_quiet_skip
  go_big_quiet_skip
  go_big_quiet_skip
  go_big_quiet_skip
  go_big_quiet_skip
  go_big_quiet_skip
  go_big_quiet_skip
  go_big_quiet_skip
  go_big_quiet_skip
  go_big_quiet_skip
  go_big_quiet_skip
  go_big_quiet_skip
  go_big_quiet_want
  go_big_quiet_op
  first | go_big_quiet_on | (refine ⟨_, fun _ _ => rfl, ?_⟩; go_big_quiet_on)
  go_big_quiet_want
  go_big_quiet_op
  first | go_big_quiet_on | (refine ⟨_, fun _ _ => rfl, ?_⟩; go_big_quiet_on)

  intro w2 hC2
  have HB2 := Lib.hid ((HB1.out.mono H.out.lt).trans ((HCi.out w2 hC2).mono H1.out.lt))
  have HBQ := Lib.hid (HB1.out.trans ((HCi.out w2 hC2).mono HB1.out.size))
  have H2 := Lib.hid (H1.out.below (HCi.out w2 hC2))
  clear hC2 HC0 HL HCi HCm HK C2
  have c14 := H2.out.at_.r.nk
  go_upto_region 9 with (fail)
  have c0 := H2.out.at_.r.rs
  have R2 : RowR w2 g c t.rs := RowR.keep HRW.out (HBQ.out.block g HRW.out.lt)
  have d1 := (R2.cells HX0.out).2
  have f1 := R2.free (k * 2 + 1)
  have hki : (k : Int) < t.rs.length := by omega
  obtain ⟨g1, g2⟩ := H2.out.key HG.out R2 k x0 HX0.out m.nk
  rw [← HKE.out] at g1
  have H3 := Lib.hid (g1.below ((Below.refl _ _).drew)); have HB3 := Lib.hid ((HB2.out.trans g2).drew)
  clear g1 g2
  go_region_law (fail)
  all_goals (
    go_upto_region 10 with (fail)
    generalize (w2.setCell ⟨g, k * 2 + 1, none⟩ (.int .u64 m.nk)).drew = w3 at *
    clear c0 c14 d1 f1
    have c3 : w3.cell? ⟨p, 3, none⟩ = some (.int .u32 t.ge) := H3.out.blk.cell 3
    have f3 := H3.out.blk.free 3
    have hig : IntKind.u32.wrap (t.ge + 1) = incG t.ge := rfl
    obtain ⟨g1, g2⟩ := H3.out.put 3 (.int .u32 (incG t.ge)) (t' := keyT t m) rfl rfl
    have H4 := Lib.hid g1; have HB4 := Lib.hid (HB3.out.trans g2)
    clear g1 g2
    go_wp2_with (fail)
    refine (HAP.out _ _ _ _ _ H4.out).mono ?_; rintro e w9 ⟨rfl, A9, c9, B9, e9, h9, hb9⟩
    have H9 := Lib.hid h9; have HB9 := Lib.hid (HB4.out.trans hb9)
    clear h9 hb9
    go_wp2_with (fail)
    go_ret
    exact ⟨rfl, A9, c9, B9, e9, H9.out, HB9.out⟩
    )
set_option maxRecDepth 100000 in
set_option maxHeartbeats 4000000 in
theorem reg_full_k (w : World) (n0 p : Nat) (A : Option Addr) (c : Nat) (t : Tl) (m : Cm) (B : Option Addr) (e : Nat) (es : List Ev) (h : Chg w n0 p A c t m B e es) (_hm : t.rs.length ≤ 1000) (hg : m.ig = false) (hn : (m.ke != keyR t.rs m.ho) = false) (hr : regB t.rs m.ho = false) (hk : (m.nk == 0) = false) (h16 : t.rs.length = 16) :
    Calls Tryd.prog 55 #[.pointer (some ⟨p, 0, none⟩)] w fun e w' => e = .returned (.int .i64 8) ∧ WrO n0 p t m es w w' := by
  have H := Lib.hid h
  have HIG := Lib.hid hg
  clear hg
  have HN := Lib.hid hn
  clear hn
  have hf := findQ_none (q := isH m.ho) hr
  have HF := Lib.hid hf
  clear hf hr
  clear h
  go_enter Tryd.func55, Tryd.ntmps55
  go_upto_region 1 with (fail)
  obtain ⟨C1, hC0, hCl, hCi, hCm⟩ := class_ch H.out.at_
  have HC0 := Lib.hid hC0; have HL := Lib.hid hCl; have HCi := Lib.hid hCi; have HCm := Lib.hid hCm
  clear hC0 hCl hCi hCm
  have HI := Lib.hid (fun v (hv : C1 v) => indexOf_any A c t.rs m.ho v (HL.out v hv).rgs (by unfold maxLen; omega))
  rw [HF.out] at HI
  refine wp_region_class C1 (by kernel_rfl) (by kernel_rfl) HC0.out ?_
  go_big_quiet_want
  go_big_quiet_op
  first | go_big_quiet_on | (refine ⟨_, fun _ _ => rfl, ?_⟩; go_big_quiet_on)
  go_big_quiet_want
  go_big_quiet_op
  first | go_big_quiet_on | (refine ⟨_, fun _ _ => rfl, ?_⟩; go_big_quiet_on)
  go_big_quiet_want
  go_big_quiet_op
  first | go_big_quiet_on | (refine ⟨_, fun _ _ => rfl, ?_⟩; go_big_quiet_on)
  go_big_quiet_want
  go_big_quiet_op
  first | go_big_quiet_on | (refine ⟨_, fun _ _ => rfl, ?_⟩; go_big_quiet_on)
  go_big_quiet_want
  refine quiet_run (v := .slice A t.rs.length c) (fun v hv => by have hr := (HL.out v hv).r; obtain ⟨c0, c1, c2, c3, c4, c7, c13, c14, c15, c16, c17, c18⟩ := hr; go_simp) ?_
  simp only [Act.put, List.setIfInBounds_toArray, List.set_cons_zero, List.set_cons_succ]
  go_big_quiet_on
  go_big_quiet_want
  go_big_quiet_op
  first | go_big_quiet_on | (refine ⟨_, fun _ _ => rfl, ?_⟩; go_big_quiet_on)
  go_big_quiet_want
  go_big_quiet_op
  first | go_big_quiet_on | (refine ⟨_, fun _ _ => rfl, ?_⟩; go_big_quiet_on)
  go_big_quiet_want
  go_big_quiet_op
  first | go_big_quiet_on | (refine ⟨_, fun _ _ => rfl, ?_⟩; go_big_quiet_on)
  go_big_quiet_want
  go_big_quiet_op
  first | go_big_quiet_on | (refine ⟨_, fun _ _ => rfl, ?_⟩; go_big_quiet_on)
  go_big_quiet_want
  refine quiet_run (v := .string m.ho) (fun v hv => by have hr := (HL.out v hv).r; obtain ⟨c0, c1, c2, c3, c4, c7, c13, c14, c15, c16, c17, c18⟩ := hr; go_simp) ?_
  simp only [Act.put, List.setIfInBounds_toArray, List.set_cons_zero, List.set_cons_succ]
  go_big_quiet_on
  go_big_quiet_want
  refine quiet_call (f := 35) (args := #[.slice A t.rs.length c, .string m.ho]) (fun v _ => by go_simp) (fun v hv => (HI.out v hv).mono (fun e w' h => ⟨h.1, HCm.out v w' hv h.2⟩)) ?_
  simp only [Act.put, List.setIfInBounds_toArray, List.set_cons_zero, List.set_cons_succ]
  go_big_quiet_on
  go_big_quiet_want
  go_big_quiet_op
  first | go_big_quiet_on | (refine ⟨_, fun _ _ => rfl, ?_⟩; go_big_quiet_on)

  intro w1 hC1
  have HB1 := Lib.hid (HCi.out w1 hC1)
  have H1 := Lib.hid (H.out.below HB1.out)
  clear hC1 HC0 HL HCi HCm HI C1
  go_upto_region 4 with (fail)
  obtain ⟨C2, hC0, hCl, hCi, hCm⟩ := class_ch H1.out.at_
  have HC0 := Lib.hid hC0; have HL := Lib.hid hCl; have HCi := Lib.hid hCi; have HCm := Lib.hid hCm
  clear hC0 hCl hCi hCm
  have HK := Lib.hid (fun v (hv : C2 v) => key_any A c t m.ho v (HL.out v hv).rgs (by unfold maxLen; omega))
  refine wp_region_class C2 (by kernel_rfl) (by kernel_rfl) HC0.out ?_
  go_big_quiet_want
  go_big_quiet_op
  first | go_big_quiet_on | (refine ⟨_, fun _ _ => rfl, ?_⟩; go_big_quiet_on)
  go_big_quiet_want
  go_big_quiet_op
  first | go_big_quiet_on | (refine ⟨_, fun _ _ => rfl, ?_⟩; go_big_quiet_on)
  go_big_quiet_want
  go_big_quiet_op
  first | go_big_quiet_on | (refine ⟨_, fun _ _ => rfl, ?_⟩; go_big_quiet_on)
  go_big_quiet_want
  go_big_quiet_op
  first | go_big_quiet_on | (refine ⟨_, fun _ _ => rfl, ?_⟩; go_big_quiet_on)
  go_big_quiet_want
  refine quiet_run (v := .bool false) (fun v hv => by have hr := (HL.out v hv).r; obtain ⟨c0, c1, c2, c3, c4, c7, c13, c14, c15, c16, c17, c18⟩ := hr; rw [HIG.out] at c17; go_simp) ?_
  simp only [Act.put, List.setIfInBounds_toArray, List.set_cons_zero, List.set_cons_succ]
  go_big_quiet_on
  go_big_quiet_want
  refine quiet_run (v := .bool true) (fun v hv => by rfl) ?_
  simp only [Act.put, List.setIfInBounds_toArray, List.set_cons_zero, List.set_cons_succ]
  go_big_quiet_on
  go_big_quiet_want
  go_big_quiet_op
  first | go_big_quiet_on | (refine ⟨_, fun _ _ => rfl, ?_⟩; go_big_quiet_on)
  go_big_quiet_want
  go_big_quiet_op
  first | go_big_quiet_on | (refine ⟨_, fun _ _ => rfl, ?_⟩; go_big_quiet_on)
  go_big_quiet_want
  go_big_quiet_op
  first | go_big_quiet_on | (refine ⟨_, fun _ _ => rfl, ?_⟩; go_big_quiet_on)
  go_big_quiet_want
  go_big_quiet_op
  first | go_big_quiet_on | (refine ⟨_, fun _ _ => rfl, ?_⟩; go_big_quiet_on)
  go_big_quiet_want
  go_big_quiet_op
  first | go_big_quiet_on | (refine ⟨_, fun _ _ => rfl, ?_⟩; go_big_quiet_on)
  go_big_quiet_want
  refine quiet_run (v := .int .u64 m.ke) (fun v hv => by have hr := (HL.out v hv).r; obtain ⟨c0, c1, c2, c3, c4, c7, c13, c14, c15, c16, c17, c18⟩ := hr; rw [HIG.out] at c17; go_simp) ?_
  simp only [Act.put, List.setIfInBounds_toArray, List.set_cons_zero, List.set_cons_succ]
  go_big_quiet_on
  go_big_quiet_want
  go_big_quiet_op
  first | go_big_quiet_on | (refine ⟨_, fun _ _ => rfl, ?_⟩; go_big_quiet_on)
  go_big_quiet_want
  go_big_quiet_op
  first | go_big_quiet_on | (refine ⟨_, fun _ _ => rfl, ?_⟩; go_big_quiet_on)
  go_big_quiet_want
  go_big_quiet_op
  first | go_big_quiet_on | (refine ⟨_, fun _ _ => rfl, ?_⟩; go_big_quiet_on)
  go_big_quiet_want
  refine quiet_run (v := tlV A c t) (fun v hv => by have hr := (HL.out v hv).r; obtain ⟨c0, c1, c2, c3, c4, c7, c13, c14, c15, c16, c17, c18⟩ := hr; rw [HIG.out] at c17; go_simp) ?_
  simp only [Act.put, List.setIfInBounds_toArray, List.set_cons_zero, List.set_cons_succ]
  go_big_quiet_on
  go_big_quiet_want
  go_big_quiet_op
  first | go_big_quiet_on | (refine ⟨_, fun _ _ => rfl, ?_⟩; go_big_quiet_on)
  go_big_quiet_want
  go_big_quiet_op
  first | go_big_quiet_on | (refine ⟨_, fun _ _ => rfl, ?_⟩; go_big_quiet_on)
  go_big_quiet_want
  go_big_quiet_op
  first | go_big_quiet_on | (refine ⟨_, fun _ _ => rfl, ?_⟩; go_big_quiet_on)
  go_big_quiet_want
  go_big_quiet_op
  first | go_big_quiet_on | (refine ⟨_, fun _ _ => rfl, ?_⟩; go_big_quiet_on)
  go_big_quiet_want
  refine quiet_run (v := .string m.ho) (fun v hv => by have hr := (HL.out v hv).r; obtain ⟨c0, c1, c2, c3, c4, c7, c13, c14, c15, c16, c17, c18⟩ := hr; rw [HIG.out] at c17; go_simp) ?_
  simp only [Act.put, List.setIfInBounds_toArray, List.set_cons_zero, List.set_cons_succ]
  go_big_quiet_on
  go_big_quiet_want
  refine quiet_call (f := 16) (args := #[tlV A c t, .string m.ho]) (fun v _ => by go_simp) (fun v hv => (HK.out v hv).mono (fun e w' h => ⟨h.1, HCm.out v w' hv h.2⟩)) ?_
  simp only [Act.put, List.setIfInBounds_toArray, List.set_cons_zero, List.set_cons_succ]
  go_big_quiet_on
  go_big_quiet_want
  refine quiet_run (v := .bool false) (fun v hv => by have := HN.out; go_simp) ?_
  simp only [Act.put, List.setIfInBounds_toArray, List.set_cons_zero, List.set_cons_succ]
  go_big_quiet_on
  go_big_quiet_want
  go_big_quiet_op
  first | go_big_quiet_on | (refine ⟨_, fun _ _ => rfl, ?_⟩; go_big_quiet_on)
  go_big_quiet_want
  go_big_quiet_op
  first | go_big_quiet_on | (refine ⟨_, fun _ _ => rfl, ?_⟩; go_big_quiet_on)

  intro w2 hC2
  have HB2 := Lib.hid ((HB1.out.mono H.out.lt).trans ((HCi.out w2 hC2).mono H1.out.lt))
  have HBQ := Lib.hid (HB1.out.trans ((HCi.out w2 hC2).mono HB1.out.size))
  have H2 := Lib.hid (H1.out.below (HCi.out w2 hC2))
  clear hC2 HC0 HL HCi HCm HK C2
  have c14 := H2.out.at_.r.nk
  have c0 := H2.out.at_.r.rs
  rw [h16] at c0
  go_wp2_with (fail)
  go_ret
  exact ⟨rfl, A, c, B, e, H2.out, HB2.out⟩
set_option maxRecDepth 100000 in
set_option maxHeartbeats 4000000 in
theorem reg_key_k (w : World) (n0 p : Nat) (A : Option Addr) (c : Nat) (t : Tl) (m : Cm) (B : Option Addr) (e : Nat) (es : List Ev) (h : Chg w n0 p A c t m B e es) (hm : t.rs.length ≤ 1000) (hg : m.ig = false) (hn : (m.ke != keyR t.rs m.ho) = false) (hr : regB t.rs m.ho = true) (hk : (m.nk == 0) = false) :
    Calls Tryd.prog 55 #[.pointer (some ⟨p, 0, none⟩)] w fun e w' => e = .returned (.int .i64 1) ∧ WrO n0 p (setAp (keyT t m) m) m es w w' := by
  obtain ⟨k, x0, hf, hx0, hq0, hk0⟩ := findQ_some (q := isH m.ho) hr
  have hkn := (List.getElem?_eq_some_iff.1 hx0).1
  obtain ⟨g, rfl, hg0, hrow⟩ := RowR.of h.rgs (by omega)
  have HRW := Lib.hid hrow; have HG := Lib.hid hg0; have HX0 := Lib.hid hx0
  have HF := Lib.hid hf
  have HKE : Hid (keyed t.rs m.ho m.nk = t.rs.set k ⟨x0.h, m.nk⟩) := by
    show keyed t.rs m.ho m.nk = t.rs.set k ⟨x0.h, m.nk⟩
    unfold keyed
    rw [← hk0, List.getD_eq_getElem?_getD, hx0]
    rfl
  clear hrow hg0 hf hx0 hq0 hk0 hr
  have H := Lib.hid h
  have HIG := Lib.hid hg
  clear hg
  have HN := Lib.hid hn
  clear hn
  have HAP := Lib.hid (fun v A c B e (hv : Chg v n0 p A c (keyT t m) m B e es) => aptpl_any v n0 p A c (keyT t m) m B e es hv)
  clear h
  go_enter Tryd.func55, Tryd.ntmps55
  go_upto_region 1 with (fail)
  obtain ⟨C1, hC0, hCl, hCi, hCm⟩ := class_ch H.out.at_
  have HC0 := Lib.hid hC0; have HL := Lib.hid hCl; have HCi := Lib.hid hCi; have HCm := Lib.hid hCm
  clear hC0 hCl hCi hCm
  have HI := Lib.hid (fun v (hv : C1 v) => indexOf_any (some ⟨g, 0, none⟩) c t.rs m.ho v (HL.out v hv).rgs (by unfold maxLen; omega))
  rw [HF.out] at HI
  refine wp_region_class C1 (by kernel_rfl) (by kernel_rfl) HC0.out ?_
  go_big_quiet_want
  go_big_quiet_op
  first | go_big_quiet_on | (refine ⟨_, fun _ _ => rfl, ?_⟩; go_big_quiet_on)
  go_big_quiet_want
  go_big_quiet_op
  first | go_big_quiet_on | (refine ⟨_, fun _ _ => rfl, ?_⟩; go_big_quiet_on)
  go_big_quiet_want
  go_big_quiet_op
  first | go_big_quiet_on | (refine ⟨_, fun _ _ => rfl, ?_⟩; go_big_quiet_on)
  go_big_quiet_want
  go_big_quiet_op
  first | go_big_quiet_on | (refine ⟨_, fun _ _ => rfl, ?_⟩; go_big_quiet_on)
  go_big_quiet_want
  refine quiet_run (v := .slice (some ⟨g, 0, none⟩) t.rs.length c) (fun v hv => by have hr := (HL.out v hv).r; obtain ⟨c0, c1, c2, c3, c4, c7, c13, c14, c15, c16, c17, c18⟩ := hr; go_simp) ?_
  simp only [Act.put, List.setIfInBounds_toArray, List.set_cons_zero, List.set_cons_succ]
  go_big_quiet_on
  go_big_quiet_want
  go_big_quiet_op
  first | go_big_quiet_on | (refine ⟨_, fun _ _ => rfl, ?_⟩; go_big_quiet_on)
  go_big_quiet_want
  go_big_quiet_op
  first | go_big_quiet_on | (refine ⟨_, fun _ _ => rfl, ?_⟩; go_big_quiet_on)
  go_big_quiet_want
  go_big_quiet_op
  first | go_big_quiet_on | (refine ⟨_, fun _ _ => rfl, ?_⟩; go_big_quiet_on)
  go_big_quiet_want
  go_big_quiet_op
  first | go_big_quiet_on | (refine ⟨_, fun _ _ => rfl, ?_⟩; go_big_quiet_on)
  go_big_quiet_want
  refine quiet_run (v := .string m.ho) (fun v hv => by have hr := (HL.out v hv).r; obtain ⟨c0, c1, c2, c3, c4, c7, c13, c14, c15, c16, c17, c18⟩ := hr; go_simp) ?_
  simp only [Act.put, List.setIfInBounds_toArray, List.set_cons_zero, List.set_cons_succ]
  go_big_quiet_on
  go_big_quiet_want
  refine quiet_call (f := 35) (args := #[.slice (some ⟨g, 0, none⟩) t.rs.length c, .string m.ho]) (fun v _ => by go_simp) (fun v hv => (HI.out v hv).mono (fun e w' h => ⟨h.1, HCm.out v w' hv h.2⟩)) ?_
  simp only [Act.put, List.setIfInBounds_toArray, List.set_cons_zero, List.set_cons_succ]
  go_big_quiet_on
  go_big_quiet_want
  go_big_quiet_op
  first | go_big_quiet_on | (refine ⟨_, fun _ _ => rfl, ?_⟩; go_big_quiet_on)

  intro w1 hC1
  have HB1 := Lib.hid (HCi.out w1 hC1)
  have H1 := Lib.hid (H.out.below HB1.out)
  clear hC1 HC0 HL HCi HCm HI C1
  go_upto_region 4 with (fail)
  obtain ⟨C2, hC0, hCl, hCi, hCm⟩ := class_ch H1.out.at_
  have HC0 := Lib.hid hC0; have HL := Lib.hid hCl; have HCi := Lib.hid hCi; have HCm := Lib.hid hCm
  clear hC0 hCl hCi hCm
  have HK := Lib.hid (fun v (hv : C2 v) => key_any (some ⟨g, 0, none⟩) c t m.ho v (HL.out v hv).rgs (by unfold maxLen; omega))
  refine wp_region_class C2 (by kernel_rfl) (by kernel_rfl) HC0.out ?_
  go_big_quiet_want
  go_big_quiet_op
  first | go_big_quiet_on | (refine ⟨_, fun _ _ => rfl, ?_⟩; go_big_quiet_on)
  go_big_quiet_want
  go_big_quiet_op
  first | go_big_quiet_on | (refine ⟨_, fun _ _ => rfl, ?_⟩; go_big_quiet_on)
  go_big_quiet_want
  go_big_quiet_op
  first | go_big_quiet_on | (refine ⟨_, fun _ _ => rfl, ?_⟩; go_big_quiet_on)
  go_big_quiet_want
  go_big_quiet_op
  first | go_big_quiet_on | (refine ⟨_, fun _ _ => rfl, ?_⟩; go_big_quiet_on)
  go_big_quiet_want
  refine quiet_run (v := .bool false) (fun v hv => by have hr := (HL.out v hv).r; obtain ⟨c0, c1, c2, c3, c4, c7, c13, c14, c15, c16, c17, c18⟩ := hr; rw [HIG.out] at c17; go_simp) ?_
  simp only [Act.put, List.setIfInBounds_toArray, List.set_cons_zero, List.set_cons_succ]
  go_big_quiet_on
  go_big_quiet_want
  refine quiet_run (v := .bool true) (fun v hv => by rfl) ?_
  simp only [Act.put, List.setIfInBounds_toArray, List.set_cons_zero, List.set_cons_succ]
  go_big_quiet_on
  go_big_quiet_want
  go_big_quiet_op
  first | go_big_quiet_on | (refine ⟨_, fun _ _ => rfl, ?_⟩; go_big_quiet_on)
  go_big_quiet_want
  go_big_quiet_op
  first | go_big_quiet_on | (refine ⟨_, fun _ _ => rfl, ?_⟩; go_big_quiet_on)
  go_big_quiet_want
  go_big_quiet_op
  first | go_big_quiet_on | (refine ⟨_, fun _ _ => rfl, ?_⟩; go_big_quiet_on)
  go_big_quiet_want
  go_big_quiet_op
  first | go_big_quiet_on | (refine ⟨_, fun _ _ => rfl, ?_⟩; go_big_quiet_on)
  go_big_quiet_want
  go_big_quiet_op
  first | go_big_quiet_on | (refine ⟨_, fun _ _ => rfl, ?_⟩; go_big_quiet_on)
  go_big_quiet_want
  refine quiet_run (v := .int .u64 m.ke) (fun v hv => by have hr := (HL.out v hv).r; obtain ⟨c0, c1, c2, c3, c4, c7, c13, c14, c15, c16, c17, c18⟩ := hr; rw [HIG.out] at c17; go_simp) ?_
  simp only [Act.put, List.setIfInBounds_toArray, List.set_cons_zero, List.set_cons_succ]
  go_big_quiet_on
  go_big_quiet_want
  go_big_quiet_op
  first | go_big_quiet_on | (refine ⟨_, fun _ _ => rfl, ?_⟩; go_big_quiet_on)
  go_big_quiet_want
  go_big_quiet_op
  first | go_big_quiet_on | (refine ⟨_, fun _ _ => rfl, ?_⟩; go_big_quiet_on)
  go_big_quiet_want
  go_big_quiet_op
  first | go_big_quiet_on | (refine ⟨_, fun _ _ => rfl, ?_⟩; go_big_quiet_on)
  go_big_quiet_want
  refine quiet_run (v := tlV (some ⟨g, 0, none⟩) c t) (fun v hv => by have hr := (HL.out v hv).r; obtain ⟨c0, c1, c2, c3, c4, c7, c13, c14, c15, c16, c17, c18⟩ := hr; rw [HIG.out] at c17; go_simp) ?_
  simp only [Act.put, List.setIfInBounds_toArray, List.set_cons_zero, List.set_cons_succ]
  go_big_quiet_on
  go_big_quiet_want
  go_big_quiet_op
  first | go_big_quiet_on | (refine ⟨_, fun _ _ => rfl, ?_⟩; go_big_quiet_on)
  go_big_quiet_want
  go_big_quiet_op
  first | go_big_quiet_on | (refine ⟨_, fun _ _ => rfl, ?_⟩; go_big_quiet_on)
  go_big_quiet_want
  go_big_quiet_op
  first | go_big_quiet_on | (refine ⟨_, fun _ _ => rfl, ?_⟩; go_big_quiet_on)
  go_big_quiet_want
  go_big_quiet_op
  first | go_big_quiet_on | (refine ⟨_, fun _ _ => rfl, ?_⟩; go_big_quiet_on)
  go_big_quiet_want
  refine quiet_run (v := .string m.ho) (fun v hv => by have hr := (HL.out v hv).r; obtain ⟨c0, c1, c2, c3, c4, c7, c13, c14, c15, c16, c17, c18⟩ := hr; rw [HIG.out] at c17; go_simp) ?_
  simp only [Act.put, List.setIfInBounds_toArray, List.set_cons_zero, List.set_cons_succ]
  go_big_quiet_on
  go_big_quiet_want
  refine quiet_call (f := 16) (args := #[tlV (some ⟨g, 0, none⟩) c t, .string m.ho]) (fun v _ => by go_simp) (fun v hv => (HK.out v hv).mono (fun e w' h => ⟨h.1, HCm.out v w' hv h.2⟩)) ?_
  simp only [Act.put, List.setIfInBounds_toArray, List.set_cons_zero, List.set_cons_succ]
  go_big_quiet_on
  go_big_quiet_want
  refine quiet_run (v := .bool false) (fun v hv => by have := HN.out; go_simp) ?_
  simp only [Act.put, List.setIfInBounds_toArray, List.set_cons_zero, List.set_cons_succ]
  go_big_quiet_on
  go_big_quiet_want
  go_big_quiet_op
  first | go_big_quiet_on | (refine ⟨_, fun _ _ => rfl, ?_⟩; go_big_quiet_on)
  go_big_quiet_want
  go_big_quiet_op
  first | go_big_quiet_on | (refine ⟨_, fun _ _ => rfl, ?_⟩; go_big_quiet_on)

  intro w2 hC2
  have HB2 := Lib.hid ((HB1.out.mono H.out.lt).trans ((HCi.out w2 hC2).mono H1.out.lt))
  have HBQ := Lib.hid (HB1.out.trans ((HCi.out w2 hC2).mono HB1.out.size))
  have H2 := Lib.hid (H1.out.below (HCi.out w2 hC2))
  clear hC2 HC0 HL HCi HCm HK C2
  have c14 := H2.out.at_.r.nk
  go_upto_region 9 with (fail)
  have c0 := H2.out.at_.r.rs
  have R2 : RowR w2 g c t.rs := RowR.keep HRW.out (HBQ.out.block g HRW.out.lt)
  have d1 := (R2.cells HX0.out).2
  have f1 := R2.free (k * 2 + 1)
  have hki : (k : Int) < t.rs.length := by omega
  obtain ⟨g1, g2⟩ := H2.out.key HG.out R2 k x0 HX0.out m.nk
  rw [← HKE.out] at g1
  have H3 := Lib.hid (g1.below ((Below.refl _ _).drew)); have HB3 := Lib.hid ((HB2.out.trans g2).drew)
  clear g1 g2
  go_region_law (fail)
  all_goals (
    go_upto_region 10 with (fail)
    generalize (w2.setCell ⟨g, k * 2 + 1, none⟩ (.int .u64 m.nk)).drew = w3 at *
    clear c0 c14 d1 f1
    have c3 : w3.cell? ⟨p, 3, none⟩ = some (.int .u32 t.ge) := H3.out.blk.cell 3
    have f3 := H3.out.blk.free 3
    have hig : IntKind.u32.wrap (t.ge + 1) = incG t.ge := rfl
    obtain ⟨g1, g2⟩ := H3.out.put 3 (.int .u32 (incG t.ge)) (t' := keyT t m) rfl rfl
    have H4 := Lib.hid g1; have HB4 := Lib.hid (HB3.out.trans g2)
    clear g1 g2
    go_wp2_with (fail)
    refine (HAP.out _ _ _ _ _ H4.out).mono ?_; rintro e w9 ⟨rfl, A9, c9, B9, e9, h9, hb9⟩
    have H9 := Lib.hid h9; have HB9 := Lib.hid (HB4.out.trans hb9)
    clear h9 hb9
    go_wp2_with (fail)
    go_ret
    exact ⟨rfl, A9, c9, B9, e9, H9.out, HB9.out⟩
    )
end Go.Proofs.YtgekadfkokkapaaDoor
