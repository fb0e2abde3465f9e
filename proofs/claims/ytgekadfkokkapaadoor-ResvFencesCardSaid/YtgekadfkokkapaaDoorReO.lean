/- Who asks is registered: one more. -/
import Derived.Test.YtgekadfkokkapaaDoorReM
namespace Go.Proofs.YtgekadfkokkapaaDoor
open Go.RowKit
set_option maxRecDepth 100000 in
set_option maxHeartbeats 4000000 in
theorem reg_new_i (w : World) (n0 p : Nat) (A : Option Addr) (c : Nat) (t : Tl) (m : Cm) (B : Option Addr) (e : Nat) (es : List Ev) (h : Chg w n0 p A c t m B e es) (hm : t.rs.length ≤ 1000) (hg : m.ig = true) (hs : m.ho.size ≤ 1000) (hr : regB t.rs m.ho = false) (hk : (m.nk == 0) = false) (h16 : t.rs.length ≠ 16) :
    Calls Tryd.prog 55 #[.pointer (some ⟨p, 0, none⟩)] w fun e w' => e = .returned (.int .i64 1) ∧ WrO n0 p (setAp (newT t m) m) m es w w' := by
  have H := Lib.hid h
  have HIG := Lib.hid hg
  clear hg
  have hf := findQ_none (q := isH m.ho) hr
  have HF := Lib.hid hf
  clear hf hr
  have HAP := Lib.hid (fun v A c B e (hv : Chg v n0 p A c (newT t m) m B e es) => aptpl_any v n0 p A c (newT t m) m B e es hv)
  clear h
  go_enter Tryd.func55, Tryd.ntmps55
  go_upto_region 1 with (fail)
  obtain ⟨C1, hC0, hCl, hCi, hCm⟩ := class_ch H.out.at_
  have HC0 := Lib.hid hC0; have HL := Lib.hid hCl; have HCi := Lib.hid hCi; have HCm := Lib.hid hCm
  clear hC0 hCl hCi hCm
  have HI := Lib.hid (fun v (hv : C1 v) => indexOf_any A c t.rs m.ho v (HL.out v hv).rgs (by unfold maxLen; omega))
  rw [HF.out] at HI
  refine wp_region_class C1 (by kernel_rfl) (by kernel_rfl) HC0.out ?_
  go_big_quiet_want
  go_big_quiet_op
  first | go_big_quiet_on | (refine ⟨_, fun _ _ => rfl, ?_⟩; go_big_quiet_on)
  go_big_quiet_want
  go_big_quiet_op
  first | go_big_quiet_on | (refine ⟨_, fun _ _ => rfl, ?_⟩; go_big_quiet_on)
  go_big_quiet_want
  go_big_quiet_op
  first | go_big_quiet_on | (refine ⟨_, fun _ _ => rfl, ?_⟩; go_big_quiet_on)
  go_big_quiet_want
  go_big_quiet_op
  first | go_big_quiet_on | (refine ⟨_, fun _ _ => rfl, ?_⟩; go_big_quiet_on)
  go_big_quiet_want
  refine quiet_run (v := .slice A t.rs.length c) (fun v hv => by have hr := (HL.out v hv).r; obtain ⟨c0, c1, c2, c3, c4, c7, c13, c14, c15, c16, c17, c18⟩ := hr; go_simp) ?_
  simp only [Act.put, List.setIfInBounds_toArray, List.set_cons_zero, List.set_cons_succ]
  go_big_quiet_on
  go_big_quiet_want
  go_big_quiet_op
  first | go_big_quiet_on | (refine ⟨_, fun _ _ => rfl, ?_⟩; go_big_quiet_on)
  go_big_quiet_want
  go_big_quiet_op
  first | go_big_quiet_on | (refine ⟨_, fun _ _ => rfl, ?_⟩; go_big_quiet_on)
  go_big_quiet_want
  go_big_quiet_op
  first | go_big_quiet_on | (refine ⟨_, fun _ _ => rfl, ?_⟩; go_big_quiet_on)
  go_big_quiet_want
  go_big_quiet_op
  first | go_big_quiet_on | (refine ⟨_, fun _ _ => rfl, ?_⟩; go_big_quiet_on)
  go_big_quiet_want
  refine quiet_run (v := .string m.ho) (fun v hv => by have hr := (HL.out v hv).r; obtain ⟨c0, c1, c2, c3, c4, c7, c13, c14, c15, c16, c17, c18⟩ := hr; go_simp) ?_
  simp only [Act.put, List.setIfInBounds_toArray, List.set_cons_zero, List.set_cons_succ]
  go_big_quiet_on
  go_big_quiet_want
  refine quiet_call (f := 35) (args := #[.slice A t.rs.length c, .string m.ho]) (fun v _ => by go_simp) (fun v hv => (HI.out v hv).mono (fun e w' h => ⟨h.1, HCm.out v w' hv h.2⟩)) ?_
  simp only [Act.put, List.setIfInBounds_toArray, List.set_cons_zero, List.set_cons_succ]
  go_big_quiet_on
  go_big_quiet_want
  go_big_quiet_op
  first | go_big_quiet_on | (refine ⟨_, fun _ _ => rfl, ?_⟩; go_big_quiet_on)

  intro w1 hC1
  have HB1 := Lib.hid (HCi.out w1 hC1)
  have H1 := Lib.hid (H.out.below HB1.out)
  clear hC1 HC0 HL HCi HCm HI C1
  go_upto_region 4 with (fail)
  obtain ⟨C2, hC0, hCl, hCi, hCm⟩ := class_ch H1.out.at_
  have HC0 := Lib.hid hC0; have HL := Lib.hid hCl; have HCi := Lib.hid hCi; have HCm := Lib.hid hCm
  clear hC0 hCl hCi hCm
  have HK := Lib.hid (fun v (hv : C2 v) => key_any A c t m.ho v (HL.out v hv).rgs (by unfold maxLen; omega))
  refine wp_region_class C2 (by kernel_rfl) (by kernel_rfl) HC0.out ?_
  go_big_quiet_want
  go_big_quiet_op
  first | go_big_quiet_on | (refine ⟨_, fun _ _ => rfl, ?_⟩; go_big_quiet_on)
  go_big_quiet_want
  go_big_quiet_op
  first | go_big_quiet_on | (refine ⟨_, fun _ _ => rfl, ?_⟩; go_big_quiet_on)
  go_big_quiet_want
  go_big_quiet_op
  first | go_big_quiet_on | (refine ⟨_, fun _ _ => rfl, ?_⟩; go_big_quiet_on)
  go_big_quiet_want
  go_big_quiet_op
  first | go_big_quiet_on | (refine ⟨_, fun _ _ => rfl, ?_⟩; go_big_quiet_on)
  go_big_quiet_want
  refine quiet_run (v := .bool true) (fun v hv => by have hr := (HL.out v hv).r; obtain ⟨c0, c1, c2, c3, c4, c7, c13, c14, c15, c16, c17, c18⟩ := hr; rw [HIG.out] at c17; go_simp) ?_
  simp only [Act.put, List.setIfInBounds_toArray, List.set_cons_zero, List.set_cons_succ]
  go_big_quiet_on
  go_big_quiet_want
  refine quiet_run (v := .bool false) (fun v hv => by rfl) ?_
  simp only [Act.put, List.setIfInBounds_toArray, List.set_cons_zero, List.set_cons_succ]
  go_big_quiet_on
  go_big_quiet_want
  go_big_quiet_op
  first | go_big_quiet_on | (refine ⟨_, fun _ _ => rfl, ?_⟩; go_big_quiet_on)
  go_big_quiet_skip
  go_big_quiet_skip
  go_big_quiet_skip
  go_big_quiet_skip
  go_big_quiet_skip
  go_big_quiet_skip
  go_big_quiet_skip
  go_big_quiet_skip
  go_big_quiet_skip
  go_big_quiet_skip
  go_big_quiet_skip
  go_big_quiet_skip
  go_big_quiet_skip
  go_big_quiet_skip
  go_big_quiet_skip
  go_big_quiet_skip
  go_big_quiet_want
  go_big_quiet_op
  first | go_big_quiet_on | (refine ⟨_, fun _ _ => rfl, ?_⟩; go_big_quiet_on)
  go_big_quiet_want
  go_big_quiet_op
  first | go_big_quiet_on | (refine ⟨_, fun _ _ => rfl, ?_⟩; go_big_quiet_on)

  intro w2 hC2
  have HB2 := Lib.hid ((HB1.out.mono H.out.lt).trans ((HCi.out w2 hC2).mono H1.out.lt))
  have HBQ := Lib.hid (HB1.out.trans ((HCi.out w2 hC2).mono HB1.out.size))
  have H2 := Lib.hid (H1.out.below (HCi.out w2 hC2))
  clear hC2 HC0 HL HCi HCm HK C2
  have c14 := H2.out.at_.r.nk
  have c0 := H2.out.at_.r.rs
  have c7 := H2.out.at_.r.ho
  have h16b : ((t.rs.length : Int) == 16) = false := by rw [int_beq]; exact decide_eq_false (by omega)
  go_upto_region 2 with (fail)
  go_region_law (first
    | (refine step_clone (by rfl) (.tmp 25) (by rfl) m.ho (by rfl) (by omega) ?_
       intro w5 hb5
       have H5 := Lib.hid (H2.out.below ((Below.refl w2.heap.size w2).drew.trans hb5)); have HB5 := Lib.hid (HB2.out.trans (((Below.refl w2.heap.size w2).drew.trans hb5).mono H2.out.lt))
       have e0 : w5.cell? ⟨p, 0, none⟩ = some (.slice A t.rs.length c) := H5.out.blk.cell 0
       have e14 : w5.cell? ⟨p, 14, none⟩ = some (.int .u64 m.nk) := H5.out.blk.cell 14
       have hal := (Below.refl w5.heap.size w5).alloc (Nat.le_refl _) (.cells (regC ⟨m.ho, m.nk⟩) 57)
       have H6 := Lib.hid (H5.out.below hal); have HB6 := Lib.hid (HB5.out.trans (hal.mono H5.out.lt))
       have e6 : (w5.alloc (.cells (regC ⟨m.ho, m.nk⟩) 57)).cell? ⟨p, 0, none⟩ = some (.slice A t.rs.length c) := H6.out.blk.cell 0
       clear hb5 hal)
    | (refine step_rg (by rfl) (.tmp 20) (.tmp 33) (by rfl) n0 A c t.rs (by rfl) H6.out.rgs w5.heap.size ⟨m.ho, m.nk⟩ (by rfl) (by unfold maxLen; show m.ho.size ≤ _; omega) (Blk.new w5 57 _) (by omega) H6.out.lt ?_
       intro A7 q7 w7 ho7 hg7
       have b7 := H6.out.blk.grown hg7 (Ne.symm H6.out.apart.1)
       have f7 := b7.free 0
       have e7 : w7.cell? ⟨p, 0, none⟩ = some (.slice A t.rs.length c) := b7.cell 0
       have H7 := Lib.hid (H6.out.rows_put ((Only.refl _ _).grown hg7 (fun k hk => .inl hk)) ho7)
       clear ho7 hg7 b7))
  all_goals (
    have hlen : (t.rs ++ [(⟨m.ho, m.nk⟩ : Rg)]).length = t.rs.length + 1 := by simp
    have hP := H7.out
    rw [hlen] at hP
    have HP := Lib.hid hP.1; have HBP := Lib.hid (HB6.out.trans hP.2)
    clear hP hlen
    go_upto_region 3 with (fail)
    generalize w7.setCell ⟨p, 0, none⟩ (.slice A7 (t.rs.length + 1) q7) = w3 at *
    clear c0 c14 c7 e0 e14 e6 e7 f7
    have c3 : w3.cell? ⟨p, 3, none⟩ = some (.int .u32 t.ge) := HP.out.blk.cell 3
    have f3 := HP.out.blk.free 3
    have hig : IntKind.u32.wrap (t.ge + 1) = incG t.ge := rfl
    obtain ⟨g1, g2⟩ := HP.out.put 3 (.int .u32 (incG t.ge)) (t' := newT t m) rfl rfl
    have H4 := Lib.hid g1; have HB4 := Lib.hid (HBP.out.trans g2)
    clear g1 g2
    go_wp2_with (fail)
    refine (HAP.out _ _ _ _ _ H4.out).mono ?_; rintro e w9 ⟨rfl, A9, c9, B9, e9, h9, hb9⟩
    have H9 := Lib.hid h9; have HB9 := Lib.hid (HB4.out.trans hb9)
    clear h9 hb9
    go_wp2_with (fail)
    go_ret
    exact ⟨rfl, A9, c9, B9, e9, H9.out, HB9.out⟩
    )
set_option maxRecDepth 100000 in
set_option maxHeartbeats 4000000 in
theorem reg_new_k (w : World) (n0 p : Nat) (A : Option Addr) (c : Nat) (t : Tl) (m : Cm) (B : Option Addr) (e : Nat) (es : List Ev) (h : Chg w n0 p A c t m B e es) (hm : t.rs.length ≤ 1000) (hg : m.ig = false) (hn : (m.ke != keyR t.rs m.ho) = false) (hs : m.ho.size ≤ 1000) (hr : regB t.rs m.ho = false) (hk : (m.nk == 0) = false) (h16 : t.rs.length ≠ 16) :
    Calls Tryd.prog 55 #[.pointer (some ⟨p, 0, none⟩)] w fun e w' => e = .returned (.int .i64 1) ∧ WrO n0 p (setAp (newT t m) m) m es w w' := by
  have H := Lib.hid h
  have HIG := Lib.hid hg
  clear hg
  have HN := Lib.hid hn
  clear hn
  have hf := findQ_none (q := isH m.ho) hr
  have HF := Lib.hid hf
  clear hf hr
  have HAP := Lib.hid (fun v A c B e (hv : Chg v n0 p A c (newT t m) m B e es) => aptpl_any v n0 p A c (newT t m) m B e es hv)
  clear h
  go_enter Tryd.func55, Tryd.ntmps55
  go_upto_region 1 with (fail)
  obtain ⟨C1, hC0, hCl, hCi, hCm⟩ := class_ch H.out.at_
  have HC0 := Lib.hid hC0; have HL := Lib.hid hCl; have HCi := Lib.hid hCi; have HCm := Lib.hid hCm
  clear hC0 hCl hCi hCm
  have HI := Lib.hid (fun v (hv : C1 v) => indexOf_any A c t.rs m.ho v (HL.out v hv).rgs (by unfold maxLen; omega))
  rw [HF.out] at HI
  refine wp_region_class C1 (by kernel_rfl) (by kernel_rfl) HC0.out ?_
  go_big_quiet_want
  go_big_quiet_op
  first | go_big_quiet_on | (refine ⟨_, fun _ _ => rfl, ?_⟩; go_big_quiet_on)
  go_big_quiet_want
  go_big_quiet_op
  first | go_big_quiet_on | (refine ⟨_, fun _ _ => rfl, ?_⟩; go_big_quiet_on)
  go_big_quiet_want
  go_big_quiet_op
  first | go_big_quiet_on | (refine ⟨_, fun _ _ => rfl, ?_⟩; go_big_quiet_on)
  go_big_quiet_want
  go_big_quiet_op
  first | go_big_quiet_on | (refine ⟨_, fun _ _ => rfl, ?_⟩; go_big_quiet_on)
  go_big_quiet_want
  refine quiet_run (v := .slice A t.rs.length c) (fun v hv => by have hr := (HL.out v hv).r; obtain ⟨c0, c1, c2, c3, c4, c7, c13, c14, c15, c16, c17, c18⟩ := hr; go_simp) ?_
  simp only [Act.put, List.setIfInBounds_toArray, List.set_cons_zero, List.set_cons_succ]
  go_big_quiet_on
  go_big_quiet_want
  go_big_quiet_op
  first | go_big_quiet_on | (refine ⟨_, fun _ _ => rfl, ?_⟩; go_big_quiet_on)
  go_big_quiet_want
  go_big_quiet_op
  first | go_big_quiet_on | (refine ⟨_, fun _ _ => rfl, ?_⟩; go_big_quiet_on)
  go_big_quiet_want
  go_big_quiet_op
  first | go_big_quiet_on | (refine ⟨_, fun _ _ => rfl, ?_⟩; go_big_quiet_on)
  go_big_quiet_want
  go_big_quiet_op
  first | go_big_quiet_on | (refine ⟨_, fun _ _ => rfl, ?_⟩; go_big_quiet_on)
  go_big_quiet_want
  refine quiet_run (v := .string m.ho) (fun v hv => by have hr := (HL.out v hv).r; obtain ⟨c0, c1, c2, c3, c4, c7, c13, c14, c15, c16, c17, c18⟩ := hr; go_simp) ?_
  simp only [Act.put, List.setIfInBounds_toArray, List.set_cons_zero, List.set_cons_succ]
  go_big_quiet_on
  go_big_quiet_want
  refine quiet_call (f := 35) (args := #[.slice A t.rs.length c, .string m.ho]) (fun v _ => by go_simp) (fun v hv => (HI.out v hv).mono (fun e w' h => ⟨h.1, HCm.out v w' hv h.2⟩)) ?_
  simp only [Act.put, List.setIfInBounds_toArray, List.set_cons_zero, List.set_cons_succ]
  go_big_quiet_on
  go_big_quiet_want
  go_big_quiet_op
  first | go_big_quiet_on | (refine ⟨_, fun _ _ => rfl, ?_⟩; go_big_quiet_on)

  intro w1 hC1
  have HB1 := Lib.hid (HCi.out w1 hC1)
  have H1 := Lib.hid (H.out.below HB1.out)
  clear hC1 HC0 HL HCi HCm HI C1
  go_upto_region 4 with (fail)
  obtain ⟨C2, hC0, hCl, hCi, hCm⟩ := class_ch H1.out.at_
  have HC0 := Lib.hid hC0; have HL := Lib.hid hCl; have HCi := Lib.hid hCi; have HCm := Lib.hid hCm
  clear hC0 hCl hCi hCm
  have HK := Lib.hid (fun v (hv : C2 v) => key_any A c t m.ho v (HL.out v hv).rgs (by unfold maxLen; omega))
  refine wp_region_class C2 (by kernel_rfl) (by kernel_rfl) HC0.out ?_
  go_big_quiet_want
  go_big_quiet_op
  first | go_big_quiet_on | (refine ⟨_, fun _ _ => rfl, ?_⟩; go_big_quiet_on)
  go_big_quiet_want
  go_big_quiet_op
  first | go_big_quiet_on | (refine ⟨_, fun _ _ => rfl, ?_⟩; go_big_quiet_on)
  go_big_quiet_want
  go_big_quiet_op
  first | go_big_quiet_on | (refine ⟨_, fun _ _ => rfl, ?_⟩; go_big_quiet_on)
  go_big_quiet_want
  go_big_quiet_op
  first | go_big_quiet_on | (refine ⟨_, fun _ _ => rfl, ?_⟩; go_big_quiet_on)
  go_big_quiet_want
  refine quiet_run (v := .bool false) (fun v hv => by have hr := (HL.out v hv).r; obtain ⟨c0, c1, c2, c3, c4, c7, c13, c14, c15, c16, c17, c18⟩ := hr; rw [HIG.out] at c17; go_simp) ?_
  simp only [Act.put, List.setIfInBounds_toArray, List.set_cons_zero, List.set_cons_succ]
  go_big_quiet_on
  go_big_quiet_want
  refine quiet_run (v := .bool true) (fun v hv => by rfl) ?_
  simp only [Act.put, List.setIfInBounds_toArray, List.set_cons_zero, List.set_cons_succ]
  go_big_quiet_on
  go_big_quiet_want
  go_big_quiet_op
  first | go_big_quiet_on | (refine ⟨_, fun _ _ => rfl, ?_⟩; go_big_quiet_on)
  go_big_quiet_want
  go_big_quiet_op
  first | go_big_quiet_on | (refine ⟨_, fun _ _ => rfl, ?_⟩; go_big_quiet_on)
  go_big_quiet_want
  go_big_quiet_op
  first | go_big_quiet_on | (refine ⟨_, fun _ _ => rfl, ?_⟩; go_big_quiet_on)
  go_big_quiet_want
  go_big_quiet_op
  first | go_big_quiet_on | (refine ⟨_, fun _ _ => rfl, ?_⟩; go_big_quiet_on)
  go_big_quiet_want
  go_big_quiet_op
  first | go_big_quiet_on | (refine ⟨_, fun _ _ => rfl, ?_⟩; go_big_quiet_on)
  go_big_quiet_want
  refine quiet_run (v := .int .u64 m.ke) (fun v hv => by have hr := (HL.out v hv).r; obtain ⟨c0, c1, c2, c3, c4, c7, c13, c14, c15, c16, c17, c18⟩ := hr; rw [HIG.out] at c17; go_simp) ?_
  simp only [Act.put, List.setIfInBounds_toArray, List.set_cons_zero, List.set_cons_succ]
  go_big_quiet_on
  go_big_quiet_want
  go_big_quiet_op
  first | go_big_quiet_on | (refine ⟨_, fun _ _ => rfl, ?_⟩; go_big_quiet_on)
  go_big_quiet_want
  go_big_quiet_op
  first | go_big_quiet_on | (refine ⟨_, fun _ _ => rfl, ?_⟩; go_big_quiet_on)
  go_big_quiet_want
  go_big_quiet_op
  first | go_big_quiet_on | (refine ⟨_, fun _ _ => rfl, ?_⟩; go_big_quiet_on)
  go_big_quiet_want
  refine quiet_run (v := tlV A c t) (fun v hv => by have hr := (HL.out v hv).r; obtain ⟨c0, c1, c2, c3, c4, c7, c13, c14, c15, c16, c17, c18⟩ := hr; rw [HIG.out] at c17; go_simp) ?_
  simp only [Act.put, List.setIfInBounds_toArray, List.set_cons_zero, List.set_cons_succ]
  go_big_quiet_on
  go_big_quiet_want
  go_big_quiet_op
  first | go_big_quiet_on | (refine ⟨_, fun _ _ => rfl, ?_⟩; go_big_quiet_on)
  go_big_quiet_want
  go_big_quiet_op
  first | go_big_quiet_on | (refine ⟨_, fun _ _ => rfl, ?_⟩; go_big_quiet_on)
  go_big_quiet_want
  go_big_quiet_op
  first | go_big_quiet_on | (refine ⟨_, fun _ _ => rfl, ?_⟩; go_big_quiet_on)
  go_big_quiet_want
  go_big_quiet_op
  first | go_big_quiet_on | (refine ⟨_, fun _ _ => rfl, ?_⟩; go_big_quiet_on)
  go_big_quiet_want
  refine quiet_run (v := .string m.ho) (fun v hv => by have hr := (HL.out v hv).r; obtain ⟨c0, c1, c2, c3, c4, c7, c13, c14, c15, c16, c17, c18⟩ := hr; rw [HIG.out] at c17; go_simp) ?_
  simp only [Act.put, List.setIfInBounds_toArray, List.set_cons_zero, List.set_cons_succ]
  go_big_quiet_on
  go_big_quiet_want
  refine quiet_call (f := 16) (args := #[tlV A c t, .string m.ho]) (fun v _ => by go_simp) (fun v hv => (HK.out v hv).mono (fun e w' h => ⟨h.1, HCm.out v w' hv h.2⟩)) ?_
  simp only [Act.put, List.setIfInBounds_toArray, List.set_cons_zero, List.set_cons_succ]
  go_big_quiet_on
  go_big_quiet_want
  refine quiet_run (v := .bool false) (fun v hv => by have := HN.out; go_simp) ?_
  simp only [Act.put, List.setIfInBounds_toArray, List.set_cons_zero, List.set_cons_succ]
  go_big_quiet_on
  go_big_quiet_want
  go_big_quiet_op
  first | go_big_quiet_on | (refine ⟨_, fun _ _ => rfl, ?_⟩; go_big_quiet_on)
  go_big_quiet_want
  go_big_quiet_op
  first | go_big_quiet_on | (refine ⟨_, fun _ _ => rfl, ?_⟩; go_big_quiet_on)

  intro w2 hC2
  have HB2 := Lib.hid ((HB1.out.mono H.out.lt).trans ((HCi.out w2 hC2).mono H1.out.lt))
  have HBQ := Lib.hid (HB1.out.trans ((HCi.out w2 hC2).mono HB1.out.size))
  have H2 := Lib.hid (H1.out.below (HCi.out w2 hC2))
  clear hC2 HC0 HL HCi HCm HK C2
  have c14 := H2.out.at_.r.nk
  have c0 := H2.out.at_.r.rs
  have c7 := H2.out.at_.r.ho
  have h16b : ((t.rs.length : Int) == 16) = false := by rw [int_beq]; exact decide_eq_false (by omega)
  go_upto_region 2 with (fail)
  go_region_law (first
    | (refine step_clone (by rfl) (.tmp 25) (by rfl) m.ho (by rfl) (by omega) ?_
       intro w5 hb5
       have H5 := Lib.hid (H2.out.below ((Below.refl w2.heap.size w2).drew.trans hb5)); have HB5 := Lib.hid (HB2.out.trans (((Below.refl w2.heap.size w2).drew.trans hb5).mono H2.out.lt))
       have e0 : w5.cell? ⟨p, 0, none⟩ = some (.slice A t.rs.length c) := H5.out.blk.cell 0
       have e14 : w5.cell? ⟨p, 14, none⟩ = some (.int .u64 m.nk) := H5.out.blk.cell 14
       have hal := (Below.refl w5.heap.size w5).alloc (Nat.le_refl _) (.cells (regC ⟨m.ho, m.nk⟩) 57)
       have H6 := Lib.hid (H5.out.below hal); have HB6 := Lib.hid (HB5.out.trans (hal.mono H5.out.lt))
       have e6 : (w5.alloc (.cells (regC ⟨m.ho, m.nk⟩) 57)).cell? ⟨p, 0, none⟩ = some (.slice A t.rs.length c) := H6.out.blk.cell 0
       clear hb5 hal)
    | (refine step_rg (by rfl) (.tmp 20) (.tmp 33) (by rfl) n0 A c t.rs (by rfl) H6.out.rgs w5.heap.size ⟨m.ho, m.nk⟩ (by rfl) (by unfold maxLen; show m.ho.size ≤ _; omega) (Blk.new w5 57 _) (by omega) H6.out.lt ?_
       intro A7 q7 w7 ho7 hg7
       have b7 := H6.out.blk.grown hg7 (Ne.symm H6.out.apart.1)
       have f7 := b7.free 0
       have e7 : w7.cell? ⟨p, 0, none⟩ = some (.slice A t.rs.length c) := b7.cell 0
       have H7 := Lib.hid (H6.out.rows_put ((Only.refl _ _).grown hg7 (fun k hk => .inl hk)) ho7)
       clear ho7 hg7 b7))
  all_goals (
    have hlen : (t.rs ++ [(⟨m.ho, m.nk⟩ : Rg)]).length = t.rs.length + 1 := by simp
    have hP := H7.out
    rw [hlen] at hP
    have HP := Lib.hid hP.1; have HBP := Lib.hid (HB6.out.trans hP.2)
    clear hP hlen
    go_upto_region 3 with (fail)
    generalize w7.setCell ⟨p, 0, none⟩ (.slice A7 (t.rs.length + 1) q7) = w3 at *
    clear c0 c14 c7 e0 e14 e6 e7 f7
    have c3 : w3.cell? ⟨p, 3, none⟩ = some (.int .u32 t.ge) := HP.out.blk.cell 3
    have f3 := HP.out.blk.free 3
    have hig : IntKind.u32.wrap (t.ge + 1) = incG t.ge := rfl
    obtain ⟨g1, g2⟩ := HP.out.put 3 (.int .u32 (incG t.ge)) (t' := newT t m) rfl rfl
    have H4 := Lib.hid g1; have HB4 := Lib.hid (HBP.out.trans g2)
    clear g1 g2
    go_wp2_with (fail)
    refine (HAP.out _ _ _ _ _ H4.out).mono ?_; rintro e w9 ⟨rfl, A9, c9, B9, e9, h9, hb9⟩
    have H9 := Lib.hid h9; have HB9 := Lib.hid (HB4.out.trans hb9)
    clear h9 hb9
    go_wp2_with (fail)
    go_ret
    exact ⟨rfl, A9, c9, B9, e9, H9.out, HB9.out⟩
    )
end Go.Proofs.YtgekadfkokkapaaDoor
