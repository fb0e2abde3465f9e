/- Who asks is registered no more. -/
import Derived.Test.YtgekadfkokkapaaDoorReK
namespace Go.Proofs.YtgekadfkokkapaaDoor
open Go.RowKit
section
variable {w v : World} {n0 p : Nat} {A : Option Addr} {c : Nat} {t : Tl} {m : Cm} {B : Option Addr} {e : Nat} {es : List Ev}
/-- The registrations made others. -/
theorem Chg.rows_put (h : Chg w n0 p A c t m B e es) (ho : Only (fun k => (Value.slice A t.rs.length c).ownBlock = some k) w v) {A' : Option Addr} {c' : Nat} {l' : List Rg} (hw : Own v n0 A' c' l') :
    Chg (v.setCell ⟨p, 0, none⟩ (.slice A' l'.length c')) n0 p A' c' { t with rs := l' } m B e es ∧ Below n0 w (v.setCell ⟨p, 0, none⟩ (.slice A' l'.length c')) := by
  have hb : Blk v p 64 (chC A c t m B e es) := h.blk.only ho h.apart.1
  have he : OwnE v n0 B e es := own_keep h.evs fun g hg => ho.block g (h.evs.lt g hg).2 (fun e => h.rows g e hg)
  refine ⟨⟨hb.put 0 _, ⟨own_keep hw.1 fun g hg => Below.heap_setCell v _ _ g (fun e => own_apart hw.1 hb (by decide) (hg.trans (congrArg some e))), hw.2⟩, own_keep he fun g hg => Below.heap_setCell v _ _ g (fun e => own_apart he hb (by decide) (hg.trans (congrArg some e))), h.hp⟩, ?_⟩
  have b1 : Below n0 w v := ho.toBelow h.lt (fun k hk => (h.rgs.1.lt k hk).1)
  exact b1.trans (bel_put h.hp (Nat.le_trans h.lt ho.size) 0 _)
end
theorem i64w (x : Int) (h : -9223372036854775808 ≤ x ∧ x ≤ 9223372036854775807) : IntKind.i64.wrap x = x := by rw [IntKind.wrap_i64]; omega
def incG (g : Int) : Int := IntKind.u32.wrap (g + 1)
/-- One taken out. -/
def outR (l : List Rg) (h : ByteArray) : List Rg := l.take (l.findIdx (isH h)) ++ l.drop (l.findIdx (isH h) + 1)
def unT (t : Tl) (m : Cm) : Tl := { t with rs := outR t.rs m.ho, ge := incG t.ge }
def lastB (t : Tl) (m : Cm) : Bool := eqS t.ho m.ho || decide ((unT t m).rs.length = 0)
def unregT (t : Tl) (m : Cm) : Tl := if regB t.rs m.ho then if lastB t m then endT (unT t m) else unT t m else t
def unregE (t : Tl) (m : Cm) (es : List Ev) : List Ev := if regB t.rs m.ho && lastB t m then endE (unT t m) m es else es
theorem outR_length {l : List Rg} {h : ByteArray} {k : Nat} (hk : k = l.findIdx (isH h)) (hlt : k < l.length) : (outR l h).length = l.length - 1 := by
  unfold outR
  rw [← hk]
  simp only [List.length_append, List.length_take, List.length_drop]
  omega
set_option maxRecDepth 100000 in
set_option maxHeartbeats 2000000 in
theorem unreg_no (w : World) (n0 p : Nat) (A : Option Addr) (c : Nat) (t : Tl) (m : Cm) (B : Option Addr) (e : Nat) (es : List Ev) (h : Chg w n0 p A c t m B e es) (hm : t.rs.length ≤ 1000) (hr : regB t.rs m.ho = false) :
    Calls Tryd.prog 68 #[.pointer (some ⟨p, 0, none⟩)] w fun e w' => e = .returned (.tuple #[]) ∧ WrO n0 p t m es w w' := by
  have hf := findQ_none (q := isH m.ho) hr
  have H := Lib.hid h
  clear h hr
  go_enter Tryd.func68, Tryd.ntmps68
  go_upto_region 0 with (fail)
  obtain ⟨C, hC0, hCl, hCi, hCm⟩ := class_ch H.out.at_
  have HC0 := Lib.hid hC0; have HL := Lib.hid hCl; have HCi := Lib.hid hCi; have HCm := Lib.hid hCm
  clear hC0 hCl hCi hCm
  have HI := Lib.hid (fun v (hv : C v) => indexOf_any A c t.rs m.ho v (HL.out v hv).rgs (by unfold maxLen; omega))
  rw [hf] at HI
  clear hf
  refine wp_region_class C (by kernel_rfl) (by kernel_rfl) HC0.out ?_
  go_big_quiet_want
  go_big_quiet_op
  first | go_big_quiet_on | (refine ⟨_, fun _ _ => rfl, ?_⟩; go_big_quiet_on)
  go_big_quiet_want
  go_big_quiet_op
  first | go_big_quiet_on | (refine ⟨_, fun _ _ => rfl, ?_⟩; go_big_quiet_on)
  go_big_quiet_want
  go_big_quiet_op
  first | go_big_quiet_on | (refine ⟨_, fun _ _ => rfl, ?_⟩; go_big_quiet_on)
  go_big_quiet_want
  go_big_quiet_op
  first | go_big_quiet_on | (refine ⟨_, fun _ _ => rfl, ?_⟩; go_big_quiet_on)
  go_big_quiet_want
  refine quiet_run (v := .slice A t.rs.length c) (fun v hv => by have hr := (HL.out v hv).r; obtain ⟨c0, c1, c2, c3, c4, c7, c13, c14, c15, c16, c17, c18⟩ := hr; go_simp) ?_
  simp only [Act.put, List.setIfInBounds_toArray, List.set_cons_zero, List.set_cons_succ]
  go_big_quiet_on
  go_big_quiet_want
  go_big_quiet_op
  first | go_big_quiet_on | (refine ⟨_, fun _ _ => rfl, ?_⟩; go_big_quiet_on)
  go_big_quiet_want
  go_big_quiet_op
  first | go_big_quiet_on | (refine ⟨_, fun _ _ => rfl, ?_⟩; go_big_quiet_on)
  go_big_quiet_want
  go_big_quiet_op
  first | go_big_quiet_on | (refine ⟨_, fun _ _ => rfl, ?_⟩; go_big_quiet_on)
  go_big_quiet_want
  go_big_quiet_op
  first | go_big_quiet_on | (refine ⟨_, fun _ _ => rfl, ?_⟩; go_big_quiet_on)
  go_big_quiet_want
  refine quiet_run (v := .string m.ho) (fun v hv => by have hr := (HL.out v hv).r; obtain ⟨c0, c1, c2, c3, c4, c7, c13, c14, c15, c16, c17, c18⟩ := hr; go_simp) ?_
  simp only [Act.put, List.setIfInBounds_toArray, List.set_cons_zero, List.set_cons_succ]
  go_big_quiet_on
  go_big_quiet_want
  refine quiet_call (f := 35) (args := #[.slice A t.rs.length c, .string m.ho]) (fun v _ => by go_simp) (fun v hv => (HI.out v hv).mono (fun e w' h => ⟨h.1, HCm.out v w' hv h.2⟩)) ?_
  simp only [Act.put, List.setIfInBounds_toArray, List.set_cons_zero, List.set_cons_succ]
  go_big_quiet_on
  go_big_quiet_want
  go_big_quiet_op
  first | go_big_quiet_on | (refine ⟨_, fun _ _ => rfl, ?_⟩; go_big_quiet_on)

  intro w1 hC1
  have HB1 := Lib.hid (HCi.out w1 hC1)
  have H1 := Lib.hid (H.out.below HB1.out)
  clear hC1
  go_wp2_with (fail)
  exact bodyPost_ret (results_none rfl _ _ _) rfl ⟨rfl, A, c, B, e, H1.out, HB1.out.mono H.out.lt⟩
set_option maxRecDepth 100000 in
set_option maxHeartbeats 4000000 in
theorem unreg_holder (w : World) (n0 p : Nat) (A : Option Addr) (c : Nat) (t : Tl) (m : Cm) (B : Option Addr) (e : Nat) (es : List Ev) (h : Chg w n0 p A c t m B e es) (hx : ∀ x ∈ t.rs, x.h.size ≤ 1000) (hm : t.rs.length ≤ 1000) (he : es.length ≤ 1000) (hr : regB t.rs m.ho = true) (hq : eqS t.ho m.ho = true) :
    Calls Tryd.prog 68 #[.pointer (some ⟨p, 0, none⟩)] w fun e w' => e = .returned (.tuple #[]) ∧ WrO n0 p (endT (unT t m)) m (endE (unT t m) m es) w w' := by
  obtain ⟨k, x0, hf, hx0, hq0, hk0⟩ := findQ_some (q := isH m.ho) hr
  have hkn := (List.getElem?_eq_some_iff.1 hx0).1
  obtain ⟨g, rfl, hg0, hrow⟩ := RowR.of h.rgs (by omega)
  have H := Lib.hid h; have HRW := Lib.hid hrow; have HG := Lib.hid hg0
  have HOL := Lib.hid (outR_length hk0 hkn)
  have hout : outR t.rs m.ho = t.rs.take k ++ t.rs.drop (k + 1) := by unfold outR; rw [← hk0]
  have HOE := Lib.hid hout
  have HXo : Hid (∀ x ∈ (unT t m).rs, x.h.size ≤ 1000) := by
    intro x hx'
    have hx'' : x ∈ t.rs.take k ++ t.rs.drop (k + 1) := by rw [← hout]; exact hx'
    rcases List.mem_append.1 hx'' with q | q
    · exact hx x (List.mem_of_mem_take q)
    · exact hx x (List.mem_of_mem_drop q)
  have hml : (unT t m).rs.length ≤ 1000 := by show (outR t.rs m.ho).length ≤ 1000; rw [HOL.out]; omega
  clear h hrow hg0 hx0 hq0 hk0 hr hout
  have HE := Lib.hid (fun v A c B e (hv : Chg v n0 p A c (unT t m) m B e es) => end_any v n0 p A c (unT t m) m B e es hv HXo.out hml he)
  have HEQ : Hid ((t.ho.toList == m.ho.toList) = true) := hq
  clear hq
  clear hx he
  have hi1 : IntKind.i64.wrap ((k : Int) + 1) = (k : Int) + 1 := i64w _ (by omega)
  go_enter Tryd.func68, Tryd.ntmps68
  go_upto_region 0 with (fail)
  obtain ⟨C, hC0, hCl, hCi, hCm⟩ := class_ch H.out.at_
  have HC0 := Lib.hid hC0; have HL := Lib.hid hCl; have HCi := Lib.hid hCi; have HCm := Lib.hid hCm
  clear hC0 hCl hCi hCm
  have HI := Lib.hid (fun v (hv : C v) => indexOf_any (some ⟨g, 0, none⟩) c t.rs m.ho v (HL.out v hv).rgs (by unfold maxLen; omega))
  rw [hf] at HI
  clear hf
  refine wp_region_class C (by kernel_rfl) (by kernel_rfl) HC0.out ?_
  go_big_quiet_want
  go_big_quiet_op
  first | go_big_quiet_on | (refine ⟨_, fun _ _ => rfl, ?_⟩; go_big_quiet_on)
  go_big_quiet_want
  go_big_quiet_op
  first | go_big_quiet_on | (refine ⟨_, fun _ _ => rfl, ?_⟩; go_big_quiet_on)
  go_big_quiet_want
  go_big_quiet_op
  first | go_big_quiet_on | (refine ⟨_, fun _ _ => rfl, ?_⟩; go_big_quiet_on)
  go_big_quiet_want
  go_big_quiet_op
  first | go_big_quiet_on | (refine ⟨_, fun _ _ => rfl, ?_⟩; go_big_quiet_on)
  go_big_quiet_want
  refine quiet_run (v := .slice (some ⟨g, 0, none⟩) t.rs.length c) (fun v hv => by have hr := (HL.out v hv).r; obtain ⟨c0, c1, c2, c3, c4, c7, c13, c14, c15, c16, c17, c18⟩ := hr; go_simp) ?_
  simp only [Act.put, List.setIfInBounds_toArray, List.set_cons_zero, List.set_cons_succ]
  go_big_quiet_on
  go_big_quiet_want
  go_big_quiet_op
  first | go_big_quiet_on | (refine ⟨_, fun _ _ => rfl, ?_⟩; go_big_quiet_on)
  go_big_quiet_want
  go_big_quiet_op
  first | go_big_quiet_on | (refine ⟨_, fun _ _ => rfl, ?_⟩; go_big_quiet_on)
  go_big_quiet_want
  go_big_quiet_op
  first | go_big_quiet_on | (refine ⟨_, fun _ _ => rfl, ?_⟩; go_big_quiet_on)
  go_big_quiet_want
  go_big_quiet_op
  first | go_big_quiet_on | (refine ⟨_, fun _ _ => rfl, ?_⟩; go_big_quiet_on)
  go_big_quiet_want
  refine quiet_run (v := .string m.ho) (fun v hv => by have hr := (HL.out v hv).r; obtain ⟨c0, c1, c2, c3, c4, c7, c13, c14, c15, c16, c17, c18⟩ := hr; go_simp) ?_
  simp only [Act.put, List.setIfInBounds_toArray, List.set_cons_zero, List.set_cons_succ]
  go_big_quiet_on
  go_big_quiet_want
  refine quiet_call (f := 35) (args := #[.slice (some ⟨g, 0, none⟩) t.rs.length c, .string m.ho]) (fun v _ => by go_simp) (fun v hv => (HI.out v hv).mono (fun e w' h => ⟨h.1, HCm.out v w' hv h.2⟩)) ?_
  simp only [Act.put, List.setIfInBounds_toArray, List.set_cons_zero, List.set_cons_succ]
  go_big_quiet_on
  go_big_quiet_want
  go_big_quiet_op
  first | go_big_quiet_on | (refine ⟨_, fun _ _ => rfl, ?_⟩; go_big_quiet_on)

  intro w1 hC1
  have HB1 := Lib.hid (HCi.out w1 hC1)
  have H1 := Lib.hid (H.out.below HB1.out)
  clear hC1
  have c0 : w1.cell? ⟨p, 0, none⟩ = some (.slice (some ⟨g, 0, none⟩) t.rs.length c) := H1.out.at_.r.rs
  have HD := Lib.hid (delete_any w1 g c t.rs k hkn (HRW.out.below HB1.out) hm)
  go_wp2_with (fail)
  refine HD.out.mono ?_; rintro e w2 ⟨rfl, hr2, ho2⟩
  have hl2 : (outR t.rs m.ho).length = t.rs.length - 1 := HOL.out
  have hP := H1.out.rows_put (v := w2) (l' := outR t.rs m.ho) (ho2.mono fun i hi => by rw [hi]; rfl) (hr2.own HG.out (fun x hx => Nat.le_trans (HXo.out x (by show x ∈ outR t.rs m.ho; rw [HOE.out]; exact hx)) (by unfold maxLen; omega)) |> fun q => by rw [← HOE.out] at q; exact q)
  rw [hl2] at hP
  have f0 : w2.frozen? ⟨p, 0, none⟩ = false := (H1.out.blk.only ho2 (fun e => H1.out.apart.1 (by rw [e]; rfl))).free 0
  have c02 : w2.cell? ⟨p, 0, none⟩ = some (.slice (some ⟨g, 0, none⟩) t.rs.length c) := (H1.out.blk.only ho2 (fun e => H1.out.apart.1 (by rw [e]; rfl))).cell 0
  have HP := Lib.hid hP.1; have HBP := Lib.hid ((HB1.out.mono H.out.lt).trans hP.2)
  clear hP hr2 ho2 c0
  go_upto_region 3 with (fail)
  generalize w2.setCell ⟨p, 0, none⟩ (.slice (some ⟨g, 0, none⟩) (t.rs.length - 1) c) = w3 at *
  have c3 : w3.cell? ⟨p, 3, none⟩ = some (.int .u32 t.ge) := HP.out.blk.cell 3
  have f3 := HP.out.blk.free 3
  obtain ⟨g1, g2⟩ := HP.out.put 3 (.int .u32 (incG t.ge)) (t' := unT t m) rfl rfl
  have H3 := Lib.hid g1; have HB3 := Lib.hid (HBP.out.trans g2)
  clear g1 g2 c02 f0
  have hig : IntKind.u32.wrap (t.ge + 1) = incG t.ge := rfl
  go_upto_region 4 with (fail)
  generalize w3.setCell ⟨p, 3, none⟩ (.int .u32 (incG t.ge)) = w4 at *
  clear c3 f3 hig
  have c0 : w4.cell? ⟨p, 0, none⟩ = some (.slice (some ⟨g, 0, none⟩) (outR t.rs m.ho).length c) := H3.out.at_.r.rs
  have c2 : w4.cell? ⟨p, 2, none⟩ = some (.string t.ho) := H3.out.at_.r.hh
  have c7 : w4.cell? ⟨p, 7, none⟩ = some (.string m.ho) := H3.out.at_.r.ho
  have hqe := HEQ.out
  go_quiet (fail)
  clear c0 c2 c7
  have H4 := Lib.hid (fun n => H3.out.below (below_drewN (Below.refl _ _) n))
  go_wp2_with (fail)
  refine (HE.out _ _ _ _ _ (H4.out _)).mono ?_; rintro e w5 ⟨rfl, A5, c5, B5, e5, h5, hb5⟩
  have H5 := Lib.hid h5; have HB5 := Lib.hid ((below_drewN HB3.out _).trans hb5)
  clear h5 hb5
  go_wp2_with (fail)
  go_end0
  exact ⟨rfl, A5, c5, B5, e5, H5.out, HB5.out⟩
set_option maxRecDepth 100000 in
set_option maxHeartbeats 4000000 in
theorem unreg_last (w : World) (n0 p : Nat) (A : Option Addr) (c : Nat) (t : Tl) (m : Cm) (B : Option Addr) (e : Nat) (es : List Ev) (h : Chg w n0 p A c t m B e es) (hx : ∀ x ∈ t.rs, x.h.size ≤ 1000) (hm : t.rs.length ≤ 1000) (he : es.length ≤ 1000) (hr : regB t.rs m.ho = true) (hq : eqS t.ho m.ho = false) (hz : (outR t.rs m.ho).length = 0) :
    Calls Tryd.prog 68 #[.pointer (some ⟨p, 0, none⟩)] w fun e w' => e = .returned (.tuple #[]) ∧ WrO n0 p (endT (unT t m)) m (endE (unT t m) m es) w w' := by
  obtain ⟨k, x0, hf, hx0, hq0, hk0⟩ := findQ_some (q := isH m.ho) hr
  have hkn := (List.getElem?_eq_some_iff.1 hx0).1
  obtain ⟨g, rfl, hg0, hrow⟩ := RowR.of h.rgs (by omega)
  have H := Lib.hid h; have HRW := Lib.hid hrow; have HG := Lib.hid hg0
  have HOL := Lib.hid (outR_length hk0 hkn)
  have hout : outR t.rs m.ho = t.rs.take k ++ t.rs.drop (k + 1) := by unfold outR; rw [← hk0]
  have HOE := Lib.hid hout
  have HXo : Hid (∀ x ∈ (unT t m).rs, x.h.size ≤ 1000) := by
    intro x hx'
    have hx'' : x ∈ t.rs.take k ++ t.rs.drop (k + 1) := by rw [← hout]; exact hx'
    rcases List.mem_append.1 hx'' with q | q
    · exact hx x (List.mem_of_mem_take q)
    · exact hx x (List.mem_of_mem_drop q)
  have hml : (unT t m).rs.length ≤ 1000 := by show (outR t.rs m.ho).length ≤ 1000; rw [HOL.out]; omega
  clear h hrow hg0 hx0 hq0 hk0 hr hout
  have HE := Lib.hid (fun v A c B e (hv : Chg v n0 p A c (unT t m) m B e es) => end_any v n0 p A c (unT t m) m B e es hv HXo.out hml he)
  have HEQ : Hid ((t.ho.toList == m.ho.toList) = false) := hq
  clear hq
  have HZ := Lib.hid hz
  clear hz
  clear hx he
  have hi1 : IntKind.i64.wrap ((k : Int) + 1) = (k : Int) + 1 := i64w _ (by omega)
  go_enter Tryd.func68, Tryd.ntmps68
  go_upto_region 0 with (fail)
  obtain ⟨C, hC0, hCl, hCi, hCm⟩ := class_ch H.out.at_
  have HC0 := Lib.hid hC0; have HL := Lib.hid hCl; have HCi := Lib.hid hCi; have HCm := Lib.hid hCm
  clear hC0 hCl hCi hCm
  have HI := Lib.hid (fun v (hv : C v) => indexOf_any (some ⟨g, 0, none⟩) c t.rs m.ho v (HL.out v hv).rgs (by unfold maxLen; omega))
  rw [hf] at HI
  clear hf
  refine wp_region_class C (by kernel_rfl) (by kernel_rfl) HC0.out ?_
  go_big_quiet_want
  go_big_quiet_op
  first | go_big_quiet_on | (refine ⟨_, fun _ _ => rfl, ?_⟩; go_big_quiet_on)
  go_big_quiet_want
  go_big_quiet_op
  first | go_big_quiet_on | (refine ⟨_, fun _ _ => rfl, ?_⟩; go_big_quiet_on)
  go_big_quiet_want
  go_big_quiet_op
  first | go_big_quiet_on | (refine ⟨_, fun _ _ => rfl, ?_⟩; go_big_quiet_on)
  go_big_quiet_want
  go_big_quiet_op
  first | go_big_quiet_on | (refine ⟨_, fun _ _ => rfl, ?_⟩; go_big_quiet_on)
  go_big_quiet_want
  refine quiet_run (v := .slice (some ⟨g, 0, none⟩) t.rs.length c) (fun v hv => by have hr := (HL.out v hv).r; obtain ⟨c0, c1, c2, c3, c4, c7, c13, c14, c15, c16, c17, c18⟩ := hr; go_simp) ?_
  simp only [Act.put, List.setIfInBounds_toArray, List.set_cons_zero, List.set_cons_succ]
  go_big_quiet_on
  go_big_quiet_want
  go_big_quiet_op
  first | go_big_quiet_on | (refine ⟨_, fun _ _ => rfl, ?_⟩; go_big_quiet_on)
  go_big_quiet_want
  go_big_quiet_op
  first | go_big_quiet_on | (refine ⟨_, fun _ _ => rfl, ?_⟩; go_big_quiet_on)
  go_big_quiet_want
  go_big_quiet_op
  first | go_big_quiet_on | (refine ⟨_, fun _ _ => rfl, ?_⟩; go_big_quiet_on)
  go_big_quiet_want
  go_big_quiet_op
  first | go_big_quiet_on | (refine ⟨_, fun _ _ => rfl, ?_⟩; go_big_quiet_on)
  go_big_quiet_want
  refine quiet_run (v := .string m.ho) (fun v hv => by have hr := (HL.out v hv).r; obtain ⟨c0, c1, c2, c3, c4, c7, c13, c14, c15, c16, c17, c18⟩ := hr; go_simp) ?_
  simp only [Act.put, List.setIfInBounds_toArray, List.set_cons_zero, List.set_cons_succ]
  go_big_quiet_on
  go_big_quiet_want
  refine quiet_call (f := 35) (args := #[.slice (some ⟨g, 0, none⟩) t.rs.length c, .string m.ho]) (fun v _ => by go_simp) (fun v hv => (HI.out v hv).mono (fun e w' h => ⟨h.1, HCm.out v w' hv h.2⟩)) ?_
  simp only [Act.put, List.setIfInBounds_toArray, List.set_cons_zero, List.set_cons_succ]
  go_big_quiet_on
  go_big_quiet_want
  go_big_quiet_op
  first | go_big_quiet_on | (refine ⟨_, fun _ _ => rfl, ?_⟩; go_big_quiet_on)

  intro w1 hC1
  have HB1 := Lib.hid (HCi.out w1 hC1)
  have H1 := Lib.hid (H.out.below HB1.out)
  clear hC1
  have c0 : w1.cell? ⟨p, 0, none⟩ = some (.slice (some ⟨g, 0, none⟩) t.rs.length c) := H1.out.at_.r.rs
  have HD := Lib.hid (delete_any w1 g c t.rs k hkn (HRW.out.below HB1.out) hm)
  go_wp2_with (fail)
  refine HD.out.mono ?_; rintro e w2 ⟨rfl, hr2, ho2⟩
  have hl2 : (outR t.rs m.ho).length = t.rs.length - 1 := HOL.out
  have hP := H1.out.rows_put (v := w2) (l' := outR t.rs m.ho) (ho2.mono fun i hi => by rw [hi]; rfl) (hr2.own HG.out (fun x hx => Nat.le_trans (HXo.out x (by show x ∈ outR t.rs m.ho; rw [HOE.out]; exact hx)) (by unfold maxLen; omega)) |> fun q => by rw [← HOE.out] at q; exact q)
  rw [hl2] at hP
  have f0 : w2.frozen? ⟨p, 0, none⟩ = false := (H1.out.blk.only ho2 (fun e => H1.out.apart.1 (by rw [e]; rfl))).free 0
  have c02 : w2.cell? ⟨p, 0, none⟩ = some (.slice (some ⟨g, 0, none⟩) t.rs.length c) := (H1.out.blk.only ho2 (fun e => H1.out.apart.1 (by rw [e]; rfl))).cell 0
  have HP := Lib.hid hP.1; have HBP := Lib.hid ((HB1.out.mono H.out.lt).trans hP.2)
  clear hP hr2 ho2 c0
  go_upto_region 3 with (fail)
  generalize w2.setCell ⟨p, 0, none⟩ (.slice (some ⟨g, 0, none⟩) (t.rs.length - 1) c) = w3 at *
  have c3 : w3.cell? ⟨p, 3, none⟩ = some (.int .u32 t.ge) := HP.out.blk.cell 3
  have f3 := HP.out.blk.free 3
  obtain ⟨g1, g2⟩ := HP.out.put 3 (.int .u32 (incG t.ge)) (t' := unT t m) rfl rfl
  have H3 := Lib.hid g1; have HB3 := Lib.hid (HBP.out.trans g2)
  clear g1 g2 c02 f0
  have hig : IntKind.u32.wrap (t.ge + 1) = incG t.ge := rfl
  go_upto_region 4 with (fail)
  generalize w3.setCell ⟨p, 3, none⟩ (.int .u32 (incG t.ge)) = w4 at *
  clear c3 f3 hig
  have c0 : w4.cell? ⟨p, 0, none⟩ = some (.slice (some ⟨g, 0, none⟩) (outR t.rs m.ho).length c) := H3.out.at_.r.rs
  have c2 : w4.cell? ⟨p, 2, none⟩ = some (.string t.ho) := H3.out.at_.r.hh
  have c7 : w4.cell? ⟨p, 7, none⟩ = some (.string m.ho) := H3.out.at_.r.ho
  have hqe := HEQ.out
  rw [HZ.out] at c0
  go_quiet (fail)
  clear c0 c2 c7
  have H4 := Lib.hid (fun n => H3.out.below (below_drewN (Below.refl _ _) n))
  go_wp2_with (fail)
  refine (HE.out _ _ _ _ _ (H4.out _)).mono ?_; rintro e w5 ⟨rfl, A5, c5, B5, e5, h5, hb5⟩
  have H5 := Lib.hid h5; have HB5 := Lib.hid ((below_drewN HB3.out _).trans hb5)
  clear h5 hb5
  go_wp2_with (fail)
  go_end0
  exact ⟨rfl, A5, c5, B5, e5, H5.out, HB5.out⟩
set_option maxRecDepth 100000 in
set_option maxHeartbeats 4000000 in
theorem unreg_else (w : World) (n0 p : Nat) (A : Option Addr) (c : Nat) (t : Tl) (m : Cm) (B : Option Addr) (e : Nat) (es : List Ev) (h : Chg w n0 p A c t m B e es) (hx : ∀ x ∈ t.rs, x.h.size ≤ 1000) (hm : t.rs.length ≤ 1000) (_he : es.length ≤ 1000) (hr : regB t.rs m.ho = true) (hq : eqS t.ho m.ho = false) (hz : (outR t.rs m.ho).length ≠ 0) :
    Calls Tryd.prog 68 #[.pointer (some ⟨p, 0, none⟩)] w fun e w' => e = .returned (.tuple #[]) ∧ WrO n0 p (unT t m) m es w w' := by
  obtain ⟨k, x0, hf, hx0, hq0, hk0⟩ := findQ_some (q := isH m.ho) hr
  have hkn := (List.getElem?_eq_some_iff.1 hx0).1
  obtain ⟨g, rfl, hg0, hrow⟩ := RowR.of h.rgs (by omega)
  have H := Lib.hid h; have HRW := Lib.hid hrow; have HG := Lib.hid hg0
  have HOL := Lib.hid (outR_length hk0 hkn)
  have hout : outR t.rs m.ho = t.rs.take k ++ t.rs.drop (k + 1) := by unfold outR; rw [← hk0]
  have HOE := Lib.hid hout
  have HXo : Hid (∀ x ∈ (unT t m).rs, x.h.size ≤ 1000) := by
    intro x hx'
    have hx'' : x ∈ t.rs.take k ++ t.rs.drop (k + 1) := by rw [← hout]; exact hx'
    rcases List.mem_append.1 hx'' with q | q
    · exact hx x (List.mem_of_mem_take q)
    · exact hx x (List.mem_of_mem_drop q)
  have hml : (unT t m).rs.length ≤ 1000 := by show (outR t.rs m.ho).length ≤ 1000; rw [HOL.out]; omega
  clear h hrow hg0 hx0 hq0 hk0 hr hout
  have HEQ : Hid ((t.ho.toList == m.ho.toList) = false) := hq
  clear hq
  have HZ := Lib.hid hz
  clear hz
  clear hx
  have hi1 : IntKind.i64.wrap ((k : Int) + 1) = (k : Int) + 1 := i64w _ (by omega)
  go_enter Tryd.func68, Tryd.ntmps68
  go_upto_region 0 with (fail)
  obtain ⟨C, hC0, hCl, hCi, hCm⟩ := class_ch H.out.at_
  have HC0 := Lib.hid hC0; have HL := Lib.hid hCl; have HCi := Lib.hid hCi; have HCm := Lib.hid hCm
  clear hC0 hCl hCi hCm
  have HI := Lib.hid (fun v (hv : C v) => indexOf_any (some ⟨g, 0, none⟩) c t.rs m.ho v (HL.out v hv).rgs (by unfold maxLen; omega))
  rw [hf] at HI
  clear hf
  refine wp_region_class C (by kernel_rfl) (by kernel_rfl) HC0.out ?_
  go_big_quiet_want
  go_big_quiet_op
  first | go_big_quiet_on | (refine ⟨_, fun _ _ => rfl, ?_⟩; go_big_quiet_on)
  go_big_quiet_want
  go_big_quiet_op
  first | go_big_quiet_on | (refine ⟨_, fun _ _ => rfl, ?_⟩; go_big_quiet_on)
  go_big_quiet_want
  go_big_quiet_op
  first | go_big_quiet_on | (refine ⟨_, fun _ _ => rfl, ?_⟩; go_big_quiet_on)
  go_big_quiet_want
  go_big_quiet_op
  first | go_big_quiet_on | (refine ⟨_, fun _ _ => rfl, ?_⟩; go_big_quiet_on)
  go_big_quiet_want
  refine quiet_run (v := .slice (some ⟨g, 0, none⟩) t.rs.length c) (fun v hv => by have hr := (HL.out v hv).r; obtain ⟨c0, c1, c2, c3, c4, c7, c13, c14, c15, c16, c17, c18⟩ := hr; go_simp) ?_
  simp only [Act.put, List.setIfInBounds_toArray, List.set_cons_zero, List.set_cons_succ]
  go_big_quiet_on
  go_big_quiet_want
  go_big_quiet_op
  first | go_big_quiet_on | (refine ⟨_, fun _ _ => rfl, ?_⟩; go_big_quiet_on)
  go_big_quiet_want
  go_big_quiet_op
  first | go_big_quiet_on | (refine ⟨_, fun _ _ => rfl, ?_⟩; go_big_quiet_on)
  go_big_quiet_want
  go_big_quiet_op
  first | go_big_quiet_on | (refine ⟨_, fun _ _ => rfl, ?_⟩; go_big_quiet_on)
  go_big_quiet_want
  go_big_quiet_op
  first | go_big_quiet_on | (refine ⟨_, fun _ _ => rfl, ?_⟩; go_big_quiet_on)
  go_big_quiet_want
  refine quiet_run (v := .string m.ho) (fun v hv => by have hr := (HL.out v hv).r; obtain ⟨c0, c1, c2, c3, c4, c7, c13, c14, c15, c16, c17, c18⟩ := hr; go_simp) ?_
  simp only [Act.put, List.setIfInBounds_toArray, List.set_cons_zero, List.set_cons_succ]
  go_big_quiet_on
  go_big_quiet_want
  refine quiet_call (f := 35) (args := #[.slice (some ⟨g, 0, none⟩) t.rs.length c, .string m.ho]) (fun v _ => by go_simp) (fun v hv => (HI.out v hv).mono (fun e w' h => ⟨h.1, HCm.out v w' hv h.2⟩)) ?_
  simp only [Act.put, List.setIfInBounds_toArray, List.set_cons_zero, List.set_cons_succ]
  go_big_quiet_on
  go_big_quiet_want
  go_big_quiet_op
  first | go_big_quiet_on | (refine ⟨_, fun _ _ => rfl, ?_⟩; go_big_quiet_on)

  intro w1 hC1
  have HB1 := Lib.hid (HCi.out w1 hC1)
  have H1 := Lib.hid (H.out.below HB1.out)
  clear hC1
  have c0 : w1.cell? ⟨p, 0, none⟩ = some (.slice (some ⟨g, 0, none⟩) t.rs.length c) := H1.out.at_.r.rs
  have HD := Lib.hid (delete_any w1 g c t.rs k hkn (HRW.out.below HB1.out) hm)
  go_wp2_with (fail)
  refine HD.out.mono ?_; rintro e w2 ⟨rfl, hr2, ho2⟩
  have hl2 : (outR t.rs m.ho).length = t.rs.length - 1 := HOL.out
  have hP := H1.out.rows_put (v := w2) (l' := outR t.rs m.ho) (ho2.mono fun i hi => by rw [hi]; rfl) (hr2.own HG.out (fun x hx => Nat.le_trans (HXo.out x (by show x ∈ outR t.rs m.ho; rw [HOE.out]; exact hx)) (by unfold maxLen; omega)) |> fun q => by rw [← HOE.out] at q; exact q)
  rw [hl2] at hP
  have f0 : w2.frozen? ⟨p, 0, none⟩ = false := (H1.out.blk.only ho2 (fun e => H1.out.apart.1 (by rw [e]; rfl))).free 0
  have c02 : w2.cell? ⟨p, 0, none⟩ = some (.slice (some ⟨g, 0, none⟩) t.rs.length c) := (H1.out.blk.only ho2 (fun e => H1.out.apart.1 (by rw [e]; rfl))).cell 0
  have HP := Lib.hid hP.1; have HBP := Lib.hid ((HB1.out.mono H.out.lt).trans hP.2)
  clear hP hr2 ho2 c0
  go_upto_region 3 with (fail)
  generalize w2.setCell ⟨p, 0, none⟩ (.slice (some ⟨g, 0, none⟩) (t.rs.length - 1) c) = w3 at *
  have c3 : w3.cell? ⟨p, 3, none⟩ = some (.int .u32 t.ge) := HP.out.blk.cell 3
  have f3 := HP.out.blk.free 3
  obtain ⟨g1, g2⟩ := HP.out.put 3 (.int .u32 (incG t.ge)) (t' := unT t m) rfl rfl
  have H3 := Lib.hid g1; have HB3 := Lib.hid (HBP.out.trans g2)
  clear g1 g2 c02 f0
  have hig : IntKind.u32.wrap (t.ge + 1) = incG t.ge := rfl
  go_upto_region 4 with (fail)
  generalize w3.setCell ⟨p, 3, none⟩ (.int .u32 (incG t.ge)) = w4 at *
  clear c3 f3 hig
  have c0 : w4.cell? ⟨p, 0, none⟩ = some (.slice (some ⟨g, 0, none⟩) (outR t.rs m.ho).length c) := H3.out.at_.r.rs
  have c2 : w4.cell? ⟨p, 2, none⟩ = some (.string t.ho) := H3.out.at_.r.hh
  have c7 : w4.cell? ⟨p, 7, none⟩ = some (.string m.ho) := H3.out.at_.r.ho
  have hqe := HEQ.out
  have hzz := HZ.out
  have hzb : (((outR t.rs m.ho).length : Int) == 0) = false := by rw [int_beq]; exact decide_eq_false (by omega)
  go_quiet (fail)
  clear c0 c2 c7
  have H4 := Lib.hid (fun n => H3.out.below (below_drewN (Below.refl _ _) n))
  go_wp2_with (fail)
  go_end0
  exact ⟨rfl, _, c, B, e, H4.out _, below_drewN HB3.out _⟩
theorem unreg_any (w : World) (n0 p : Nat) (A : Option Addr) (c : Nat) (t : Tl) (m : Cm) (B : Option Addr) (e : Nat) (es : List Ev) (h : Chg w n0 p A c t m B e es) (hx : ∀ x ∈ t.rs, x.h.size ≤ 1000) (hm : t.rs.length ≤ 1000) (he : es.length ≤ 1000) :
    Calls Tryd.prog 68 #[.pointer (some ⟨p, 0, none⟩)] w fun e w' => e = .returned (.tuple #[]) ∧ WrO n0 p (unregT t m) m (unregE t m es) w w' := by
  cases hr : regB t.rs m.ho with
  | false =>
    rw [show unregT t m = t by unfold unregT; rw [hr]; rfl, show unregE t m es = es by unfold unregE; rw [hr]; rfl]
    exact unreg_no w n0 p A c t m B e es h hm hr
  | true =>
    cases hl : lastB t m with
    | true =>
      rw [show unregT t m = endT (unT t m) by unfold unregT; rw [hr, hl]; rfl, show unregE t m es = endE (unT t m) m es by unfold unregE; rw [hr, hl]; rfl]
      cases hq : eqS t.ho m.ho with
      | true => exact unreg_holder w n0 p A c t m B e es h hx hm he hr hq
      | false =>
        have : decide ((unT t m).rs.length = 0) = true := by unfold lastB at hl; rw [hq, Bool.false_or] at hl; exact hl
        exact unreg_last w n0 p A c t m B e es h hx hm he hr hq (of_decide_eq_true this)
    | false =>
      rw [show unregT t m = unT t m by unfold unregT; rw [hr, hl]; rfl, show unregE t m es = es by unfold unregE; rw [hr, hl]; rfl]
      have hq : eqS t.ho m.ho = false := by
        cases h0 : eqS t.ho m.ho with
        | false => rfl
        | true => unfold lastB at hl; rw [h0, Bool.true_or] at hl; cases hl
      have : decide ((unT t m).rs.length = 0) = false := by unfold lastB at hl; rw [hq, Bool.false_or] at hl; exact hl
      exact unreg_else w n0 p A c t m B e es h hx hm he hr hq (of_decide_eq_false this)
end Go.Proofs.YtgekadfkokkapaaDoor
