/- A preempt. -/
import Derived.Test.YtgekadfkokkapaaDoorReM
namespace Go.Proofs.YtgekadfkokkapaaDoor
open Go.RowKit
def leftT (t : Tl) (m : Cm) : Tl := { t with rs := t.rs.filter (staysR t m), ge := incG t.ge }
def preCode (t : Tl) (m : Cm) : Int := if typeB m.ty = false then 5 else if regdB t m = false then 2 else if takesB t m = true then 1 else if m.ot = 0 then 5 else if t.rs.any (isR t m) = true then 1 else 2
def preT (t : Tl) (m : Cm) : Tl := if preCode t m = 1 then if takesB t m = true then holdT (leftT t m) m else leftT t m else t
def preE (t : Tl) (m : Cm) (es : List Ev) : List Ev := if preCode t m = 1 then es ++ told 2 (isR t m) t.rs else es
theorem regd_pos {t : Tl} {m : Cm} (h : regdB t m = true) : 0 < t.rs.length := by
  obtain ⟨rs, ty, ho, ge, ap⟩ := t
  cases rs with
  | cons x l => exact Nat.succ_pos _
  | nil =>
    unfold regdB at h
    rw [show keyR ([] : List Rg) m.ho = 0 from rfl] at h
    simp at h
set_option maxRecDepth 100000 in
set_option maxHeartbeats 4000000 in
theorem pre_type (w : World) (n0 p : Nat) (A : Option Addr) (c : Nat) (t : Tl) (m : Cm) (B : Option Addr) (e : Nat) (es : List Ev) (h : Chg w n0 p A c t m B e es) (ht : typeB m.ty = false) :
    Calls Tryd.prog 59 #[.pointer (some ⟨p, 0, none⟩)] w fun e w' => e = .returned (.int .i64 5) ∧ WrO n0 p t m es w w' := by
  have H := Lib.hid h
  have HT := Lib.hid (fun v => type_any m.ty v)
  rw [ht] at HT
  have c16 := h.at_.r.mt
  clear h ht
  go_enter Tryd.func59, Tryd.ntmps59
  go_wp2_with (fail)
  refine (HT.out _).mono ?_; rintro e w1 ⟨rfl, rfl⟩
  go_wp2_with (fail)
  go_ret
  exact ⟨rfl, A, c, B, e, H.out, Below.refl _ _⟩
set_option maxRecDepth 100000 in
set_option maxHeartbeats 4000000 in
theorem pre_unreg (w : World) (n0 p : Nat) (A : Option Addr) (c : Nat) (t : Tl) (m : Cm) (B : Option Addr) (e : Nat) (es : List Ev) (h : Chg w n0 p A c t m B e es) (hm : t.rs.length ≤ 1000) (ht : typeB m.ty = true) (hg : regdB t m = false) :
    Calls Tryd.prog 59 #[.pointer (some ⟨p, 0, none⟩)] w fun e w' => e = .returned (.int .i64 2) ∧ WrO n0 p t m es w w' := by
  have H := Lib.hid h
  have HT := Lib.hid (fun v => type_any m.ty v)
  rw [ht] at HT
  have c16 := h.at_.r.mt
  clear h ht
  have HRG := Lib.hid (fun v A c B e es (hv : ChAt v p A c t m B e es) => isRegd_any v p A c t m B e es hv (by unfold maxLen; omega))
  rw [hg] at HRG
  clear hg
  go_enter Tryd.func59, Tryd.ntmps59
  go_wp2_with (fail)
  refine (HT.out _).mono ?_; rintro e w1 ⟨rfl, rfl⟩
  go_wp2_with (fail)
  refine (HRG.out _ _ _ _ _ _ H.out.at_).mono ?_; rintro e w1 ⟨rfl, hb1⟩
  have H1 := Lib.hid (H.out.below hb1); have HB1 := Lib.hid (hb1.mono H.out.lt)
  clear hb1 c16
  go_wp2_with (fail)
  go_ret
  exact ⟨rfl, A, c, B, e, H1.out, HB1.out⟩
set_option maxRecDepth 100000 in
set_option maxHeartbeats 4000000 in
theorem pre_zero (w : World) (n0 p : Nat) (A : Option Addr) (c : Nat) (t : Tl) (m : Cm) (B : Option Addr) (e : Nat) (es : List Ev) (h : Chg w n0 p A c t m B e es) (hm : t.rs.length ≤ 1000) (ht : typeB m.ty = true) (hg : regdB t m = true) (hk : takesB t m = false) (ho : (m.ot == 0) = true) :
    Calls Tryd.prog 59 #[.pointer (some ⟨p, 0, none⟩)] w fun e w' => e = .returned (.int .i64 5) ∧ WrO n0 p t m es w w' := by
  have H := Lib.hid h
  have HT := Lib.hid (fun v => type_any m.ty v)
  rw [ht] at HT
  have c16 := h.at_.r.mt
  clear h ht
  have HRG := Lib.hid (fun v A c B e es (hv : ChAt v p A c t m B e es) => isRegd_any v p A c t m B e es hv (by unfold maxLen; omega))
  rw [hg] at HRG
  clear hg
  have HTK := Lib.hid (fun v A c B e es (hv : ChAt v p A c t m B e es) => takes_any v p A c t m B e es hv (by unfold maxLen; omega))
  rw [hk] at HTK
  clear hk
  go_enter Tryd.func59, Tryd.ntmps59
  go_wp2_with (fail)
  refine (HT.out _).mono ?_; rintro e w1 ⟨rfl, rfl⟩
  go_wp2_with (fail)
  refine (HRG.out _ _ _ _ _ _ H.out.at_).mono ?_; rintro e w1 ⟨rfl, hb1⟩
  have H1 := Lib.hid (H.out.below hb1); have HB1 := Lib.hid (hb1.mono H.out.lt)
  clear hb1 c16
  go_wp2_with (fail)
  refine (HTK.out _ _ _ _ _ _ H1.out.at_).mono ?_; rintro e w2 ⟨rfl, hb2⟩
  have H2 := Lib.hid (H1.out.below hb2); have HB2 := Lib.hid (HB1.out.trans (hb2.mono H1.out.lt))
  clear hb2
  have c15 := H2.out.at_.r.ot
  go_wp2_with (fail)
  go_ret
  exact ⟨rfl, A, c, B, e, H2.out, HB2.out⟩
set_option maxRecDepth 100000 in
set_option maxHeartbeats 4000000 in
theorem pre_none (w : World) (n0 p : Nat) (A : Option Addr) (c : Nat) (t : Tl) (m : Cm) (B : Option Addr) (e : Nat) (es : List Ev) (h : Chg w n0 p A c t m B e es) (hm : t.rs.length ≤ 1000) (ht : typeB m.ty = true) (hg : regdB t m = true) (hk : takesB t m = false) (ho : (m.ot == 0) = false) (ha : t.rs.any (isR t m) = false) :
    Calls Tryd.prog 59 #[.pointer (some ⟨p, 0, none⟩)] w fun e w' => e = .returned (.int .i64 2) ∧ WrO n0 p t m es w w' := by
  have H := Lib.hid h
  have HT := Lib.hid (fun v => type_any m.ty v)
  rw [ht] at HT
  have c16 := h.at_.r.mt
  clear h ht
  have HRG := Lib.hid (fun v A c B e es (hv : ChAt v p A c t m B e es) => isRegd_any v p A c t m B e es hv (by unfold maxLen; omega))
  rw [hg] at HRG
  clear hg
  have HTK := Lib.hid (fun v A c B e es (hv : ChAt v p A c t m B e es) => takes_any v p A c t m B e es hv (by unfold maxLen; omega))
  rw [hk] at HTK
  clear hk
  have hmf : ∀ (fn : Fn) (first cap : Array Value) (w : World), (Instr.makeFunc fn first cap).run Tryd.prog w = .ok (.func fn first cap) w := fun _ _ _ _ => rfl
  have HCN := Lib.hid (fun v A c B e es (hv : ChAt v p A c t m B e es) => contains_rem A c t.rs p A c t m B e es v hv.rgs (by unfold maxLen; omega) hv)
  rw [ha] at HCN
  clear ha
  go_enter Tryd.func59, Tryd.ntmps59
  go_wp2_with (fail)
  refine (HT.out _).mono ?_; rintro e w1 ⟨rfl, rfl⟩
  go_wp2_with (fail)
  refine (HRG.out _ _ _ _ _ _ H.out.at_).mono ?_; rintro e w1 ⟨rfl, hb1⟩
  have H1 := Lib.hid (H.out.below hb1); have HB1 := Lib.hid (hb1.mono H.out.lt)
  clear hb1 c16
  go_wp2_with (fail)
  refine (HTK.out _ _ _ _ _ _ H1.out.at_).mono ?_; rintro e w2 ⟨rfl, hb2⟩
  have H2 := Lib.hid (H1.out.below hb2); have HB2 := Lib.hid (HB1.out.trans (hb2.mono H1.out.lt))
  clear hb2
  have c15 := H2.out.at_.r.ot
  have c0 := H2.out.at_.r.rs
  go_wp2_with (fail)
  refine (HCN.out _ _ _ _ _ _ H2.out.at_).mono ?_; rintro e w3 ⟨rfl, hb3⟩
  have H3 := Lib.hid (H2.out.below hb3); have HB3 := Lib.hid (HB2.out.trans (hb3.mono H2.out.lt))
  clear hb3 c0 c15
  go_wp2_with (fail)
  go_ret
  exact ⟨rfl, A, c, B, e, H3.out, HB3.out⟩
set_option maxRecDepth 100000 in
set_option maxHeartbeats 4000000 in
theorem pre_strikes (w : World) (n0 p : Nat) (A : Option Addr) (c : Nat) (t : Tl) (m : Cm) (B : Option Addr) (e : Nat) (es : List Ev) (h : Chg w n0 p A c t m B e es) (hm : t.rs.length ≤ 1000) (ht : typeB m.ty = true) (hg : regdB t m = true) (hk : takesB t m = false) (ho : (m.ot == 0) = false) (ha : t.rs.any (isR t m) = true) (hx : ∀ x ∈ t.rs, x.h.size ≤ 1000) (he : es.length ≤ 1000) (hpos : 0 < t.rs.length) :
    Calls Tryd.prog 59 #[.pointer (some ⟨p, 0, none⟩)] w fun e w' => e = .returned (.int .i64 1) ∧ WrO n0 p (leftT t m) m (es ++ told 2 (isR t m) t.rs) w w' := by
  have H := Lib.hid h
  have HT := Lib.hid (fun v => type_any m.ty v)
  rw [ht] at HT
  have c16 := h.at_.r.mt
  clear h ht
  have HRG := Lib.hid (fun v A c B e es (hv : ChAt v p A c t m B e es) => isRegd_any v p A c t m B e es hv (by unfold maxLen; omega))
  rw [hg] at HRG
  clear hg
  have HTK := Lib.hid (fun v A c B e es (hv : ChAt v p A c t m B e es) => takes_any v p A c t m B e es hv (by unfold maxLen; omega))
  rw [hk] at HTK
  clear hk
  have hmf : ∀ (fn : Fn) (first cap : Array Value) (w : World), (Instr.makeFunc fn first cap).run Tryd.prog w = .ok (.func fn first cap) w := fun _ _ _ _ => rfl
  have HCN := Lib.hid (fun v A c B e es (hv : ChAt v p A c t m B e es) => contains_rem A c t.rs p A c t m B e es v hv.rgs (by unfold maxLen; omega) hv)
  rw [ha] at HCN
  clear ha
  have HPOS := Lib.hid hpos
  have HN := Lib.hid (fun v A c B e (hv : Chg v n0 p A c t m B e es) => notify_rem v n0 p A c t m B e es 2 hv hx hm he)
  have HXs : Hid (∀ y ∈ t.rs, y.h.size ≤ maxLen) := fun y hy => Nat.le_trans (hx y hy) (by unfold maxLen; omega)
  clear hx he hpos
  obtain ⟨es1, hes⟩ : ∃ x, es ++ told 2 (isR t m) t.rs = x := ⟨_, rfl⟩
  rw [hes] at HN ⊢
  clear hes
  go_enter Tryd.func59, Tryd.ntmps59
  go_wp2_with (fail)
  refine (HT.out _).mono ?_; rintro e w1 ⟨rfl, rfl⟩
  go_wp2_with (fail)
  refine (HRG.out _ _ _ _ _ _ H.out.at_).mono ?_; rintro e w1 ⟨rfl, hb1⟩
  have H1 := Lib.hid (H.out.below hb1); have HB1 := Lib.hid (hb1.mono H.out.lt)
  clear hb1 c16
  go_wp2_with (fail)
  refine (HTK.out _ _ _ _ _ _ H1.out.at_).mono ?_; rintro e w2 ⟨rfl, hb2⟩
  have H2 := Lib.hid (H1.out.below hb2); have HB2 := Lib.hid (HB1.out.trans (hb2.mono H1.out.lt))
  clear hb2
  have c15 := H2.out.at_.r.ot
  have c0 := H2.out.at_.r.rs
  go_wp2_with (fail)
  refine (HCN.out _ _ _ _ _ _ H2.out.at_).mono ?_; rintro e w3 ⟨rfl, hb3⟩
  have H3 := Lib.hid (H2.out.below hb3); have HB3 := Lib.hid (HB2.out.trans (hb3.mono H2.out.lt))
  clear hb3 c0 c15
  go_wp2_with (fail)
  refine (HN.out _ _ _ _ _ H3.out).mono ?_; rintro e w4 ⟨rfl, A4, c4, B4, e4, h4, hb4⟩
  obtain ⟨g, rfl, hg0, hrow⟩ := RowR.of h4.rgs HPOS.out
  have H4 := Lib.hid h4; have HB4 := Lib.hid (HB3.out.trans hb4); have HG := Lib.hid hg0
  have HD := Lib.hid (deleteF_any w4 g p c4 t m B4 e4 es1 hrow h4.at_ HXs.out hm)
  have d0 := h4.at_.r.rs
  clear h4 hb4 hg0 hrow
  go_wp2_with (fail)
  refine HD.out.mono ?_; rintro e w5 ⟨rfl, hr5, ho5⟩
  have hP := H4.out.rows_put (v := w5) (l' := t.rs.filter (staysR t m)) (ho5.mono fun i hi => by rw [hi]; rfl) (hr5.own HG.out (fun y hy => HXs.out y ((List.mem_filter.1 hy).1)))
  have f0 : w5.frozen? ⟨p, 0, none⟩ = false := (H4.out.blk.only ho5 (fun e => H4.out.apart.1 (by rw [e]; rfl))).free 0
  have c05 : w5.cell? ⟨p, 0, none⟩ = some (.slice (some ⟨g, 0, none⟩) t.rs.length c4) := (H4.out.blk.only ho5 (fun e => H4.out.apart.1 (by rw [e]; rfl))).cell 0
  have HP := Lib.hid hP.1; have HBP := Lib.hid (HB4.out.trans hP.2)
  clear hP hr5 ho5 d0
  go_upto_region 12 with (fail)
  generalize w5.setCell ⟨p, 0, none⟩ (.slice (some ⟨g, 0, none⟩) (t.rs.filter (staysR t m)).length c4) = w6 at *
  clear f0 c05
  have c3 : w6.cell? ⟨p, 3, none⟩ = some (.int .u32 t.ge) := HP.out.blk.cell 3
  have f3 := HP.out.blk.free 3
  have hig : IntKind.u32.wrap (t.ge + 1) = incG t.ge := rfl
  obtain ⟨g1, g2⟩ := HP.out.put 3 (.int .u32 (incG t.ge)) (t' := leftT t m) rfl rfl
  have H6 := Lib.hid g1; have HB6 := Lib.hid (HBP.out.trans g2)
  clear g1 g2
  go_wp2_with (fail)
  go_ret
  exact ⟨rfl, _, c4, B4, e4, H6.out, HB6.out⟩
set_option maxRecDepth 100000 in
set_option maxHeartbeats 4000000 in
theorem pre_takes (w : World) (n0 p : Nat) (A : Option Addr) (c : Nat) (t : Tl) (m : Cm) (B : Option Addr) (e : Nat) (es : List Ev) (h : Chg w n0 p A c t m B e es) (hm : t.rs.length ≤ 1000) (ht : typeB m.ty = true) (hg : regdB t m = true) (hk : takesB t m = true) (hs : m.ho.size ≤ 1000) (hx : ∀ x ∈ t.rs, x.h.size ≤ 1000) (he : es.length ≤ 1000) (hpos : 0 < t.rs.length) :
    Calls Tryd.prog 59 #[.pointer (some ⟨p, 0, none⟩)] w fun e w' => e = .returned (.int .i64 1) ∧ WrO n0 p (holdT (leftT t m) m) m (es ++ told 2 (isR t m) t.rs) w w' := by
  have H := Lib.hid h
  have HT := Lib.hid (fun v => type_any m.ty v)
  rw [ht] at HT
  have c16 := h.at_.r.mt
  clear h ht
  have HRG := Lib.hid (fun v A c B e es (hv : ChAt v p A c t m B e es) => isRegd_any v p A c t m B e es hv (by unfold maxLen; omega))
  rw [hg] at HRG
  clear hg
  have HTK := Lib.hid (fun v A c B e es (hv : ChAt v p A c t m B e es) => takes_any v p A c t m B e es hv (by unfold maxLen; omega))
  rw [hk] at HTK
  clear hk
  have hmf : ∀ (fn : Fn) (first cap : Array Value) (w : World), (Instr.makeFunc fn first cap).run Tryd.prog w = .ok (.func fn first cap) w := fun _ _ _ _ => rfl
  have HPOS := Lib.hid hpos
  have HN := Lib.hid (fun v A c B e (hv : Chg v n0 p A c t m B e es) => notify_rem v n0 p A c t m B e es 2 hv hx hm he)
  have HXs : Hid (∀ y ∈ t.rs, y.h.size ≤ maxLen) := fun y hy => Nat.le_trans (hx y hy) (by unfold maxLen; omega)
  clear hx he hpos
  obtain ⟨es1, hes⟩ : ∃ x, es ++ told 2 (isR t m) t.rs = x := ⟨_, rfl⟩
  rw [hes] at HN ⊢
  clear hes
  have HH := Lib.hid (fun v A c B e (hv : Chg v n0 p A c (leftT t m) m B e es1) => hold_any v n0 p A c (leftT t m) m B e es1 hv hs)
  go_enter Tryd.func59, Tryd.ntmps59
  go_wp2_with (fail)
  refine (HT.out _).mono ?_; rintro e w1 ⟨rfl, rfl⟩
  go_wp2_with (fail)
  refine (HRG.out _ _ _ _ _ _ H.out.at_).mono ?_; rintro e w1 ⟨rfl, hb1⟩
  have H1 := Lib.hid (H.out.below hb1); have HB1 := Lib.hid (hb1.mono H.out.lt)
  clear hb1 c16
  go_wp2_with (fail)
  refine (HTK.out _ _ _ _ _ _ H1.out.at_).mono ?_; rintro e w2 ⟨rfl, hb2⟩
  have H2 := Lib.hid (H1.out.below hb2); have HB2 := Lib.hid (HB1.out.trans (hb2.mono H1.out.lt))
  clear hb2
  have c15 := H2.out.at_.r.ot
  clear c15
  go_wp2_with (fail)
  refine (HN.out _ _ _ _ _ H2.out).mono ?_; rintro e w4 ⟨rfl, A4, c4, B4, e4, h4, hb4⟩
  obtain ⟨g, rfl, hg0, hrow⟩ := RowR.of h4.rgs HPOS.out
  have H4 := Lib.hid h4; have HB4 := Lib.hid (HB2.out.trans hb4); have HG := Lib.hid hg0
  have HD := Lib.hid (deleteF_any w4 g p c4 t m B4 e4 es1 hrow h4.at_ HXs.out hm)
  have d0 := h4.at_.r.rs
  clear h4 hb4 hg0 hrow
  go_wp2_with (fail)
  refine HD.out.mono ?_; rintro e w5 ⟨rfl, hr5, ho5⟩
  have hP := H4.out.rows_put (v := w5) (l' := t.rs.filter (staysR t m)) (ho5.mono fun i hi => by rw [hi]; rfl) (hr5.own HG.out (fun y hy => HXs.out y ((List.mem_filter.1 hy).1)))
  have f0 : w5.frozen? ⟨p, 0, none⟩ = false := (H4.out.blk.only ho5 (fun e => H4.out.apart.1 (by rw [e]; rfl))).free 0
  have c05 : w5.cell? ⟨p, 0, none⟩ = some (.slice (some ⟨g, 0, none⟩) t.rs.length c4) := (H4.out.blk.only ho5 (fun e => H4.out.apart.1 (by rw [e]; rfl))).cell 0
  have HP := Lib.hid hP.1; have HBP := Lib.hid (HB4.out.trans hP.2)
  clear hP hr5 ho5 d0
  go_upto_region 12 with (fail)
  generalize w5.setCell ⟨p, 0, none⟩ (.slice (some ⟨g, 0, none⟩) (t.rs.filter (staysR t m)).length c4) = w6 at *
  clear f0 c05
  have c3 : w6.cell? ⟨p, 3, none⟩ = some (.int .u32 t.ge) := HP.out.blk.cell 3
  have f3 := HP.out.blk.free 3
  have hig : IntKind.u32.wrap (t.ge + 1) = incG t.ge := rfl
  obtain ⟨g1, g2⟩ := HP.out.put 3 (.int .u32 (incG t.ge)) (t' := leftT t m) rfl rfl
  have H6 := Lib.hid g1; have HB6 := Lib.hid (HBP.out.trans g2)
  clear g1 g2
  go_wp2_with (fail)
  refine (HH.out _ _ _ _ _ H6.out).mono ?_; rintro e w7 ⟨rfl, A7, c7, B7, e7, h7, hb7⟩
  have H7 := Lib.hid h7; have HB7 := Lib.hid (HB6.out.trans hb7)
  clear h7 hb7
  go_wp2_with (fail)
  go_ret
  exact ⟨rfl, A7, c7, B7, e7, H7.out, HB7.out⟩
theorem pre_any (w : World) (n0 p : Nat) (A : Option Addr) (c : Nat) (t : Tl) (m : Cm) (B : Option Addr) (e : Nat) (es : List Ev) (h : Chg w n0 p A c t m B e es) (hm : t.rs.length ≤ 1000) (hs : m.ho.size ≤ 1000) (hx : ∀ x ∈ t.rs, x.h.size ≤ 1000) (he : es.length ≤ 1000) :
    Calls Tryd.prog 59 #[.pointer (some ⟨p, 0, none⟩)] w fun e w' => e = .returned (.int .i64 (preCode t m)) ∧ WrO n0 p (preT t m) m (preE t m es) w w' := by
  have no5 : preCode t m = 5 → preT t m = t ∧ preE t m es = es := fun e => ⟨if_neg (by rw [e]; decide), if_neg (by rw [e]; decide)⟩
  have no2 : preCode t m = 2 → preT t m = t ∧ preE t m es = es := fun e => ⟨if_neg (by rw [e]; decide), if_neg (by rw [e]; decide)⟩
  cases ht : typeB m.ty with
  | false =>
    have e : preCode t m = 5 := by unfold preCode; rw [if_pos ht]
    rw [e, (no5 e).1, (no5 e).2]
    exact pre_type w n0 p A c t m B _ es h ht
  | true =>
    have nt : ¬ typeB m.ty = false := by rw [ht]; decide
    cases hg : regdB t m with
    | false =>
      have e : preCode t m = 2 := by unfold preCode; rw [if_neg nt, if_pos hg]
      rw [e, (no2 e).1, (no2 e).2]
      exact pre_unreg w n0 p A c t m B _ es h hm ht hg
    | true =>
      have ng : ¬ regdB t m = false := by rw [hg]; decide
      cases hk : takesB t m with
      | true =>
        have e : preCode t m = 1 := by unfold preCode; rw [if_neg nt, if_neg ng, if_pos hk]
        rw [e, show preT t m = holdT (leftT t m) m by unfold preT; rw [if_pos e, if_pos hk], show preE t m es = es ++ told 2 (isR t m) t.rs from if_pos e]
        exact pre_takes w n0 p A c t m B _ es h hm ht hg hk hs hx he (regd_pos hg)
      | false =>
        have nk : ¬ takesB t m = true := by rw [hk]; decide
        cases ho : (m.ot == 0) with
        | true =>
          have e : preCode t m = 5 := by unfold preCode; rw [if_neg nt, if_neg ng, if_neg nk, if_pos (eqB ho)]
          rw [e, (no5 e).1, (no5 e).2]
          exact pre_zero w n0 p A c t m B _ es h hm ht hg hk ho
        | false =>
          cases ha : t.rs.any (isR t m) with
          | false =>
            have e : preCode t m = 2 := by unfold preCode; rw [if_neg nt, if_neg ng, if_neg nk, if_neg (neB ho), if_neg (by rw [ha]; decide)]
            rw [e, (no2 e).1, (no2 e).2]
            exact pre_none w n0 p A c t m B _ es h hm ht hg hk ho ha
          | true =>
            have e : preCode t m = 1 := by unfold preCode; rw [if_neg nt, if_neg ng, if_neg nk, if_neg (neB ho), if_pos ha]
            rw [e, show preT t m = leftT t m by unfold preT; rw [if_pos e, if_neg nk], show preE t m es = es ++ told 2 (isR t m) t.rs from if_pos e]
            exact pre_strikes w n0 p A c t m B _ es h hm ht hg hk ho ha hx he (regd_pos hg)
end Go.Proofs.YtgekadfkokkapaaDoor
