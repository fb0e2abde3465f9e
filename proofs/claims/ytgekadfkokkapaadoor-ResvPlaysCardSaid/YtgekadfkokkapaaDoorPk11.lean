/- A preempt. What good tables are, apart from any world; what a change makes of them. The document's own: keys, who holds alone, good tables, lists without a host, events. What is not large; the rests that the statements call. What a change makes of good tables: they stay good; who is told; what is not good changes nothing. -/
import Derived.Test.YtgekadfkokkapaaDoorPk08
import Derived.Test.YtgekadfkokkapaaDoorPk06
import Derived.Test.YtgekadfkokkapaaDoorPk09
import Derived.Test.YtgekadfkokkapaaDoorPk10
import Derived.Test.YtgekadfkokkapaaDoorPk02
namespace Go.Proofs.YtgekadfkokkapaaDoor
open Go.RowKit
def leftT (t : Tl) (m : Cm) : Tl := { t with rs := t.rs.filter (staysR t m), ge := incG t.ge }
def preCode (t : Tl) (m : Cm) : Int := if typeB m.ty = false then 5 else if regdB t m = false then 2 else if takesB t m = true then 1 else if m.ot = 0 then 5 else if t.rs.any (isR t m) = true then 1 else 2
def preT (t : Tl) (m : Cm) : Tl := if preCode t m = 1 then if takesB t m = true then holdT (leftT t m) m else leftT t m else t
def preE (t : Tl) (m : Cm) (es : List Ev) : List Ev := if preCode t m = 1 then es ++ told 2 (isR t m) t.rs else es
theorem regd_pos {t : Tl} {m : Cm} (h : regdB t m = true) : 0 < t.rs.length := by
  obtain ⟨rs, ty, ho, ge, ap⟩ := t
  cases rs with
  | cons x l => exact Nat.succ_pos _
  | nil =>
    unfold regdB at h
    rw [show keyR ([] : List Rg) m.ho = 0 from rfl] at h
    simp at h
set_option maxRecDepth 100000 in
set_option maxHeartbeats 4000000 in
theorem pre_type (w : World) (n0 p : Nat) (A : Option Addr) (c : Nat) (t : Tl) (m : Cm) (B : Option Addr) (e : Nat) (es : List Ev) (h : Chg w n0 p A c t m B e es) (ht : typeB m.ty = false) :
    Calls Tryd.prog 59 #[.pointer (some ⟨p, 0, none⟩)] w fun e w' => e = .returned (.int .i64 5) ∧ WrO n0 p t m es w w' := by
  have H := Lib.hid h
  have HT := Lib.hid (fun v => type_any m.ty v)
  rw [ht] at HT
  have c16 := h.at_.r.mt
  clear h ht
  go_enter Tryd.func59, Tryd.ntmps59
  go_wp2_with (fail)
  refine (HT.out _).mono ?_; rintro e w1 ⟨rfl, rfl⟩
  go_wp2_with (fail)
  go_ret
  exact ⟨rfl, A, c, B, e, H.out, Below.refl _ _⟩
set_option maxRecDepth 100000 in
set_option maxHeartbeats 4000000 in
theorem pre_unreg (w : World) (n0 p : Nat) (A : Option Addr) (c : Nat) (t : Tl) (m : Cm) (B : Option Addr) (e : Nat) (es : List Ev) (h : Chg w n0 p A c t m B e es) (hm : t.rs.length ≤ 1000) (ht : typeB m.ty = true) (hg : regdB t m = false) :
    Calls Tryd.prog 59 #[.pointer (some ⟨p, 0, none⟩)] w fun e w' => e = .returned (.int .i64 2) ∧ WrO n0 p t m es w w' := by
  have H := Lib.hid h
  have HT := Lib.hid (fun v => type_any m.ty v)
  rw [ht] at HT
  have c16 := h.at_.r.mt
  clear h ht
  have HRG := Lib.hid (fun v A c B e es (hv : ChAt v p A c t m B e es) => isRegd_any v p A c t m B e es hv (by unfold maxLen; omega))
  rw [hg] at HRG
  clear hg
  go_enter Tryd.func59, Tryd.ntmps59
  go_wp2_with (fail)
  refine (HT.out _).mono ?_; rintro e w1 ⟨rfl, rfl⟩
  go_wp2_with (fail)
  refine (HRG.out _ _ _ _ _ _ H.out.at_).mono ?_; rintro e w1 ⟨rfl, hb1⟩
  have H1 := Lib.hid (H.out.below hb1); have HB1 := Lib.hid (hb1.mono H.out.lt)
  clear hb1 c16
  go_wp2_with (fail)
  go_ret
  exact ⟨rfl, A, c, B, e, H1.out, HB1.out⟩
set_option maxRecDepth 100000 in
set_option maxHeartbeats 4000000 in
theorem pre_zero (w : World) (n0 p : Nat) (A : Option Addr) (c : Nat) (t : Tl) (m : Cm) (B : Option Addr) (e : Nat) (es : List Ev) (h : Chg w n0 p A c t m B e es) (hm : t.rs.length ≤ 1000) (ht : typeB m.ty = true) (hg : regdB t m = true) (hk : takesB t m = false) (ho : (m.ot == 0) = true) :
    Calls Tryd.prog 59 #[.pointer (some ⟨p, 0, none⟩)] w fun e w' => e = .returned (.int .i64 5) ∧ WrO n0 p t m es w w' := by
  have H := Lib.hid h
  have HT := Lib.hid (fun v => type_any m.ty v)
  rw [ht] at HT
  have c16 := h.at_.r.mt
  clear h ht
  have HRG := Lib.hid (fun v A c B e es (hv : ChAt v p A c t m B e es) => isRegd_any v p A c t m B e es hv (by unfold maxLen; omega))
  rw [hg] at HRG
  clear hg
  have HTK := Lib.hid (fun v A c B e es (hv : ChAt v p A c t m B e es) => takes_any v p A c t m B e es hv (by unfold maxLen; omega))
  rw [hk] at HTK
  clear hk
  go_enter Tryd.func59, Tryd.ntmps59
  go_wp2_with (fail)
  refine (HT.out _).mono ?_; rintro e w1 ⟨rfl, rfl⟩
  go_wp2_with (fail)
  refine (HRG.out _ _ _ _ _ _ H.out.at_).mono ?_; rintro e w1 ⟨rfl, hb1⟩
  have H1 := Lib.hid (H.out.below hb1); have HB1 := Lib.hid (hb1.mono H.out.lt)
  clear hb1 c16
  go_wp2_with (fail)
  refine (HTK.out _ _ _ _ _ _ H1.out.at_).mono ?_; rintro e w2 ⟨rfl, hb2⟩
  have H2 := Lib.hid (H1.out.below hb2); have HB2 := Lib.hid (HB1.out.trans (hb2.mono H1.out.lt))
  clear hb2
  have c15 := H2.out.at_.r.ot
  go_wp2_with (fail)
  go_ret
  exact ⟨rfl, A, c, B, e, H2.out, HB2.out⟩
set_option maxRecDepth 100000 in
set_option maxHeartbeats 4000000 in
theorem pre_none (w : World) (n0 p : Nat) (A : Option Addr) (c : Nat) (t : Tl) (m : Cm) (B : Option Addr) (e : Nat) (es : List Ev) (h : Chg w n0 p A c t m B e es) (hm : t.rs.length ≤ 1000) (ht : typeB m.ty = true) (hg : regdB t m = true) (hk : takesB t m = false) (ho : (m.ot == 0) = false) (ha : t.rs.any (isR t m) = false) :
    Calls Tryd.prog 59 #[.pointer (some ⟨p, 0, none⟩)] w fun e w' => e = .returned (.int .i64 2) ∧ WrO n0 p t m es w w' := by
  have H := Lib.hid h
  have HT := Lib.hid (fun v => type_any m.ty v)
  rw [ht] at HT
  have c16 := h.at_.r.mt
  clear h ht
  have HRG := Lib.hid (fun v A c B e es (hv : ChAt v p A c t m B e es) => isRegd_any v p A c t m B e es hv (by unfold maxLen; omega))
  rw [hg] at HRG
  clear hg
  have HTK := Lib.hid (fun v A c B e es (hv : ChAt v p A c t m B e es) => takes_any v p A c t m B e es hv (by unfold maxLen; omega))
  rw [hk] at HTK
  clear hk
  have hmf : ∀ (fn : Fn) (first cap : Array Value) (w : World), (Instr.makeFunc fn first cap).run Tryd.prog w = .ok (.func fn first cap) w := fun _ _ _ _ => rfl
  have HCN := Lib.hid (fun v A c B e es (hv : ChAt v p A c t m B e es) => contains_rem A c t.rs p A c t m B e es v hv.rgs (by unfold maxLen; omega) hv)
  rw [ha] at HCN
  clear ha
  go_enter Tryd.func59, Tryd.ntmps59
  go_wp2_with (fail)
  refine (HT.out _).mono ?_; rintro e w1 ⟨rfl, rfl⟩
  go_wp2_with (fail)
  refine (HRG.out _ _ _ _ _ _ H.out.at_).mono ?_; rintro e w1 ⟨rfl, hb1⟩
  have H1 := Lib.hid (H.out.below hb1); have HB1 := Lib.hid (hb1.mono H.out.lt)
  clear hb1 c16
  go_wp2_with (fail)
  refine (HTK.out _ _ _ _ _ _ H1.out.at_).mono ?_; rintro e w2 ⟨rfl, hb2⟩
  have H2 := Lib.hid (H1.out.below hb2); have HB2 := Lib.hid (HB1.out.trans (hb2.mono H1.out.lt))
  clear hb2
  have c15 := H2.out.at_.r.ot
  have c0 := H2.out.at_.r.rs
  go_wp2_with (fail)
  refine (HCN.out _ _ _ _ _ _ H2.out.at_).mono ?_; rintro e w3 ⟨rfl, hb3⟩
  have H3 := Lib.hid (H2.out.below hb3); have HB3 := Lib.hid (HB2.out.trans (hb3.mono H2.out.lt))
  clear hb3 c0 c15
  go_wp2_with (fail)
  go_ret
  exact ⟨rfl, A, c, B, e, H3.out, HB3.out⟩
set_option maxRecDepth 100000 in
set_option maxHeartbeats 4000000 in
theorem pre_strikes (w : World) (n0 p : Nat) (A : Option Addr) (c : Nat) (t : Tl) (m : Cm) (B : Option Addr) (e : Nat) (es : List Ev) (h : Chg w n0 p A c t m B e es) (hm : t.rs.length ≤ 1000) (ht : typeB m.ty = true) (hg : regdB t m = true) (hk : takesB t m = false) (ho : (m.ot == 0) = false) (ha : t.rs.any (isR t m) = true) (hx : ∀ x ∈ t.rs, x.h.size ≤ 1000) (he : es.length ≤ 1000) (hpos : 0 < t.rs.length) :
    Calls Tryd.prog 59 #[.pointer (some ⟨p, 0, none⟩)] w fun e w' => e = .returned (.int .i64 1) ∧ WrO n0 p (leftT t m) m (es ++ told 2 (isR t m) t.rs) w w' := by
  have H := Lib.hid h
  have HT := Lib.hid (fun v => type_any m.ty v)
  rw [ht] at HT
  have c16 := h.at_.r.mt
  clear h ht
  have HRG := Lib.hid (fun v A c B e es (hv : ChAt v p A c t m B e es) => isRegd_any v p A c t m B e es hv (by unfold maxLen; omega))
  rw [hg] at HRG
  clear hg
  have HTK := Lib.hid (fun v A c B e es (hv : ChAt v p A c t m B e es) => takes_any v p A c t m B e es hv (by unfold maxLen; omega))
  rw [hk] at HTK
  clear hk
  have hmf : ∀ (fn : Fn) (first cap : Array Value) (w : World), (Instr.makeFunc fn first cap).run Tryd.prog w = .ok (.func fn first cap) w := fun _ _ _ _ => rfl
  have HCN := Lib.hid (fun v A c B e es (hv : ChAt v p A c t m B e es) => contains_rem A c t.rs p A c t m B e es v hv.rgs (by unfold maxLen; omega) hv)
  rw [ha] at HCN
  clear ha
  have HPOS := Lib.hid hpos
  have HN := Lib.hid (fun v A c B e (hv : Chg v n0 p A c t m B e es) => notify_rem v n0 p A c t m B e es 2 hv hx hm he)
  have HXs : Hid (∀ y ∈ t.rs, y.h.size ≤ maxLen) := fun y hy => Nat.le_trans (hx y hy) (by unfold maxLen; omega)
  clear hx he hpos
  obtain ⟨es1, hes⟩ : ∃ x, es ++ told 2 (isR t m) t.rs = x := ⟨_, rfl⟩
  rw [hes] at HN ⊢
  clear hes
  go_enter Tryd.func59, Tryd.ntmps59
  go_wp2_with (fail)
  refine (HT.out _).mono ?_; rintro e w1 ⟨rfl, rfl⟩
  go_wp2_with (fail)
  refine (HRG.out _ _ _ _ _ _ H.out.at_).mono ?_; rintro e w1 ⟨rfl, hb1⟩
  have H1 := Lib.hid (H.out.below hb1); have HB1 := Lib.hid (hb1.mono H.out.lt)
  clear hb1 c16
  go_wp2_with (fail)
  refine (HTK.out _ _ _ _ _ _ H1.out.at_).mono ?_; rintro e w2 ⟨rfl, hb2⟩
  have H2 := Lib.hid (H1.out.below hb2); have HB2 := Lib.hid (HB1.out.trans (hb2.mono H1.out.lt))
  clear hb2
  have c15 := H2.out.at_.r.ot
  have c0 := H2.out.at_.r.rs
  go_wp2_with (fail)
  refine (HCN.out _ _ _ _ _ _ H2.out.at_).mono ?_; rintro e w3 ⟨rfl, hb3⟩
  have H3 := Lib.hid (H2.out.below hb3); have HB3 := Lib.hid (HB2.out.trans (hb3.mono H2.out.lt))
  clear hb3 c0 c15
  go_wp2_with (fail)
  refine (HN.out _ _ _ _ _ H3.out).mono ?_; rintro e w4 ⟨rfl, A4, c4, B4, e4, h4, hb4⟩
  obtain ⟨g, rfl, hg0, hrow⟩ := RowR.of h4.rgs HPOS.out
  have H4 := Lib.hid h4; have HB4 := Lib.hid (HB3.out.trans hb4); have HG := Lib.hid hg0
  have HD := Lib.hid (deleteF_any w4 g p c4 t m B4 e4 es1 hrow h4.at_ HXs.out hm)
  have d0 := h4.at_.r.rs
  clear h4 hb4 hg0 hrow
  go_wp2_with (fail)
  refine HD.out.mono ?_; rintro e w5 ⟨rfl, hr5, ho5⟩
  have hP := H4.out.rows_put (v := w5) (l' := t.rs.filter (staysR t m)) (ho5.mono fun i hi => by rw [hi]; rfl) (hr5.own HG.out (fun y hy => HXs.out y ((List.mem_filter.1 hy).1)))
  have f0 : w5.frozen? ⟨p, 0, none⟩ = false := (H4.out.blk.only ho5 (fun e => H4.out.apart.1 (by rw [e]; rfl))).free 0
  have c05 : w5.cell? ⟨p, 0, none⟩ = some (.slice (some ⟨g, 0, none⟩) t.rs.length c4) := (H4.out.blk.only ho5 (fun e => H4.out.apart.1 (by rw [e]; rfl))).cell 0
  have HP := Lib.hid hP.1; have HBP := Lib.hid (HB4.out.trans hP.2)
  clear hP hr5 ho5 d0
  go_upto_region 12 with (fail)
  generalize w5.setCell ⟨p, 0, none⟩ (.slice (some ⟨g, 0, none⟩) (t.rs.filter (staysR t m)).length c4) = w6 at *
  clear f0 c05
  have c3 : w6.cell? ⟨p, 3, none⟩ = some (.int .u32 t.ge) := HP.out.blk.cell 3
  have f3 := HP.out.blk.free 3
  have hig : IntKind.u32.wrap (t.ge + 1) = incG t.ge := rfl
  obtain ⟨g1, g2⟩ := HP.out.put 3 (.int .u32 (incG t.ge)) (t' := leftT t m) rfl rfl
  have H6 := Lib.hid g1; have HB6 := Lib.hid (HBP.out.trans g2)
  clear g1 g2
  go_wp2_with (fail)
  go_ret
  exact ⟨rfl, _, c4, B4, e4, H6.out, HB6.out⟩
set_option maxRecDepth 100000 in
set_option maxHeartbeats 4000000 in
theorem pre_takes (w : World) (n0 p : Nat) (A : Option Addr) (c : Nat) (t : Tl) (m : Cm) (B : Option Addr) (e : Nat) (es : List Ev) (h : Chg w n0 p A c t m B e es) (hm : t.rs.length ≤ 1000) (ht : typeB m.ty = true) (hg : regdB t m = true) (hk : takesB t m = true) (hs : m.ho.size ≤ 1000) (hx : ∀ x ∈ t.rs, x.h.size ≤ 1000) (he : es.length ≤ 1000) (hpos : 0 < t.rs.length) :
    Calls Tryd.prog 59 #[.pointer (some ⟨p, 0, none⟩)] w fun e w' => e = .returned (.int .i64 1) ∧ WrO n0 p (holdT (leftT t m) m) m (es ++ told 2 (isR t m) t.rs) w w' := by
  have H := Lib.hid h
  have HT := Lib.hid (fun v => type_any m.ty v)
  rw [ht] at HT
  have c16 := h.at_.r.mt
  clear h ht
  have HRG := Lib.hid (fun v A c B e es (hv : ChAt v p A c t m B e es) => isRegd_any v p A c t m B e es hv (by unfold maxLen; omega))
  rw [hg] at HRG
  clear hg
  have HTK := Lib.hid (fun v A c B e es (hv : ChAt v p A c t m B e es) => takes_any v p A c t m B e es hv (by unfold maxLen; omega))
  rw [hk] at HTK
  clear hk
  have hmf : ∀ (fn : Fn) (first cap : Array Value) (w : World), (Instr.makeFunc fn first cap).run Tryd.prog w = .ok (.func fn first cap) w := fun _ _ _ _ => rfl
  have HPOS := Lib.hid hpos
  have HN := Lib.hid (fun v A c B e (hv : Chg v n0 p A c t m B e es) => notify_rem v n0 p A c t m B e es 2 hv hx hm he)
  have HXs : Hid (∀ y ∈ t.rs, y.h.size ≤ maxLen) := fun y hy => Nat.le_trans (hx y hy) (by unfold maxLen; omega)
  clear hx he hpos
  obtain ⟨es1, hes⟩ : ∃ x, es ++ told 2 (isR t m) t.rs = x := ⟨_, rfl⟩
  rw [hes] at HN ⊢
  clear hes
  have HH := Lib.hid (fun v A c B e (hv : Chg v n0 p A c (leftT t m) m B e es1) => hold_any v n0 p A c (leftT t m) m B e es1 hv hs)
  go_enter Tryd.func59, Tryd.ntmps59
  go_wp2_with (fail)
  refine (HT.out _).mono ?_; rintro e w1 ⟨rfl, rfl⟩
  go_wp2_with (fail)
  refine (HRG.out _ _ _ _ _ _ H.out.at_).mono ?_; rintro e w1 ⟨rfl, hb1⟩
  have H1 := Lib.hid (H.out.below hb1); have HB1 := Lib.hid (hb1.mono H.out.lt)
  clear hb1 c16
  go_wp2_with (fail)
  refine (HTK.out _ _ _ _ _ _ H1.out.at_).mono ?_; rintro e w2 ⟨rfl, hb2⟩
  have H2 := Lib.hid (H1.out.below hb2); have HB2 := Lib.hid (HB1.out.trans (hb2.mono H1.out.lt))
  clear hb2
  have c15 := H2.out.at_.r.ot
  clear c15
  go_wp2_with (fail)
  refine (HN.out _ _ _ _ _ H2.out).mono ?_; rintro e w4 ⟨rfl, A4, c4, B4, e4, h4, hb4⟩
  obtain ⟨g, rfl, hg0, hrow⟩ := RowR.of h4.rgs HPOS.out
  have H4 := Lib.hid h4; have HB4 := Lib.hid (HB2.out.trans hb4); have HG := Lib.hid hg0
  have HD := Lib.hid (deleteF_any w4 g p c4 t m B4 e4 es1 hrow h4.at_ HXs.out hm)
  have d0 := h4.at_.r.rs
  clear h4 hb4 hg0 hrow
  go_wp2_with (fail)
  refine HD.out.mono ?_; rintro e w5 ⟨rfl, hr5, ho5⟩
  have hP := H4.out.rows_put (v := w5) (l' := t.rs.filter (staysR t m)) (ho5.mono fun i hi => by rw [hi]; rfl) (hr5.own HG.out (fun y hy => HXs.out y ((List.mem_filter.1 hy).1)))
  have f0 : w5.frozen? ⟨p, 0, none⟩ = false := (H4.out.blk.only ho5 (fun e => H4.out.apart.1 (by rw [e]; rfl))).free 0
  have c05 : w5.cell? ⟨p, 0, none⟩ = some (.slice (some ⟨g, 0, none⟩) t.rs.length c4) := (H4.out.blk.only ho5 (fun e => H4.out.apart.1 (by rw [e]; rfl))).cell 0
  have HP := Lib.hid hP.1; have HBP := Lib.hid (HB4.out.trans hP.2)
  clear hP hr5 ho5 d0
  go_upto_region 12 with (fail)
  generalize w5.setCell ⟨p, 0, none⟩ (.slice (some ⟨g, 0, none⟩) (t.rs.filter (staysR t m)).length c4) = w6 at *
  clear f0 c05
  have c3 : w6.cell? ⟨p, 3, none⟩ = some (.int .u32 t.ge) := HP.out.blk.cell 3
  have f3 := HP.out.blk.free 3
  have hig : IntKind.u32.wrap (t.ge + 1) = incG t.ge := rfl
  obtain ⟨g1, g2⟩ := HP.out.put 3 (.int .u32 (incG t.ge)) (t' := leftT t m) rfl rfl
  have H6 := Lib.hid g1; have HB6 := Lib.hid (HBP.out.trans g2)
  clear g1 g2
  go_wp2_with (fail)
  refine (HH.out _ _ _ _ _ H6.out).mono ?_; rintro e w7 ⟨rfl, A7, c7, B7, e7, h7, hb7⟩
  have H7 := Lib.hid h7; have HB7 := Lib.hid (HB6.out.trans hb7)
  clear h7 hb7
  go_wp2_with (fail)
  go_ret
  exact ⟨rfl, A7, c7, B7, e7, H7.out, HB7.out⟩
theorem pre_any (w : World) (n0 p : Nat) (A : Option Addr) (c : Nat) (t : Tl) (m : Cm) (B : Option Addr) (e : Nat) (es : List Ev) (h : Chg w n0 p A c t m B e es) (hm : t.rs.length ≤ 1000) (hs : m.ho.size ≤ 1000) (hx : ∀ x ∈ t.rs, x.h.size ≤ 1000) (he : es.length ≤ 1000) :
    Calls Tryd.prog 59 #[.pointer (some ⟨p, 0, none⟩)] w fun e w' => e = .returned (.int .i64 (preCode t m)) ∧ WrO n0 p (preT t m) m (preE t m es) w w' := by
  have no5 : preCode t m = 5 → preT t m = t ∧ preE t m es = es := fun e => ⟨if_neg (by rw [e]; decide), if_neg (by rw [e]; decide)⟩
  have no2 : preCode t m = 2 → preT t m = t ∧ preE t m es = es := fun e => ⟨if_neg (by rw [e]; decide), if_neg (by rw [e]; decide)⟩
  cases ht : typeB m.ty with
  | false =>
    have e : preCode t m = 5 := by unfold preCode; rw [if_pos ht]
    rw [e, (no5 e).1, (no5 e).2]
    exact pre_type w n0 p A c t m B _ es h ht
  | true =>
    have nt : ¬ typeB m.ty = false := by rw [ht]; decide
    cases hg : regdB t m with
    | false =>
      have e : preCode t m = 2 := by unfold preCode; rw [if_neg nt, if_pos hg]
      rw [e, (no2 e).1, (no2 e).2]
      exact pre_unreg w n0 p A c t m B _ es h hm ht hg
    | true =>
      have ng : ¬ regdB t m = false := by rw [hg]; decide
      cases hk : takesB t m with
      | true =>
        have e : preCode t m = 1 := by unfold preCode; rw [if_neg nt, if_neg ng, if_pos hk]
        rw [e, show preT t m = holdT (leftT t m) m by unfold preT; rw [if_pos e, if_pos hk], show preE t m es = es ++ told 2 (isR t m) t.rs from if_pos e]
        exact pre_takes w n0 p A c t m B _ es h hm ht hg hk hs hx he (regd_pos hg)
      | false =>
        have nk : ¬ takesB t m = true := by rw [hk]; decide
        cases ho : (m.ot == 0) with
        | true =>
          have e : preCode t m = 5 := by unfold preCode; rw [if_neg nt, if_neg ng, if_neg nk, if_pos (eqB ho)]
          rw [e, (no5 e).1, (no5 e).2]
          exact pre_zero w n0 p A c t m B _ es h hm ht hg hk ho
        | false =>
          cases ha : t.rs.any (isR t m) with
          | false =>
            have e : preCode t m = 2 := by unfold preCode; rw [if_neg nt, if_neg ng, if_neg nk, if_neg (neB ho), if_neg (by rw [ha]; decide)]
            rw [e, (no2 e).1, (no2 e).2]
            exact pre_none w n0 p A c t m B _ es h hm ht hg hk ho ha
          | true =>
            have e : preCode t m = 1 := by unfold preCode; rw [if_neg nt, if_neg ng, if_neg nk, if_neg (neB ho), if_pos ha]
            rw [e, show preT t m = leftT t m by unfold preT; rw [if_pos e, if_neg nk], show preE t m es = es ++ told 2 (isR t m) t.rs from if_pos e]
            exact pre_strikes w n0 p A c t m B _ es h hm ht hg hk ho ha hx he (regd_pos hg)
open Go.RowKit
theorem ba_ext {a b : ByteArray} (h : a.toList = b.toList) : a = b := by
  rw [ByteArray.toList_eq, ByteArray.toList_eq] at h
  exact ByteArray.ext (Array.toList_inj.1 h)
theorem eqS_iff {a b : ByteArray} : eqS a b = true ↔ a = b := by
  unfold eqS
  rw [beq_iff_eq]
  exact ⟨ba_ext, fun h => by rw [h]⟩
theorem eqS_no {a b : ByteArray} : eqS a b = false ↔ a ≠ b := by
  rw [← Bool.not_eq_true, eqS_iff]
theorem eqS_self (a : ByteArray) : eqS a a = true := eqS_iff.2 rfl
theorem mt_iff {a : ByteArray} : a.toList.isEmpty = true ↔ a = ⟨#[]⟩ := by
  rw [List.isEmpty_iff]
  constructor
  · intro h; exact ba_ext (h.trans (by rw [ByteArray.toList_eq]))
  · rintro rfl; rw [ByteArray.toList_eq]
theorem name_size {s : ByteArray} (h : nameB s = true) : 1 ≤ s.size ∧ s.size ≤ 64 := by
  have := of_decide_eq_true h
  exact ⟨this.1, this.2.1⟩
theorem name_ne {s : ByteArray} (h : nameB s = true) : s ≠ ⟨#[]⟩ := by
  rintro rfl
  have := (name_size h).1
  exact absurd this (by decide)
theorem regB_iff {l : List Rg} {h : ByteArray} : regB l h = true ↔ ∃ x ∈ l, x.h = h := by
  unfold regB
  rw [List.any_eq_true]
  exact ⟨fun ⟨x, hx, he⟩ => ⟨x, hx, eqS_iff.1 he⟩, fun ⟨x, hx, he⟩ => ⟨x, hx, eqS_iff.2 he⟩⟩
theorem regB_no {l : List Rg} {h : ByteArray} : regB l h = false ↔ ∀ x ∈ l, x.h ≠ h := by
  rw [← Bool.not_eq_true, regB_iff]
  exact ⟨fun hn x hx he => hn ⟨x, hx, he⟩, fun hn ⟨x, hx, he⟩ => hn x hx he⟩
/-- Each host stands once. -/
abbrev Once (l : List Rg) : Prop := l.Pairwise fun a b => a.h ≠ b.h
/-- Registrations that are good. -/
structure RegsP (l : List Rg) : Prop where
  len : l.length ≤ 16
  nm : ∀ x ∈ l, nameB x.h = true
  ky : ∀ x ∈ l, x.k ≠ 0
  un : Once l
def HoldP (t : Tl) : Prop := (t.ty = 0 ∧ t.ho = ⟨#[]⟩) ∨ ((t.ty = 5 ∨ t.ty = 6) ∧ t.ho = ⟨#[]⟩ ∧ 0 < t.rs.length) ∨ ((1 ≤ t.ty ∧ t.ty ≤ 4) ∧ regB t.rs t.ho = true)
theorem okTo_iff {l : List Rg} : ∀ n, okTo l n = true ↔ ∀ k, k < n → okAt l k = true
  | 0 => ⟨fun _ k hk => absurd hk (Nat.not_lt_zero _), fun _ => rfl⟩
  | n + 1 => by
    show (okTo l n && okAt l n) = true ↔ _
    rw [Bool.and_eq_true, okTo_iff n]
    constructor
    · rintro ⟨h1, h2⟩ k hk
      by_cases e : k = n
      · rw [e]; exact h2
      · exact h1 k (by omega)
    · intro h; exact ⟨fun k hk => h k (by omega), h n (by omega)⟩
theorem okAt_iff {l : List Rg} {k : Nat} {x : Rg} (hx : l[k]? = some x) : okAt l k = true ↔ x.k ≠ 0 ∧ nameB x.h = true ∧ regB (l.take k) x.h = false := by
  unfold okAt
  rw [hx]
  simp only [Bool.and_eq_true, bne_iff_ne, Bool.not_eq_true', and_assoc]
theorem regsB_iff {l : List Rg} : regsB l = true ↔ RegsP l := by
  unfold regsB
  rw [Bool.and_eq_true, decide_eq_true_eq, okTo_iff]
  constructor
  · rintro ⟨h1, h2⟩
    have hk : ∀ (k : Nat) (hk : k < l.length), l[k].k ≠ 0 ∧ nameB l[k].h = true ∧ regB (l.take k) l[k].h = false := fun k hk => (okAt_iff (List.getElem?_eq_getElem hk)).1 (h2 k hk)
    refine ⟨h1, fun x hx => ?_, fun x hx => ?_, ?_⟩
    · obtain ⟨k, hkl, rfl⟩ := List.getElem_of_mem hx; exact (hk k hkl).2.1
    · obtain ⟨k, hkl, rfl⟩ := List.getElem_of_mem hx; exact (hk k hkl).1
    · refine List.pairwise_iff_getElem.2 ?_
      intro i j hi hj hij
      exact regB_no.1 (hk j hj).2.2 l[i] (by rw [List.mem_take_iff_getElem]; exact ⟨i, by omega, rfl⟩)
  · rintro ⟨h1, h2, h3, h4⟩
    refine ⟨h1, fun k hk => (okAt_iff (List.getElem?_eq_getElem hk)).2 ⟨h3 _ (List.getElem_mem hk), h2 _ (List.getElem_mem hk), regB_no.2 fun x hx => ?_⟩⟩
    obtain ⟨i, hi, rfl⟩ := List.mem_take_iff_getElem.1 hx
    exact (List.pairwise_iff_getElem.1 h4) i k (by omega) hk (by omega)
theorem sh_iff {n : Int} : shB n = true ↔ n = 5 ∨ n = 6 := decide_eq_true_iff
theorem type_iff {n : Int} : typeB n = true ↔ 0 < n ∧ n < 7 := decide_eq_true_iff
theorem holdB_iff {t : Tl} : holdB t = true ↔ HoldP t := by
  unfold holdB HoldP
  by_cases h0 : t.ty = 0
  · rw [if_pos h0, mt_iff]
    constructor
    · intro h; exact .inl ⟨h0, h⟩
    · rintro (⟨_, h⟩ | ⟨h, _⟩ | ⟨h, _⟩)
      · exact h
      · omega
      · omega
  · rw [if_neg h0]
    by_cases h1 : shB t.ty = true
    · have h1' := sh_iff.1 h1
      rw [if_pos h1, Bool.and_eq_true, mt_iff, decide_eq_true_eq]
      constructor
      · intro h; exact .inr (.inl ⟨h1', h⟩)
      · rintro (⟨h, _⟩ | ⟨_, h⟩ | ⟨h, _⟩)
        · omega
        · exact h
        · omega
    · have h1' : ¬ (t.ty = 5 ∨ t.ty = 6) := fun h => h1 (sh_iff.2 h)
      rw [if_neg h1, Bool.and_eq_true, type_iff]
      constructor
      · rintro ⟨h, hr⟩; exact .inr (.inr ⟨by omega, hr⟩)
      · rintro (⟨h, _⟩ | ⟨h, _⟩ | ⟨h, hr⟩)
        · omega
        · exact absurd h h1'
        · exact ⟨by omega, hr⟩
/-- A good table. -/
structure GoodP (t : Tl) : Prop extends RegsP t.rs where
  hold : HoldP t
theorem goodB_iff {t : Tl} : goodB t = true ↔ GoodP t := by
  unfold goodB
  rw [Bool.and_eq_true, regsB_iff, holdB_iff]
  exact ⟨fun ⟨a, b⟩ => ⟨a, b⟩, fun ⟨a, b⟩ => ⟨a, b⟩⟩
theorem RegsP.sub {l l' : List Rg} (h : RegsP l) (hs : l'.Sublist l) : RegsP l' :=
  ⟨Nat.le_trans hs.length_le h.len, fun x hx => h.nm x (hs.subset hx), fun x hx => h.ky x (hs.subset hx), h.un.sublist hs⟩
theorem RegsP.sizes {l : List Rg} (h : RegsP l) : ∀ x ∈ l, x.h.size ≤ 64 := fun x hx => (name_size (h.nm x hx)).2
theorem keyR_of {l : List Rg} (hu : Once l) {x : Rg} (hx : x ∈ l) : keyR l x.h = x.k := by
  induction l with
  | nil => cases hx
  | cons y l ih =>
    unfold keyR
    rw [List.find?_cons]
    have hp := List.pairwise_cons.1 hu
    rcases List.mem_cons.1 hx with rfl | hm
    · rw [show isH x.h x = true from eqS_self _]
    · rw [show isH x.h y = false from eqS_no.2 (hp.1 x hm)]
      exact ih hp.2 hm
theorem keyR_zero {l : List Rg} (hg : RegsP l) {h : ByteArray} : keyR l h = 0 ↔ regB l h = false := by
  constructor
  · intro hk
    apply regB_no.2
    rintro x hx rfl
    rw [keyR_of hg.un hx] at hk
    exact hg.ky x hx hk
  · exact keyR_none
theorem keyR_pos {l : List Rg} (hg : RegsP l) {h : ByteArray} : keyR l h ≠ 0 ↔ regB l h = true := by
  rw [Ne, keyR_zero hg, Bool.not_eq_false]
theorem regd_iff {t : Tl} {m : Cm} : regdB t m = true ↔ m.ke ≠ 0 ∧ m.ke = keyR t.rs m.ho := by
  unfold regdB
  rw [Bool.and_eq_true, bne_iff_ne, beq_iff_eq]
theorem regd_reg {t : Tl} {m : Cm} (h : regdB t m = true) : regB t.rs m.ho = true := by
  obtain ⟨h1, h2⟩ := regd_iff.1 h
  cases hr : regB t.rs m.ho with
  | true => rfl
  | false => rw [keyR_none hr] at h2; exact absurd h2 h1
/-- A change is worked on. -/
def doG (t : Tl) (m : Cm) : Bool := decide (8 ≤ m.op ∧ m.op ≤ 12) && (goodB t && nameB m.ho)
def doT (t : Tl) (m : Cm) : Tl := if doG t m = true then (if m.op = 8 then regT t m else if m.op = 9 then resvT t m else if m.op = 10 then relT t m else if m.op = 11 then clearT t m else preT t m) else t
def doE (t : Tl) (m : Cm) : List Ev := if doG t m = true then (if m.op = 8 then regE t m [] else if m.op = 9 then [] else if m.op = 10 then relE t m [] else if m.op = 11 then clearE t m [] else preE t m []) else []
def doC (t : Tl) (m : Cm) : Int := if doG t m = true then (if m.op = 8 then regCode t m else if m.op = 9 then resvCode t m else if m.op = 10 then relCode t m else if m.op = 11 then clearCode t m else preCode t m) else 5
theorem doG_iff {t : Tl} {m : Cm} : doG t m = true ↔ (8 ≤ m.op ∧ m.op ≤ 12) ∧ GoodP t ∧ nameB m.ho = true := by
  unfold doG
  rw [Bool.and_eq_true, Bool.and_eq_true, decide_eq_true_eq, goodB_iff]
open Go.RowKit
theorem keyR_here {l : List Rg} {h : ByteArray} {k : Nat} {x : Rg} (hx : l[k]? = some x) (hp : regB (l.take k) h = false) (he : eqS x.h h = true) : keyR l h = x.k := by
  have hf := findQ_here (q := isH h) hp hx he
  have hr : l.any (isH h) = true := by
    have := (List.any_eq_true (p := isH h)).2 ⟨x, List.mem_of_getElem? hx, he⟩
    exact this
  unfold findQ at hf
  rw [if_pos hr] at hf
  exact keyR_at hx (by exact_mod_cast hf.symm)
set_option maxHeartbeats 1000000 in
theorem refKey_any (A : Option Addr) (c : Nat) (t : Tl) (hs : ByteArray) (w : World) (hl : Rgs w A t.rs) (hm : t.rs.length ≤ maxLen) :
    Calls Tryd.prog 17 #[tlV A c t, .string hs] w fun e w' => e = .returned (.int .u64 (keyR t.rs hs)) ∧ Below w.heap.size w w' := by
  unfold maxLen at hm
  obtain ⟨h1, h2, h3⟩ := tl_box w A c t _ rfl
  have HT := Lib.hid h1; have HB := Lib.hid h2
  have HL := Lib.hid hl
  clear h1 h2 h3 hl
  go_enter Tryd.func17, Tryd.ntmps17
  go_upto_region 1 with (fail)
  change Code.wp _ _ _ _ (w.alloc (.cells (tlC A c t) 27))
  generalize w.alloc (.cells (tlC A c t) 27) = w0 at *
  have c0 : w0.cell? ⟨w.heap.size, 0, none⟩ = some (.slice A t.rs.length c) := HT.out.cell 0
  have HLb := Lib.hid (HL.out.below HB.out)
  go_wp2
  go_loop [5] (fun i => ∃ k : Nat, k ≤ t.rs.length ∧ i = .int .i64 k ∧ Hid (regB (t.rs.take k) hs = false)) (fun i => t.rs.length - (intOf i).toNat)
  case atStart => exact ⟨0, Nat.zero_le _, rfl, Lib.hid rfl⟩
  case round =>
    obtain ⟨k, hk, rfl, HR⟩ := hrel
    by_cases hlt : k < t.rs.length
    · obtain ⟨b, o, x, rfl, hx, hz, d0, d1⟩ := HLb.out.at_ hlt
      have HX := Lib.hid hx; clear hx
      cases he : (x.h.toList == hs.toList) with
      | true =>
        have HE := Lib.hid (keyR_here HX.out HR.out he)
        go_wp2_with (fail)
        go_ret
        exact ⟨by rw [HE.out]; rfl, HB.out⟩
      | false =>
        have HE := Lib.hid (show eqS x.h hs = false from he)
        go_wp2_with (fail)
        go_round
        case rel => exact ⟨k + 1, by omega, by go_num, Lib.hid (by rw [regB_take _ _ _ _ HX.out, HR.out, HE.out]; rfl)⟩
        case measure => simp [intOf]; omega
    · obtain rfl : k = t.rs.length := by omega
      go_wp2_with (fail)
      go_ret
      have := HR.out
      rw [List.take_length] at this
      exact ⟨by rw [keyR_none this]; rfl, HB.out⟩
def aloB (n : Int) : Bool := decide (1 ≤ n ∧ n ≤ 4)
theorem alone_any (n : Int) (w : World) : Calls Tryd.prog 32 #[.int .i64 n] w fun e w' => e = .returned (.bool (aloB n)) ∧ w = w' := by
  have hf : aloB n = (decide (1 ≤ n) && decide (n ≤ 4)) := by unfold aloB; simp
  cases h1 : decide (1 ≤ n) with
  | true =>
    rw [h1, Bool.true_and] at hf
    have HF := Lib.hid hf; clear hf
    go_enter Tryd.func32, Tryd.ntmps32
    go_wp2_with (fail)
    go_ret
    exact ⟨by rw [HF.out]; rfl, rfl⟩
  | false =>
    rw [h1, Bool.false_and] at hf
    have HF := Lib.hid hf; clear hf
    go_enter Tryd.func32, Tryd.ntmps32
    go_wp2_with (fail)
    go_ret
    exact ⟨by rw [HF.out]; rfl, rfl⟩
set_option maxRecDepth 100000 in
set_option maxHeartbeats 4000000 in
theorem refGood_any (A : Option Addr) (c : Nat) (t : Tl) (w : World) (hl : Rgs w A t.rs) (hm : t.rs.length ≤ maxLen) :
    Calls Tryd.prog 15 #[tlV A c t] w fun e w' => e = .returned (.bool (goodB t)) ∧ Below w.heap.size w w' := by
  unfold maxLen at hm
  obtain ⟨h1, h2, h3⟩ := tl_box w A c t _ rfl
  have HT := Lib.hid h1; have HB := Lib.hid h2
  have HL := Lib.hid (hl.below h2)
  clear h1 h2 h3 hl
  by_cases h16 : t.rs.length ≤ 16
  · have hgt : decide ((16 : Int) < t.rs.length) = false := decide_eq_false (by omega)
    have HF := Lib.hid (show goodB t = (okTo t.rs t.rs.length && holdB t) by unfold goodB regsB; rw [decide_eq_true h16, Bool.true_and])
    go_enter Tryd.func15, Tryd.ntmps15
    go_upto_region 1 with (fail)
    change Code.wp _ _ _ _ (w.alloc (.cells (tlC A c t) 27))
    generalize w.alloc (.cells (tlC A c t) 27) = w0 at *
    have c0 : w0.cell? ⟨w.heap.size, 0, none⟩ = some (.slice A t.rs.length c) := HT.out.cell 0
    go_wp2_with (fail)
    clear c0
    go_loopw [3] (fun i wr => ∃ k : Nat, k ≤ t.rs.length ∧ i = .int .i64 k ∧ Hid (okTo t.rs k = true) ∧ Hid (Blk wr w.heap.size 27 (tlC A c t)) ∧ Hid (Rgs wr A t.rs) ∧ Hid (Below w.heap.size w wr)) (fun i _ => t.rs.length - (intOf i).toNat)
    case atStart => exact ⟨0, Nat.zero_le _, rfl, Lib.hid rfl, HT, HL, HB⟩
    case round =>
      obtain ⟨k, hk, rfl, HK, HTr, HLr, HBr⟩ := hrel
      clear HT HL HB
      by_cases hlt : k < t.rs.length
      · obtain ⟨b, o, x, rfl, hx, hz, d0, d1⟩ := HLr.out.at_ hlt
        have c0 : wr.cell? ⟨w.heap.size, 0, none⟩ = some (.slice (some ⟨b, o, none⟩) t.rs.length c) := HTr.out.cell 0
        have HX := Lib.hid hx
        have HA := Lib.hid (show okAt t.rs k = ((x.k != 0 && nameB x.h) && !regB (t.rs.take k) x.h) by unfold okAt; rw [hx])
        have HN := Lib.hid (fun v => refName_any x.h v hz)
        clear hx hz
        have hnt := not_true
        have hnf := not_false
        cases hn : nameB x.h with
        | false =>
          rw [hn] at HN HA
          have HO := Lib.hid (show okAt t.rs k = false by rw [HA.out]; simp)
          clear HA hn
          go_wp2_with (fail)
          refine (HN.out _).mono ?_; rintro e w3 ⟨rfl, rfl⟩
          go_wp2_with (fail)
          go_ret
          exact ⟨by rw [HF.out, okTo_no HO.out _ hlt]; rfl, HBr.out⟩
        | true =>
          rw [hn] at HN HA
          cases hz : (x.k == 0) with
          | true =>
            have HO := Lib.hid (show okAt t.rs k = false by rw [HA.out]; simp [bne, hz])
            clear HA hn
            go_wp2_with (fail)
            refine (HN.out _).mono ?_; rintro e w3 ⟨rfl, rfl⟩
            go_wp2_with (fail)
            go_ret
            exact ⟨by rw [HF.out, okTo_no HO.out _ hlt]; rfl, HBr.out⟩
          | false =>
            have HA2 := Lib.hid (show okAt t.rs k = !regB (t.rs.take k) x.h by rw [HA.out]; simp [bne, hz])
            clear HA hn
            go_wp2_with (fail)
            refine (HN.out _).mono ?_; rintro e w3 ⟨rfl, rfl⟩
            go_wp2_with (fail)
            clear c0 d0 d1 hz
            go_loopw [4] (fun i wr => ∃ j : Nat, j ≤ k ∧ i = .int .i64 j ∧ Hid (regB (t.rs.take j) x.h = false) ∧ Hid (Blk wr w.heap.size 27 (tlC (some ⟨b, o, none⟩) c t)) ∧ Hid (Rgs wr (some ⟨b, o, none⟩) t.rs) ∧ Hid (Below w.heap.size w wr)) (fun i _ => k - (intOf i).toNat)
            case atStart => exact ⟨0, Nat.zero_le _, rfl, Lib.hid rfl, HTr, HLr, HBr⟩
            case round =>
              obtain ⟨j, hj, rfl, HJ, HTv, HLv, HBv⟩ := hrel
              clear HTr HLr HBr
              by_cases hjk : j < k
              · obtain ⟨b2, o2, y, e2, hy, hyz, f0, f1⟩ := HLv.out.at_ (Nat.lt_trans hjk hlt)
                obtain ⟨b3, o3, x3, e3, hx3, _, g0, g1⟩ := HLv.out.at_ hlt
                obtain rfl : x3 = x := Option.some.inj (hx3.symm.trans HX.out)
                injection e2 with e2; injection e2 with e21 e22; subst e21 e22
                injection e3 with e3; injection e3 with e31 e32; subst e31 e32
                have c0 : wr.cell? ⟨w.heap.size, 0, none⟩ = some (.slice (some ⟨b, o, none⟩) t.rs.length c) := HTv.out.cell 0
                have HY := Lib.hid hy
                clear hy hx3 hyz f1 g1
                have hjl : (j : Int) < t.rs.length := by omega
                have hkl : (k : Int) < t.rs.length := by omega
                cases he : (y.h.toList == x3.h.toList) with
                | true =>
                  have HRT := Lib.hid (show regB (t.rs.take k) x3.h = true by
                    have h1 : regB (t.rs.take (j + 1)) x3.h = true := by rw [regB_take _ _ _ _ HY.out, HJ.out]; exact he
                    obtain ⟨z, hz, hq⟩ := regB_iff.1 h1
                    exact regB_iff.2 ⟨z, by
                      obtain ⟨i, hi, rfl⟩ := List.mem_take_iff_getElem.1 hz
                      exact List.mem_take_iff_getElem.2 ⟨i, by omega, rfl⟩, hq⟩)
                  go_upto_region 11 with (fail)
                  go_quiet (fail)
                  go_wp2_with (fail)
                  go_ret
                  exact ⟨by rw [HF.out, okTo_no (by rw [HA2.out, HRT.out]; rfl) _ hlt]; rfl, below_drewN HBv.out _⟩
                | false =>
                  have HRF := Lib.hid (show regB (t.rs.take (j + 1)) x3.h = false by rw [regB_take _ _ _ _ HY.out, HJ.out]; exact he)
                  go_upto_region 11 with (fail)
                  go_quiet (fail)
                  go_wp2_with (fail)
                  go_roundw
                  case rel => exact ⟨j + 1, by omega, by go_num, HRF, Lib.hid HTv.out, Lib.hid (HLv.out.below (below_drewN (Below.refl _ _) _)), Lib.hid (below_drewN HBv.out _)⟩
                  case measure => simp [intOf]; omega
              · obtain rfl : j = k := by omega
                have HO := Lib.hid (show okAt t.rs j = true by rw [HA2.out, HJ.out]; rfl)
                go_wp2_with (fail)
                go_roundw
                case rel => exact ⟨j + 1, by omega, by go_num, Lib.hid (by show (okTo t.rs j && okAt t.rs j) = true; rw [HK.out, HO.out]; rfl), HTv, HLv, HBv⟩
                case measure => simp [intOf]; omega
      · obtain rfl : k = t.rs.length := by omega
        have HG := Lib.hid (show goodB t = holdB t by rw [HF.out, HK.out]; rfl)
        clear HF HK
        have c0 : wr.cell? ⟨w.heap.size, 0, none⟩ = some (.slice A t.rs.length c) := HTr.out.cell 0
        have c1 : wr.cell? ⟨w.heap.size, 1, none⟩ = some (.int .i64 t.ty) := HTr.out.cell 1
        have c2 : wr.cell? ⟨w.heap.size, 2, none⟩ = some (.string t.ho) := HTr.out.cell 2
        have c3 : wr.cell? ⟨w.heap.size, 3, none⟩ = some (.int .u32 t.ge) := HTr.out.cell 3
        have c4 : wr.cell? ⟨w.heap.size, 4, none⟩ = some (.bool t.ap) := HTr.out.cell 4
        have HAL := Lib.hid (fun v => alone_any t.ty v)
        have HTY := Lib.hid (fun v => refType_any t.ty v)
        have HRG := Lib.hid (refReg_any A c t t.ho wr HLr.out (by unfold maxLen; omega))
        cases hz : (t.ty == 0) with
        | true =>
          have HH := Lib.hid (show holdB t = t.ho.toList.isEmpty by unfold holdB; rw [if_pos (eqB hz)])
          go_wp2_with (fail)
          go_ret
          exact ⟨by rw [HG.out, HH.out]; rfl, HBr.out⟩
        | false =>
          cases ha : aloB t.ty with
          | true =>
            rw [ha] at HAL
            have hal := of_decide_eq_true ha
            have HH := Lib.hid (show holdB t = regB t.rs t.ho by
              unfold holdB
              rw [if_neg (by omega), if_neg (fun h => by have := sh_iff.1 h; omega), type_iff.2 (by omega), Bool.true_and])
            clear ha hal
            go_wp2_with (fail)
            refine (HAL.out _).mono ?_; rintro e w3 ⟨rfl, rfl⟩
            go_wp2_with (fail)
            refine HRG.out.mono ?_; rintro e w3 ⟨rfl, hb3⟩
            go_wp2_with (fail)
            go_ret
            exact ⟨by rw [HG.out, HH.out]; rfl, HBr.out.trans (hb3.mono HBr.out.size)⟩
          | false =>
            rw [ha] at HAL
            have hal := of_decide_eq_false ha
            have hz0 := neB hz
            cases hy : typeB t.ty with
            | true =>
              rw [hy] at HTY
              have hyy := type_iff.1 hy
              have HH := Lib.hid (show holdB t = (t.ho.toList.isEmpty && decide (0 < t.rs.length)) by
                unfold holdB
                rw [if_neg hz0, if_pos (sh_iff.2 (by omega))])
              clear ha hal hyy hy hz0
              cases he : t.ho.toList.isEmpty with
              | false =>
                rw [he, Bool.false_and] at HH
                have hn : ¬ t.ho.toList = [] := fun h => by rw [h] at he; cases he
                go_wp2_with (fail)
                refine (HAL.out _).mono ?_; rintro e w3 ⟨rfl, rfl⟩
                go_wp2_with (fail)
                refine (HTY.out _).mono ?_; rintro e w3 ⟨rfl, rfl⟩
                go_wp2_with (fail)
                go_ret
                exact ⟨by rw [HG.out, HH.out]; rfl, HBr.out⟩
              | true =>
                rw [he, Bool.true_and] at HH
                have hn : t.ho.toList = [] := List.isEmpty_iff.1 he
                go_wp2_with (fail)
                refine (HAL.out _).mono ?_; rintro e w3 ⟨rfl, rfl⟩
                go_wp2_with (fail)
                refine (HTY.out _).mono ?_; rintro e w3 ⟨rfl, rfl⟩
                go_wp2_with (fail)
                go_ret
                exact ⟨by rw [HG.out, HH.out]; simp, HBr.out⟩
            | false =>
              rw [hy] at HTY
              have hyy : ¬ (0 < t.ty ∧ t.ty < 7) := fun h => by rw [type_iff.2 h] at hy; cases hy
              have HH := Lib.hid (show holdB t = false by
                unfold holdB
                rw [if_neg hz0, if_neg (fun h => by have := sh_iff.1 h; omega), hy, Bool.false_and])
              clear ha hal hyy hy hz0
              go_wp2_with (fail)
              refine (HAL.out _).mono ?_; rintro e w3 ⟨rfl, rfl⟩
              go_wp2_with (fail)
              refine (HTY.out _).mono ?_; rintro e w3 ⟨rfl, rfl⟩
              go_wp2_with (fail)
              go_ret
              exact ⟨by rw [HG.out, HH.out]; rfl, HBr.out⟩
  · have hgt : decide ((16 : Int) < t.rs.length) = true := decide_eq_true (by omega)
    have HF := Lib.hid (show goodB t = false by unfold goodB regsB; rw [decide_eq_false h16]; rfl)
    go_enter Tryd.func15, Tryd.ntmps15
    go_upto_region 1 with (fail)
    change Code.wp _ _ _ _ (w.alloc (.cells (tlC A c t) 27))
    generalize w.alloc (.cells (tlC A c t) 27) = w0 at *
    have c0 : w0.cell? ⟨w.heap.size, 0, none⟩ = some (.slice A t.rs.length c) := HT.out.cell 0
    go_wp2_with (fail)
    go_ret
    exact ⟨by rw [HF.out]; rfl, HB.out⟩
open Go.RowKit
theorem take_sizes {l : List Rg} {k : Nat} {x : Rg} (h : ∀ y ∈ l.take k, y.h.size ≤ 1000) (hx : l[k]? = some x) (hs : x.h.size ≤ 1000) : ∀ y ∈ l.take (k + 1), y.h.size ≤ 1000 := by
  obtain ⟨hk, rfl⟩ := List.getElem?_eq_some_iff.1 hx
  rw [List.take_succ_eq_append_getElem hk]
  intro y hy
  rcases List.mem_append.1 hy with q | q
  · exact h y q
  · rw [List.mem_singleton.1 q]; exact hs
/-- A table that is not large. -/
def Small (t : Tl) : Prop := t.rs.length ≤ 200 ∧ t.ho.size ≤ 1000 ∧ ∀ x ∈ t.rs, x.h.size ≤ 1000
def LgX (t : Tl) (w : World) (e : Ending) (w' : World) : Prop := ∃ r : Bool, e = .returned (.bool r) ∧ (r = false → Small t) ∧ Below w.heap.size w w'
set_option maxRecDepth 100000 in
set_option maxHeartbeats 2000000 in
theorem largeX_any (A : Option Addr) (c : Nat) (t : Tl) (w : World) (hl : Rgs w A t.rs) (hm : t.rs.length ≤ maxLen) :
    Calls Tryd.prog 11 #[tlV A c t] w (LgX t w) := by
  unfold maxLen at hm
  obtain ⟨h1, h2, h3⟩ := tl_box w A c t _ rfl
  have HT := Lib.hid h1; have HB := Lib.hid h2
  have HL := Lib.hid (hl.below h2)
  clear h1 h2 h3 hl
  by_cases g1 : 200 < t.rs.length
  · have i1 : (200 : Int) < t.rs.length := by omega
    clear g1
    go_enter Tryd.func11, Tryd.ntmps11
    go_upto_region 1 with (fail)
    change Code.wp _ _ _ _ (w.alloc (.cells (tlC A c t) 27))
    generalize w.alloc (.cells (tlC A c t) 27) = w0 at *
    have c0 : w0.cell? ⟨w.heap.size, 0, none⟩ = some (.slice A t.rs.length c) := HT.out.cell 0
    have c2 : w0.cell? ⟨w.heap.size, 2, none⟩ = some (.string t.ho) := HT.out.cell 2
    go_wp2_with (fail)
    go_ret
    exact ⟨true, rfl, (fun h => by cases h), HB.out⟩
  · have i1 : ¬ (200 : Int) < t.rs.length := by omega
    by_cases g2 : 1000 < t.ho.size
    · have i2 : (1000 : Int) < t.ho.size := by omega
      clear g2
      go_enter Tryd.func11, Tryd.ntmps11
      go_upto_region 1 with (fail)
      change Code.wp _ _ _ _ (w.alloc (.cells (tlC A c t) 27))
      generalize w.alloc (.cells (tlC A c t) 27) = w0 at *
      have c0 : w0.cell? ⟨w.heap.size, 0, none⟩ = some (.slice A t.rs.length c) := HT.out.cell 0
      have c2 : w0.cell? ⟨w.heap.size, 2, none⟩ = some (.string t.ho) := HT.out.cell 2
      go_wp2_with (fail)
      go_ret
      exact ⟨true, rfl, (fun h => by cases h), HB.out⟩
    · have i2 : ¬ (1000 : Int) < t.ho.size := by omega
      have HG := Lib.hid (show t.rs.length ≤ 200 ∧ t.ho.size ≤ 1000 by omega)
      clear g1 g2
      go_enter Tryd.func11, Tryd.ntmps11
      go_upto_region 1 with (fail)
      change Code.wp _ _ _ _ (w.alloc (.cells (tlC A c t) 27))
      generalize w.alloc (.cells (tlC A c t) 27) = w0 at *
      have c0 : w0.cell? ⟨w.heap.size, 0, none⟩ = some (.slice A t.rs.length c) := HT.out.cell 0
      have c2 : w0.cell? ⟨w.heap.size, 2, none⟩ = some (.string t.ho) := HT.out.cell 2
      go_wp2_with (fail)
      go_loop [3] (fun i => ∃ k : Nat, k ≤ t.rs.length ∧ i = .int .i64 k ∧ Hid (∀ x ∈ t.rs.take k, x.h.size ≤ 1000)) (fun i => t.rs.length - (intOf i).toNat)
      case atStart => exact ⟨0, Nat.zero_le _, rfl, Lib.hid (fun x hx => by simp at hx)⟩
      case round =>
        obtain ⟨k, hk, rfl, HT1⟩ := hrel
        by_cases hlt : k < t.rs.length
        · obtain ⟨b, o, x, rfl, hx, hz, d0, d1⟩ := HL.out.at_ hlt
          have HX := Lib.hid hx
          clear hx
          by_cases g3 : 1000 < x.h.size
          · have i3 : (1000 : Int) < x.h.size := by omega
            clear g3
            go_wp2_with (fail)
            go_ret
            exact ⟨true, rfl, (fun h => by cases h), HB.out⟩
          · have i3 : ¬ (1000 : Int) < x.h.size := by omega
            have HK := Lib.hid (take_sizes HT1.out HX.out (by omega : x.h.size ≤ 1000))
            clear g3
            go_wp2_with (fail)
            go_round
            case rel => exact ⟨k + 1, by omega, by go_num, HK⟩
            case measure => simp [intOf]; omega
        · obtain rfl : k = t.rs.length := by omega
          go_wp2_with (fail)
          go_ret
          exact ⟨false, rfl, (fun _ => ⟨HG.out.1, HG.out.2, by have := HT1.out; rw [List.take_length] at this; exact this⟩), HB.out⟩
set_option maxHeartbeats 1000000 in
theorem largeC_any (m : Cm) (w : World) : Calls Tryd.prog 21 #[cmV m] w fun e w' => e = .returned (.bool (decide (1000 < m.ho.size))) ∧ Below w.heap.size w w' := by
  have hb := (Below.refl w.heap.size w).alloc (Nat.le_refl _) (.cells (cmC m) 37)
  have HK := Lib.hid (Blk.new w 37 (cmC m)); have HB := Lib.hid hb
  have hd : decide ((1000 : Int) < m.ho.size) = decide (1000 < m.ho.size) := by
    apply decide_eq_decide.2
    omega
  clear hb
  go_enter Tryd.func21, Tryd.ntmps21
  go_upto_region 1 with (fail)
  change Code.wp _ _ _ _ (w.alloc (.cells (cmC m) 37))
  generalize w.alloc (.cells (cmC m) 37) = w0 at *
  have c2 : w0.cell? ⟨w.heap.size, 2, none⟩ = some (.string m.ho) := HK.out.cell 2
  go_wp2_with (fail)
  go_ret
  exact ⟨rfl, HB.out⟩
open Go.RowKit
theorem told_mem {y : Int} {q : Rg → Bool} {l : List Rg} {ev : Ev} (h : ev ∈ told y q l) : ∃ r ∈ l, q r = true ∧ ev.h = r.h := by
  unfold told at h
  obtain ⟨r, hr, rfl⟩ := List.mem_map.1 h
  obtain ⟨h1, h2⟩ := List.mem_filter.1 hr
  exact ⟨r, h1, h2, rfl⟩
theorem outR_erase (l : List Rg) (h : ByteArray) : outR l h = l.eraseIdx (l.findIdx (isH h)) := by
  unfold outR
  rw [List.eraseIdx_eq_take_drop_succ]
theorem outR_sub (l : List Rg) (h : ByteArray) : (outR l h).Sublist l := by
  rw [outR_erase]
  exact List.eraseIdx_sublist ..
theorem outR_mem {l : List Rg} {h : ByteArray} {x : Rg} (hx : x ∈ l) (hn : x.h ≠ h) : x ∈ outR l h := by
  rw [outR_erase, List.mem_eraseIdx_iff_getElem?]
  obtain ⟨i, hi, rfl⟩ := List.getElem_of_mem hx
  refine ⟨i, fun e => ?_, List.getElem?_eq_getElem hi⟩
  have hlt : l.findIdx (isH h) < l.length := by rw [← e]; exact hi
  have := List.findIdx_getElem (p := isH h) (w := hlt)
  have h2 := eqS_iff.1 this
  apply hn
  rw [← h2]
  congr 1
  subst e
  rfl
theorem pos_of_reg {l : List Rg} {h : ByteArray} (hr : regB l h = true) : 0 < l.length := by
  obtain ⟨x, hx, _⟩ := regB_iff.1 hr
  exact List.length_pos_of_mem hx
theorem sh_of {n : Int} (ht : typeB n = true) (hs : ¬ shB n = true) : 1 ≤ n ∧ n ≤ 4 := by
  have h1 := type_iff.1 ht
  have h2 : ¬ (n = 5 ∨ n = 6) := fun h => hs (sh_iff.2 h)
  omega
theorem hold_good {t : Tl} {m : Cm} (hg : RegsP t.rs) (ht : typeB m.ty = true) (hr : regB t.rs m.ho = true) : GoodP (holdT t m) := by
  refine ⟨hg, ?_⟩
  show HoldP { t with ty := m.ty, ho := if shB m.ty then ⟨#[]⟩ else m.ho }
  by_cases hs : shB m.ty = true
  · exact .inr (.inl ⟨sh_iff.1 hs, by show (if shB m.ty then _ else _) = _; rw [if_pos hs], pos_of_reg hr⟩)
  · exact .inr (.inr ⟨sh_of ht hs, by show regB t.rs (if shB m.ty then _ else _) = true; rw [if_neg hs]; exact hr⟩)
theorem end_good {t : Tl} (hg : RegsP t.rs) : GoodP (endT t) := ⟨hg, .inl ⟨rfl, rfl⟩⟩
theorem setAp_good {t : Tl} {m : Cm} (hg : GoodP t) : GoodP (setAp t m) := ⟨hg.toRegsP, hg.hold⟩
theorem unreg_good {t : Tl} {m : Cm} (hg : GoodP t) : GoodP (unregT t m) := by
  unfold unregT
  by_cases hr : regB t.rs m.ho = true
  · rw [if_pos hr]
    have hR : RegsP (unT t m).rs := hg.toRegsP.sub (outR_sub _ _)
    by_cases hl : lastB t m = true
    · rw [if_pos hl]; exact end_good hR
    · rw [if_neg hl]
      have hl' : lastB t m = false := by simpa using hl
      unfold lastB at hl'
      rw [Bool.or_eq_false_iff] at hl'
      have h1 := eqS_no.1 hl'.1
      have h2 := of_decide_eq_false hl'.2
      refine ⟨hR, ?_⟩
      rcases hg.hold with h | ⟨ha, hb, _⟩ | ⟨ha, hb⟩
      · exact .inl h
      · exact .inr (.inl ⟨ha, hb, by omega⟩)
      · obtain ⟨x, hx, he⟩ := regB_iff.1 hb
        exact .inr (.inr ⟨ha, regB_iff.2 ⟨x, outR_mem hx (by rw [he]; exact h1), he⟩⟩)
  · rw [if_neg hr]; exact hg
theorem keyed_hosts (l : List Rg) (h : ByteArray) (k : Int) : (keyed l h k).map (·.h) = l.map (·.h) := by
  unfold keyed
  rw [List.map_set]
  apply List.ext_getElem?
  intro j
  by_cases hj : l.findIdx (isH h) = j
  · subst hj
    by_cases hlt : l.findIdx (isH h) < l.length
    · rw [List.getElem?_set_self (by rw [List.length_map]; exact hlt), List.getElem?_map, List.getElem?_eq_getElem hlt]
      simp [List.getD, List.getElem?_eq_getElem hlt]
    · rw [List.getElem?_eq_none (by rw [List.length_set, List.length_map]; omega), List.getElem?_eq_none (by rw [List.length_map]; omega)]
  · rw [List.getElem?_set_ne hj]
theorem once_hosts {l : List Rg} : Once l ↔ (l.map (·.h)).Pairwise (· ≠ ·) := by rw [List.pairwise_map]
theorem regB_hosts {l l' : List Rg} (e : l.map (·.h) = l'.map (·.h)) (h : ByteArray) (hr : regB l h = true) : regB l' h = true := by
  obtain ⟨x, hx, he⟩ := regB_iff.1 hr
  have : x.h ∈ l'.map (·.h) := by rw [← e]; exact List.mem_map_of_mem hx
  obtain ⟨y, hy, hz⟩ := List.mem_map.1 this
  exact regB_iff.2 ⟨y, hy, hz.trans he⟩
theorem key_good {t : Tl} {m : Cm} (hg : GoodP t) (hk : m.nk ≠ 0) : GoodP (keyT t m) := by
  have e := keyed_hosts t.rs m.ho m.nk
  have hl : (keyed t.rs m.ho m.nk).length = t.rs.length := by unfold keyed; rw [List.length_set]
  refine ⟨⟨by show (keyed t.rs m.ho m.nk).length ≤ 16; rw [hl]; exact hg.len, fun x hx => ?_, fun x hx => ?_, ?_⟩, ?_⟩
  · have : x.h ∈ t.rs.map (·.h) := by rw [← e]; exact List.mem_map_of_mem hx
    obtain ⟨y, hy, hz⟩ := List.mem_map.1 this
    rw [← hz]; exact hg.nm y hy
  · have hx' : x ∈ keyed t.rs m.ho m.nk := hx
    unfold keyed at hx'
    rcases List.mem_or_eq_of_mem_set hx' with q | q
    · exact hg.ky x q
    · rw [q]; exact hk
  · apply once_hosts.2
    show ((keyed t.rs m.ho m.nk).map (·.h)).Pairwise _
    rw [e]
    exact once_hosts.1 hg.un
  · rcases hg.hold with h | ⟨ha, hb, hc⟩ | ⟨ha, hb⟩
    · exact .inl h
    · exact .inr (.inl ⟨ha, hb, by show 0 < (keyed t.rs m.ho m.nk).length; rw [hl]; exact hc⟩)
    · exact .inr (.inr ⟨ha, regB_hosts e.symm _ hb⟩)
theorem new_good {t : Tl} {m : Cm} (hg : GoodP t) (hk : m.nk ≠ 0) (hn : nameB m.ho = true) (hr : regB t.rs m.ho = false) (h16 : t.rs.length ≠ 16) : GoodP (newT t m) := by
  have h1 := hg.len
  refine ⟨⟨by show (t.rs ++ [(⟨m.ho, m.nk⟩ : Rg)]).length ≤ 16; rw [List.length_append]; simp; omega, fun x hx => ?_, fun x hx => ?_, ?_⟩, ?_⟩
  · rcases List.mem_append.1 hx with q | q
    · exact hg.nm x q
    · obtain rfl := List.mem_singleton.1 q; exact hn
  · rcases List.mem_append.1 hx with q | q
    · exact hg.ky x q
    · obtain rfl := List.mem_singleton.1 q; exact hk
  · show (t.rs ++ [(⟨m.ho, m.nk⟩ : Rg)]).Pairwise _
    refine List.pairwise_append.2 ⟨hg.un, List.pairwise_singleton .., fun a ha b hb => ?_⟩
    obtain rfl := List.mem_singleton.1 hb
    exact regB_no.1 hr a ha
  · rcases hg.hold with h | ⟨ha, hb, _⟩ | ⟨ha, hb⟩
    · exact .inl h
    · exact .inr (.inl ⟨ha, hb, by show 0 < (t.rs ++ [_]).length; rw [List.length_append]; simp⟩)
    · obtain ⟨x, hx, he⟩ := regB_iff.1 hb
      exact .inr (.inr ⟨ha, regB_iff.2 ⟨x, List.mem_append_left _ hx, he⟩⟩)
theorem reg_good {t : Tl} {m : Cm} (hg : GoodP t) (hn : nameB m.ho = true) : GoodP (regT t m) := by
  unfold regT
  split
  · exact hg
  · split
    · exact setAp_good (unreg_good hg)
    · rename_i hk
      split
      · exact setAp_good (key_good hg hk)
      · rename_i hr
        split
        · exact hg
        · rename_i h16
          exact setAp_good (new_good hg hk hn (by simpa using hr) h16)
theorem resv_good {t : Tl} {m : Cm} (hg : GoodP t) : GoodP (resvT t m) := by
  unfold resvT
  split
  · exact hg
  · rename_i ht
    split
    · exact hg
    · rename_i hr
      split
      · exact hold_good hg.toRegsP (by simpa using ht) (regd_reg (by simpa using hr))
      · exact hg
theorem rel_good {t : Tl} {m : Cm} (hg : GoodP t) : GoodP (relT t m) := by
  unfold relT
  split
  · exact end_good hg.toRegsP
  · exact hg
theorem clr_good {t : Tl} : GoodP (clrT t) := ⟨⟨Nat.zero_le _, (fun x hx => by cases hx), (fun x hx => by cases hx), List.Pairwise.nil⟩, .inl ⟨rfl, rfl⟩⟩
theorem clear_good {t : Tl} {m : Cm} (hg : GoodP t) : GoodP (clearT t m) := by
  unfold clearT
  split
  · exact clr_good
  · exact hg
theorem stays_own {t : Tl} {m : Cm} (hr : regB t.rs m.ho = true) : regB (leftT t m).rs m.ho = true := by
  obtain ⟨x, hx, he⟩ := regB_iff.1 hr
  refine regB_iff.2 ⟨x, List.mem_filter.2 ⟨hx, ?_⟩, he⟩
  show (!(!eqS x.h m.ho && _)) = true
  rw [show eqS x.h m.ho = true from eqS_iff.2 he]
  rfl
theorem left_good {t : Tl} {m : Cm} (hg : GoodP t) (hr : regB t.rs m.ho = true) (hk : takesB t m = false) : GoodP (leftT t m) := by
  refine ⟨hg.toRegsP.sub List.filter_sublist, ?_⟩
  rcases hg.hold with h | ⟨ha, hb, _⟩ | ⟨ha, hb⟩
  · exact .inl h
  · exact .inr (.inl ⟨ha, hb, pos_of_reg (stays_own hr)⟩)
  · refine .inr (.inr ⟨ha, ?_⟩)
    have hs : ¬ shB t.ty = true := fun h => by have := sh_iff.1 h; omega
    unfold takesB at hk
    rw [if_neg (by omega), if_neg hs] at hk
    have hk' := of_decide_eq_false hk
    obtain ⟨x, hx, he⟩ := regB_iff.1 hb
    have hxk : x.k ≠ m.ot := fun e => hk' (by rw [← e, ← he]; exact keyR_of hg.un hx)
    refine regB_iff.2 ⟨x, List.mem_filter.2 ⟨hx, ?_⟩, he⟩
    show (!(!eqS x.h m.ho && (decide (x.k = m.ot) || (decide (m.ot = 0) && shB t.ty)))) = true
    rw [decide_eq_false hxk, show shB t.ty = false by simpa using hs]
    simp
theorem pre_reg {t : Tl} {m : Cm} (hc : preCode t m = 1) : typeB m.ty = true ∧ regdB t m = true := by
  unfold preCode at hc
  cases h1 : typeB m.ty with
  | false => rw [h1, if_pos rfl] at hc; exact absurd hc (by decide)
  | true =>
    cases h2 : regdB t m with
    | false => rw [h1, h2, if_neg (by decide), if_pos rfl] at hc; exact absurd hc (by decide)
    | true => exact ⟨rfl, rfl⟩
theorem pre_good {t : Tl} {m : Cm} (hg : GoodP t) : GoodP (preT t m) := by
  unfold preT
  split
  · rename_i hc
    obtain ⟨h1, h2⟩ := pre_reg hc
    have hr := regd_reg h2
    split
    · exact hold_good (hg.toRegsP.sub List.filter_sublist) h1 (stays_own hr)
    · rename_i hk
      exact left_good hg hr (by simpa using hk)
  · exact hg
theorem do_good {t : Tl} {m : Cm} (hg : GoodP t) : GoodP (doT t m) := by
  unfold doT
  split
  · rename_i h
    have hn := (doG_iff.1 h).2.2
    split
    · exact reg_good hg hn
    split
    · exact resv_good hg
    split
    · exact rel_good hg
    split
    · exact clear_good hg
    · exact pre_good hg
  · exact hg
theorem do_gen (t : Tl) (m : Cm) : (doT t m).ge = t.ge ∨ (doT t m).ge = incG t.ge := by
  unfold doT
  split
  · split
    · unfold regT
      split
      · exact .inl rfl
      · split
        · show (unregT t m).ge = _ ∨ _
          unfold unregT
          split
          · split <;> exact .inr rfl
          · exact .inl rfl
        · split
          · exact .inr rfl
          · split
            · exact .inl rfl
            · exact .inr rfl
    split
    · unfold resvT
      split
      · exact .inl rfl
      · split
        · exact .inl rfl
        · split <;> exact .inl rfl
    split
    · unfold relT
      split <;> exact .inl rfl
    split
    · unfold clearT
      split
      · exact .inr rfl
      · exact .inl rfl
    · unfold preT
      split
      · split <;> exact .inr rfl
      · exact .inl rfl
  · exact .inl rfl
theorem do_told {t : Tl} {m : Cm} {ev : Ev} (h : ev ∈ doE t m) : GoodP t ∧ ev.h ≠ m.ho ∧ regB t.rs ev.h = true := by
  unfold doE at h
  split at h
  · rename_i hd
    refine ⟨(doG_iff.1 hd).2.1, ?_⟩
    have key : ∀ (y : Int) (q : Rg → Bool) (l : List Rg), (∀ r, q r = true → eqS r.h m.ho = false) → (∀ r ∈ l, r ∈ t.rs) → ev ∈ told y q l → ev.h ≠ m.ho ∧ regB t.rs ev.h = true := by
      intro y q l hq hl hm
      obtain ⟨r, hr, h1, h2⟩ := told_mem hm
      exact ⟨by rw [h2]; exact eqS_no.1 (hq r h1), regB_iff.2 ⟨r, hl r hr, h2.symm⟩⟩
    have hO : ∀ r, isO m r = true → eqS r.h m.ho = false := fun r hr => by
      have : (!eqS r.h m.ho) = true := hr
      simpa using this
    have hR : ∀ r, isR t m r = true → eqS r.h m.ho = false := fun r hr => by
      have : (!eqS r.h m.ho && _) = true := hr
      rw [Bool.and_eq_true] at this
      simpa using this.1
    split at h
    · unfold regE at h
      split at h
      · cases h
      · split at h
        · unfold unregE endE at h
          split at h
          · split at h
            · cases h
            · rw [List.nil_append] at h
              exact key 3 _ _ hO (fun r hr => (outR_sub t.rs m.ho).subset hr) h
          · cases h
        · cases h
    split at h
    · cases h
    split at h
    · unfold relE endE at h
      split at h
      · split at h
        · cases h
        · rw [List.nil_append] at h
          exact key 3 _ _ hO (fun r hr => hr) h
      · cases h
    split at h
    · unfold clearE at h
      split at h
      · rw [List.nil_append] at h
        exact key 4 _ _ hO (fun r hr => hr) h
      · cases h
    · unfold preE at h
      split at h
      · rw [List.nil_append] at h
        exact key 2 _ _ hR (fun r hr => hr) h
      · cases h
  · cases h
theorem do_not {t : Tl} {m : Cm} (h : doC t m ≠ 1) : doT t m = t ∧ doE t m = [] := by
  unfold doC at h
  unfold doT doE
  by_cases hd : doG t m = true
  · rw [if_pos hd] at h
    rw [if_pos hd, if_pos hd]
    by_cases h8 : m.op = 8
    · rw [if_pos h8] at h
      rw [if_pos h8, if_pos h8]
      unfold regCode at h
      unfold regT regE
      split at h
      · rename_i hc
        rw [if_pos hc, if_pos hc]
        exact ⟨rfl, rfl⟩
      · rename_i hc
        split at h
        · exact absurd rfl h
        · rename_i hk
          split at h
          · exact absurd rfl h
          · rename_i hr
            split at h
            · rename_i h16
              rw [if_neg hc, if_neg hk, if_neg hr, if_pos h16, if_neg hc, if_neg hk]
              exact ⟨rfl, rfl⟩
            · exact absurd rfl h
    rw [if_neg h8] at h
    rw [if_neg h8, if_neg h8]
    by_cases h9 : m.op = 9
    · rw [if_pos h9] at h
      rw [if_pos h9, if_pos h9]
      refine ⟨?_, rfl⟩
      unfold resvCode at h
      unfold resvT
      split at h
      · rename_i hc; rw [if_pos hc]
      · rename_i hc
        split at h
        · rename_i hr; rw [if_neg hc, if_pos hr]
        · rename_i hr
          split at h
          · exact absurd rfl h
          · rename_i hz; rw [if_neg hc, if_neg hr, if_neg hz]
    rw [if_neg h9] at h
    rw [if_neg h9, if_neg h9]
    by_cases h10 : m.op = 10
    · rw [if_pos h10] at h
      rw [if_pos h10, if_pos h10]
      have hb : relB t m = false := by
        unfold relCode at h
        unfold relB
        split at h
        · rename_i hc; rw [hc, Bool.false_and]
        · split at h
          · exact absurd rfl h
          · split at h
            · rename_i hq
              have : (m.ty == t.ty) = false := by simpa [bne] using hq
              rw [this, Bool.and_false, Bool.and_false]
            · exact absurd rfl h
      unfold relT relE
      rw [hb]
      exact ⟨rfl, rfl⟩
    rw [if_neg h10] at h
    rw [if_neg h10, if_neg h10]
    by_cases h11 : m.op = 11
    · rw [if_pos h11] at h
      rw [if_pos h11, if_pos h11]
      unfold clearCode at h
      unfold clearT clearE
      split at h
      · exact absurd rfl h
      · rename_i hc; rw [if_neg hc, if_neg hc]; exact ⟨rfl, rfl⟩
    rw [if_neg h11] at h
    rw [if_neg h11, if_neg h11]
    unfold preT preE
    rw [if_neg h, if_neg h]
    exact ⟨rfl, rfl⟩
  · rw [if_neg hd, if_neg hd]
    exact ⟨rfl, rfl⟩
theorem do_yes {t : Tl} {m : Cm} (h : doC t m = 1) : doG t m = true := by
  cases hd : doG t m with
  | true => rfl
  | false =>
    unfold doC at h
    rw [hd, if_neg (by decide)] at h
    exact absurd h (by decide)
end Go.Proofs.YtgekadfkokkapaaDoor
