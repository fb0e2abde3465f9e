/- A change's writers: whether it is kept, who holds. -/
import Derived.Test.YtgekadfkokkapaaDoorReE
namespace Go.Proofs.YtgekadfkokkapaaDoor
open Go.RowKit
/-- A change that stands in memory from n0 on, with what is its own. -/
structure Chg (w : World) (n0 p : Nat) (A : Option Addr) (c : Nat) (t : Tl) (m : Cm) (B : Option Addr) (e : Nat) (es : List Ev) : Prop where
  blk : Blk w p 64 (chC A c t m B e es)
  rgs : Own w n0 A c t.rs
  evs : OwnE w n0 B e es
  hp : n0 ≤ p
section
variable {w v : World} {n0 p : Nat} {A : Option Addr} {c : Nat} {t : Tl} {m : Cm} {B : Option Addr} {e : Nat} {es : List Ev}
theorem Chg.at_ (h : Chg w n0 p A c t m B e es) : ChAt w p A c t m B e es := ⟨h.blk, h.rgs.rgs⟩
theorem Chg.below (h : Chg w n0 p A c t m B e es) (hb : Below w.heap.size w v) : Chg v n0 p A c t m B e es := ⟨h.blk.below hb h.blk.lt, h.rgs.below hb, h.evs.below hb, h.hp⟩
theorem Chg.lt (h : Chg w n0 p A c t m B e es) : n0 ≤ w.heap.size := Nat.le_trans h.hp (Nat.le_of_lt h.blk.lt)
theorem Chg.apart (h : Chg w n0 p A c t m B e es) : (Value.slice A t.rs.length c).ownBlock ≠ some p ∧ (Value.slice B es.length e).ownBlock ≠ some p :=
  ⟨own_apart h.rgs.1 h.blk (by decide), own_apart h.evs h.blk (by decide)⟩
theorem bel_put {n0 p : Nat} {w : World} (hp : n0 ≤ p) (hl : n0 ≤ w.heap.size) (i : Nat) (u : Value) : Below n0 w (w.setCell ⟨p, i, none⟩ u) :=
  ((Only.refl (fun k => k = p) w).setCell (.inl rfl) u).toBelow hl (fun k hk => by rw [hk]; exact hp)
/-- A cell of it written. -/
theorem Chg.put (h : Chg w n0 p A c t m B e es) (i : Nat) (u : Value) {t' : Tl} (hc : (chC A c t m B e es).setIfInBounds i u = chC A c t' m B e es) (hr : t'.rs = t.rs) : Chg (w.setCell ⟨p, i, none⟩ u) n0 p A c t' m B e es ∧ Below n0 w (w.setCell ⟨p, i, none⟩ u) := by
  refine ⟨⟨by have := h.blk.put i u; rw [hc] at this; exact this, ⟨?_, ?_⟩, ?_, h.hp⟩, bel_put h.hp h.lt i u⟩
  · rw [hr]
    exact own_keep h.rgs.1 fun g hg => Below.heap_setCell w _ u g (fun e => h.apart.1 (hg.trans (congrArg some e)))
  · rw [hr]; exact h.rgs.2
  · exact own_keep h.evs fun g hg => Below.heap_setCell w _ u g (fun e => h.apart.2 (hg.trans (congrArg some e)))
end
/-- What comes of a change that was worked on. -/
def WrO (n0 p : Nat) (t' : Tl) (m : Cm) (es' : List Ev) (w w' : World) : Prop := ∃ A' c' B' e', Chg w' n0 p A' c' t' m B' e' es' ∧ Below n0 w w'
def setAp (t : Tl) (m : Cm) : Tl := { t with ap := if m.ap = 1 then false else if m.ap = 2 then true else t.ap }
set_option maxHeartbeats 1000000 in
theorem aptpl_any (w : World) (n0 p : Nat) (A : Option Addr) (c : Nat) (t : Tl) (m : Cm) (B : Option Addr) (e : Nat) (es : List Ev) (h : Chg w n0 p A c t m B e es) :
    Calls Tryd.prog 69 #[.pointer (some ⟨p, 0, none⟩)] w fun e w' => e = .returned (.tuple #[]) ∧ WrO n0 p (setAp t m) m es w w' := by
  have c18 := h.at_.r.ma
  have f4 := h.blk.free 4
  have c4 := h.at_.r.ap
  have hf : setAp t m = { t with ap := if m.ap = 1 then false else if m.ap = 2 then true else t.ap } := rfl
  have H := Lib.hid h
  clear h
  cases e1 : (m.ap == 1) with
  | true =>
    rw [if_pos (eqB e1)] at hf
    rw [hf]; clear hf
    go_enter Tryd.func69, Tryd.ntmps69
    go_wp2_with (fail)
    go_end0
    obtain ⟨h1, h2⟩ := H.out.put 4 (.bool false) (t' := { t with ap := false }) rfl rfl
    exact ⟨rfl, A, c, B, e, h1, h2⟩
  | false =>
    rw [if_neg (neB e1)] at hf
    cases e2 : (m.ap == 2) with
    | true =>
      rw [if_pos (eqB e2)] at hf
      rw [hf]; clear hf
      go_enter Tryd.func69, Tryd.ntmps69
      go_wp2_with (fail)
      go_end0
      obtain ⟨h1, h2⟩ := H.out.put 4 (.bool true) (t' := { t with ap := true }) rfl rfl
      exact ⟨rfl, A, c, B, e, h1, h2⟩
    | false =>
      rw [if_neg (neB e2)] at hf
      rw [hf]; clear hf
      go_enter Tryd.func69, Tryd.ntmps69
      go_wp2_with (fail)
      go_end0
      exact ⟨rfl, A, c, B, e, H.out, Below.refl _ _⟩
/-- Who holds a reservation of a type that a host has made. -/
def holdT (t : Tl) (m : Cm) : Tl := { t with ty := m.ty, ho := if shB m.ty then ⟨#[]⟩ else m.ho }
theorem clone_any (s : ByteArray) (w : World) (hs : s.size ≤ 281474976710656) : Calls Tryd.prog 54 #[.string s] w fun e w' => e = .returned (.string s) ∧ Below w.heap.size w w' := by
  go_enter Tryd.func54, Tryd.ntmps54
  go_wp2_with (fail)
  refine (Tryd.stringslite_Clone s w hs).mono ?_
  rintro e w1 ⟨rfl, hb⟩
  go_wp2_with (fail)
  go_ret
  exact ⟨rfl, hb⟩
set_option maxHeartbeats 1000000 in
theorem hold_any (w : World) (n0 p : Nat) (A : Option Addr) (c : Nat) (t : Tl) (m : Cm) (B : Option Addr) (e : Nat) (es : List Ev) (h : Chg w n0 p A c t m B e es) (hs : m.ho.size ≤ 1000) :
    Calls Tryd.prog 71 #[.pointer (some ⟨p, 0, none⟩)] w fun e w' => e = .returned (.tuple #[]) ∧ WrO n0 p (holdT t m) m es w w' := by
  have c16 := h.at_.r.mt
  have c1 := h.at_.r.ty
  have c2 := h.at_.r.hh
  have f1 := h.blk.free 1
  have f2 := h.blk.free 2
  have hf : holdT t m = { t with ty := m.ty, ho := if shB m.ty then ⟨#[]⟩ else m.ho } := rfl
  have HS := Lib.hid (fun v => shared_any m.ty v)
  have H := Lib.hid h
  obtain ⟨h1, hb1⟩ := h.put 1 (.int .i64 m.ty) (t' := { t with ty := m.ty }) rfl rfl
  obtain ⟨h2, hb2⟩ := h1.put 2 (.string ⟨#[]⟩) (t' := { t with ty := m.ty, ho := ⟨#[]⟩ }) rfl rfl
  have HH := Lib.hid h2; have HB := Lib.hid (hb1.trans hb2)
  clear h h1 hb1 h2 hb2
  cases e1 : shB m.ty with
  | true =>
    rw [if_pos e1] at hf
    rw [e1] at HS
    rw [hf]; clear hf
    go_enter Tryd.func71, Tryd.ntmps71
    go_upto_region 1 with (fail)
    have c16 := HH.out.at_.r.mt
    clear c1 c2 f1 f2
    generalize (w.setCell ⟨p, 1, none⟩ (.int .i64 m.ty)).setCell ⟨p, 2, none⟩ (.string ⟨#[]⟩) = w0 at *
    go_wp2_with (fail)
    refine (HS.out _).mono ?_; rintro e w1 ⟨rfl, rfl⟩
    go_wp2_with (fail)
    go_end0
    exact ⟨rfl, A, c, B, e, HH.out, HB.out⟩
  | false =>
    rw [if_neg (by rw [e1]; decide)] at hf
    rw [e1] at HS
    rw [hf]; clear hf
    go_enter Tryd.func71, Tryd.ntmps71
    go_upto_region 1 with (fail)
    have c16 := HH.out.at_.r.mt
    have c7 := HH.out.at_.r.ho
    clear c1 c2 f1 f2
    generalize (w.setCell ⟨p, 1, none⟩ (.int .i64 m.ty)).setCell ⟨p, 2, none⟩ (.string ⟨#[]⟩) = w0 at *
    go_wp2_with (fail)
    refine (HS.out _).mono ?_; rintro e w1 ⟨rfl, rfl⟩
    go_wp2_with (fail)
    refine (clone_any m.ho _ (by omega)).mono ?_; rintro e w1 ⟨rfl, hb1⟩
    have H1 := HH.out.below hb1
    have f2 := H1.blk.free 2
    have c2 := H1.at_.r.hh
    obtain ⟨h3, hb3⟩ := H1.put 2 (.string m.ho) (t' := { t with ty := m.ty, ho := m.ho }) rfl rfl
    have HB1 := Lib.hid (HB.out.trans ((hb1.mono HH.out.lt).trans hb3))
    have H3 := Lib.hid h3
    clear hb1 H1 h3 hb3
    go_wp2_with (fail)
    go_end0
    exact ⟨rfl, A, c, B, e, H3.out, HB1.out⟩
end Go.Proofs.YtgekadfkokkapaaDoor
