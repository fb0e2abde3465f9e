/- A reservation's end. -/
import Derived.Test.YtgekadfkokkapaaDoorReG
namespace Go.Proofs.YtgekadfkokkapaaDoor
open Go.RowKit
def endT (t : Tl) : Tl := { t with ty := 0, ho := ⟨#[]⟩ }
def endE (t : Tl) (m : Cm) (es : List Ev) : List Ev := if t.ty = 1 ∨ t.ty = 2 then es else es ++ told 3 (isO m) t.rs
theorem Chg.ended {w : World} {n0 p : Nat} {A : Option Addr} {c : Nat} {t : Tl} {m : Cm} {B : Option Addr} {e : Nat} {es : List Ev} (h : Chg w n0 p A c t m B e es) :
    Chg ((w.setCell ⟨p, 1, none⟩ (.int .i64 0)).setCell ⟨p, 2, none⟩ (.string ⟨#[]⟩)) n0 p A c (endT t) m B e es ∧ Below n0 w ((w.setCell ⟨p, 1, none⟩ (.int .i64 0)).setCell ⟨p, 2, none⟩ (.string ⟨#[]⟩)) := by
  obtain ⟨h1, hb1⟩ := h.put 1 (.int .i64 0) (t' := { t with ty := 0 }) rfl rfl
  obtain ⟨h2, hb2⟩ := h1.put 2 (.string ⟨#[]⟩) (t' := endT t) rfl rfl
  exact ⟨h2, hb1.trans hb2⟩
set_option maxHeartbeats 1000000 in
theorem end_any (w : World) (n0 p : Nat) (A : Option Addr) (c : Nat) (t : Tl) (m : Cm) (B : Option Addr) (e : Nat) (es : List Ev) (h : Chg w n0 p A c t m B e es) (hx : ∀ x ∈ t.rs, x.h.size ≤ 1000) (hm : t.rs.length ≤ 1000) (he : es.length ≤ 1000) :
    Calls Tryd.prog 72 #[.pointer (some ⟨p, 0, none⟩)] w fun e w' => e = .returned (.tuple #[]) ∧ WrO n0 p (endT t) m (endE t m es) w w' := by
  have hmf : ∀ (fn : Fn) (first cap : Array Value) (w : World), (Instr.makeFunc fn first cap).run Tryd.prog w = .ok (.func fn first cap) w := fun _ _ _ _ => rfl
  have c1 := h.at_.r.ty
  have c2 := h.at_.r.hh
  have f1 := h.blk.free 1
  have f2 := h.blk.free 2
  have hf : endE t m es = if t.ty = 1 ∨ t.ty = 2 then es else es ++ told 3 (isO m) t.rs := rfl
  have H := Lib.hid h
  have HN := Lib.hid (notify_other w n0 p A c t m B e es 3 h hx hm he)
  clear h hx hm he
  cases e1 : (t.ty == 1) with
  | true =>
    rw [if_pos (.inl (eqB e1))] at hf
    rw [hf]; clear hf HN
    have n1 : (t.ty != 1) = false := by show (!(t.ty == 1)) = false; rw [e1]; rfl
    go_enter Tryd.func72, Tryd.ntmps72
    go_wp2_with (fail)
    go_end0
    exact ⟨rfl, A, c, B, e, H.out.ended.1, H.out.ended.2⟩
  | false =>
    cases e2 : (t.ty == 2) with
    | true =>
      rw [if_pos (.inr (eqB e2))] at hf
      rw [hf]; clear hf HN
      have n1 : (t.ty != 1) = true := by show (!(t.ty == 1)) = true; rw [e1]; rfl
      have n2 : (t.ty != 2) = false := by show (!(t.ty == 2)) = false; rw [e2]; rfl
      go_enter Tryd.func72, Tryd.ntmps72
      go_wp2_with (fail)
      go_end0
      exact ⟨rfl, A, c, B, e, H.out.ended.1, H.out.ended.2⟩
    | false =>
      rw [if_neg (fun h => h.elim (neB e1) (neB e2))] at hf
      rw [hf]; clear hf
      have n1 : (t.ty != 1) = true := by show (!(t.ty == 1)) = true; rw [e1]; rfl
      have n2 : (t.ty != 2) = true := by show (!(t.ty == 2)) = true; rw [e2]; rfl
      clear e1 e2
      generalize es ++ told 3 (isO m) t.rs = es1 at *
      go_enter Tryd.func72, Tryd.ntmps72
      go_wp2_with (fail)
      refine HN.out.mono ?_; rintro e w1 ⟨rfl, A1, d1, B1, g1, hc1, hb1⟩
      have H1 := Lib.hid hc1; have HB1 := Lib.hid hb1
      have c1 := hc1.at_.r.ty
      have c2 := hc1.at_.r.hh
      have f1 := hc1.blk.free 1
      have f2 := hc1.blk.free 2
      clear hc1 hb1
      go_wp2_with (fail)
      go_end0
      exact ⟨rfl, A1, d1, B1, g1, H1.out.ended.1, HB1.out.trans H1.out.ended.2⟩
end Go.Proofs.YtgekadfkokkapaaDoor
