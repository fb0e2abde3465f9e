/- Who asks is registered: all ways. -/
import Derived.Test.YtgekadfkokkapaaDoorReN
import Derived.Test.YtgekadfkokkapaaDoorReO
namespace Go.Proofs.YtgekadfkokkapaaDoor
open Go.RowKit
theorem int_beq' (a b : Int) : (a == b) = decide (a = b) := int_beq a b
theorem reg_any (w : World) (n0 p : Nat) (A : Option Addr) (c : Nat) (t : Tl) (m : Cm) (B : Option Addr) (e : Nat) (es : List Ev) (h : Chg w n0 p A c t m B e es) (hm : t.rs.length ≤ 1000) (hs : m.ho.size ≤ 1000) (hx : ∀ x ∈ t.rs, x.h.size ≤ 1000) (he : es.length ≤ 1000) :
    Calls Tryd.prog 55 #[.pointer (some ⟨p, 0, none⟩)] w fun e w' => e = .returned (.int .i64 (regCode t m)) ∧ WrO n0 p (regT t m) m (regE t m es) w w' := by
  by_cases hn : (!m.ig && m.ke != keyR t.rs m.ho) = true
  · have hg : m.ig = false := by cases h0 : m.ig with | false => rfl | true => rw [h0] at hn; cases hn
    have hn' : (m.ke != keyR t.rs m.ho) = true := by rw [hg] at hn; exact hn
    rw [show regCode t m = 2 by unfold regCode; rw [if_pos hn], show regT t m = t by unfold regT; rw [if_pos hn], show regE t m es = es by unfold regE; rw [if_pos hn]]
    exact reg_conflict w n0 p A c t m B e es h hm hg hn'
  · have hsel : m.ig = true ∨ (m.ig = false ∧ (m.ke != keyR t.rs m.ho) = false) := by
      cases h0 : m.ig with
      | true => exact .inl rfl
      | false =>
        refine .inr ⟨rfl, ?_⟩
        cases h1 : (m.ke != keyR t.rs m.ho) with
        | false => rfl
        | true => rw [h0, h1] at hn; exact absurd rfl hn
    by_cases hk : m.nk = 0
    · have hkb : (m.nk == 0) = true := by rw [int_beq]; exact decide_eq_true hk
      rw [show regCode t m = 1 by unfold regCode; rw [if_neg hn, if_pos hk], show regT t m = setAp (unregT t m) m by unfold regT; rw [if_neg hn, if_pos hk], show regE t m es = unregE t m es by unfold regE; rw [if_neg hn, if_pos hk]]
      rcases hsel with hg | ⟨hg, hq⟩
      · exact reg_un_i w n0 p A c t m B e es h hm hg hx he hkb
      · exact reg_un_k w n0 p A c t m B e es h hm hg hq hx he hkb
    · have hkb : (m.nk == 0) = false := by rw [int_beq]; exact decide_eq_false hk
      rw [show regE t m es = es by unfold regE; rw [if_neg hn, if_neg hk]]
      cases hr : regB t.rs m.ho with
      | true =>
        rw [show regCode t m = 1 by unfold regCode; rw [if_neg hn, if_neg hk, if_pos hr], show regT t m = setAp (keyT t m) m by unfold regT; rw [if_neg hn, if_neg hk, if_pos hr]]
        rcases hsel with hg | ⟨hg, hq⟩
        · exact reg_key_i w n0 p A c t m B e es h hm hg hr hkb
        · exact reg_key_k w n0 p A c t m B e es h hm hg hq hr hkb
      | false =>
        have hr' : ¬ regB t.rs m.ho = true := by rw [hr]; decide
        by_cases h16 : t.rs.length = 16
        · rw [show regCode t m = 8 by unfold regCode; rw [if_neg hn, if_neg hk, if_neg hr', if_pos h16], show regT t m = t by unfold regT; rw [if_neg hn, if_neg hk, if_neg hr', if_pos h16]]
          rcases hsel with hg | ⟨hg, hq⟩
          · exact reg_full_i w n0 p A c t m B e es h hm hg hr hkb h16
          · exact reg_full_k w n0 p A c t m B e es h hm hg hq hr hkb h16
        · rw [show regCode t m = 1 by unfold regCode; rw [if_neg hn, if_neg hk, if_neg hr', if_neg h16], show regT t m = setAp (newT t m) m by unfold regT; rw [if_neg hn, if_neg hk, if_neg hr', if_neg h16]]
          rcases hsel with hg | ⟨hg, hq⟩
          · exact reg_new_i w n0 p A c t m B e es h hm hg hs hr hkb h16
          · exact reg_new_k w n0 p A c t m B e es h hm hg hq hs hr hkb h16
end Go.Proofs.YtgekadfkokkapaaDoor
