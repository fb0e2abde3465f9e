/- A Units that the call itself has made, step by step; the small input that is answered. -/
import Derived.Test.YtacogfllnhopoaaUnL
import Derived.Test.YtacogfllnhopoaaNamesRef
namespace Go.Proofs.Ytacogfllnhopoaa
open Go.RowKit Go.Maps
/-- The Units at p, made since w0, keeps f; what was there at w0 is as it was. -/
structure OU (w0 w : World) (p : Nat) (f : PF) : Prop where
  un : ∃ F, Un w F p f ∧ ∀ k, F k → w0.heap.size ≤ k
  below : Below w0.heap.size w0 w
theorem OU.out {w0 w w' : World} {p : Nat} {f f' : PF} (h : OU w0 w p f) (hu : ∀ F, Un w F p f → UnOut F w p f' w') : OU w0 w' p f' := by
  obtain ⟨⟨F, hF, hl⟩, hb⟩ := h
  obtain ⟨ho, F', h1, h2⟩ := hu F hF
  exact ⟨⟨F', h1, fun k hk => (h2 k hk).elim (hl k) (fun h => Nat.le_trans hb.size h)⟩, hb.trans (ho.toBelow hb.size hl)⟩
theorem OU.more {w0 w w' : World} {p : Nat} {f : PF} (h : OU w0 w p f) (hb : Below w.heap.size w w') : OU w0 w' p f := h.out fun _ hF => hF.out hb
theorem ou_new (w : World) : Calls Try.prog 7 #[] w fun e w' => ∃ p, e = .returned (.pointer (some ⟨p, 0, none⟩)) ∧ w.heap.size ≤ p ∧ OU w w' p noF :=
  (new_any w).mono fun _ _ ⟨p, h1, h2, h3, F, h4, h5⟩ => ⟨p, h1, h2, ⟨F, h4, h5⟩, h3⟩
theorem ou_add {w0 w : World} {p : Nat} {f : PF} (h : OU w0 w p f) (l : Int) (hst : ByteArray) (x : Int) (hk : IsKv (kv l hst)) (hs : hst.size ≤ maxLen) :
    Calls Try.prog 8 #[.pointer (some ⟨p, 0, none⟩), .int .i64 l, .string hst, .int .i64 x] w fun e w' => e = .returned (.bool (addB f l hst x)) ∧ OU w0 w' p (addF f l hst x) := by
  obtain ⟨⟨F, hF, hl⟩, hb⟩ := h
  refine (add_any w hF l hst x hk hs).mono ?_
  rintro e w' ⟨h1, ho, F', h2, h3⟩
  exact ⟨h1, ⟨F', h2, fun k hk => (h3 k hk).elim (hl k) (fun h => Nat.le_trans hb.size h)⟩, hb.trans (ho.toBelow hb.size hl)⟩
theorem ou_take {w0 w : World} {p : Nat} {f : PF} (h : OU w0 w p f) (l : Int) (hst : ByteArray) (hk : IsKv (kv l hst)) :
    Calls Try.prog 10 #[.pointer (some ⟨p, 0, none⟩), .int .i64 l, .string hst] w fun e w' => e = .returned (.tuple #[.int .i64 ((f l hst).headD 0), .bool (decide (f l hst ≠ []))]) ∧ OU w0 w' p (takeF f l hst) := by
  obtain ⟨⟨F, hF, hl⟩, hb⟩ := h
  refine (take_any w hF l hst hk).mono ?_
  rintro e w' ⟨h1, ho, F', h2, h3⟩
  exact ⟨h1, ⟨F', h2, fun k hk => (h3 k hk).elim (hl k) (fun h => Nat.le_trans hb.size h)⟩, hb.trans (ho.toBelow hb.size hl)⟩
theorem ou_forget {w0 w : World} {p : Nat} {f : PF} (h : OU w0 w p f) (hst : ByteArray) (hs : hst.size ≤ maxLen) :
    Calls Try.prog 12 #[.pointer (some ⟨p, 0, none⟩), .string hst] w fun e w' => e = .returned (.tuple #[]) ∧ OU w0 w' p (forgetF f hst) := by
  obtain ⟨⟨F, hF, hl⟩, hb⟩ := h
  refine (forget_any w hF hst hs).mono ?_
  rintro e w' ⟨h1, h2, ho⟩
  exact ⟨h1, ⟨F, h2, hl⟩, hb.trans (ho.toBelow hb.size hl)⟩
theorem ou_wait {w0 w : World} {p : Nat} {f : PF} (h : OU w0 w p f) {l : Int} {hst : ByteArray} (hk : IsKv (kv l hst)) :
    Calls Try.prog 14 #[.pointer (some ⟨p, 0, none⟩), .int .i64 l, .string hst] w fun e w' => e = .returned (.int .i64 (f l hst).length) ∧ w = w' := by
  obtain ⟨⟨F, hF, hl⟩, hb⟩ := h
  exact wait_any w hF hk
theorem ou_hosts {w0 w : World} {p : Nat} {f : PF} (h : OU w0 w p f) (l : Int) {m : Nat} (hs : Small f m) (hm : m ≤ 1000000) :
    Calls Try.prog 17 #[.pointer (some ⟨p, 0, none⟩), .int .i64 l] w fun e w' => ∃ A c hl, e = .returned (.slice A hl.length c) ∧ HostsOf f l hl ∧ Below w.heap.size w w' ∧ w'.ownsRow w.heap.size 9 1 (.slice A hl.length c) hl.length (hl.map .string) := by
  obtain ⟨⟨F, hF, hl⟩, hb⟩ := h
  exact hosts_any w hF l hs hm
def aH : ByteArray := ⟨#[97]⟩
theorem aH_name : nameB aH = true := nameB_yes (by decide) (by decide) (by decide) (fun k hk => by
  have : k = 0 := by have : aH.size = 1 := rfl; omega
  subst this
  decide)
theorem aH_kv : IsKv (kv 0 aH) := isKv (by omega) (by decide)
def g1 : PF := addF noF 0 aH 2
def g2 : PF := addF g1 0 aH 3
theorem g1_yes : addB noF 0 aH 2 = true := by unfold addB; rw [aH_name]; rfl
theorem g1_at : g1 0 aH = [2] := by unfold g1; rw [addB_yes g1_yes, upd_same]; rfl
theorem g2_yes : addB g1 0 aH 3 = true := by unfold addB; rw [aH_name, g1_at]; rfl
theorem g2_at : g2 0 aH = [2, 3] := by unfold g2; rw [addB_yes g2_yes, upd_same, g1_at]; rfl
theorem g3_no : addB g2 0 aH 3 = false := by unfold addB; rw [aH_name, g2_at]; rfl
theorem t1_at : takeF g2 0 aH 0 aH = [3] := by unfold takeF; rw [upd_same, g2_at]; rfl
theorem t2_at : takeF (takeF g2 0 aH) 0 aH 0 aH = [] := by unfold takeF; rw [upd_same]; have := t1_at; unfold takeF at this; rw [this]; rfl
theorem wakes_any (w : World) : Calls Try.prog 19 #[] w fun e w' => e = .returned (.bool true) ∧ Below w.heap.size w w' := by
  have HA1 := Lib.hid (fun (v : World) (p : Nat) (h : OU w v p noF) => ou_add h 0 aH 2 aH_kv (by decide))
  have HA2 := Lib.hid (fun (v : World) (p : Nat) (h : OU w v p g1) => ou_add h 0 aH 3 aH_kv (by decide))
  have HA3 := Lib.hid (fun (v : World) (p : Nat) (h : OU w v p g2) => ou_add h 0 aH 3 aH_kv (by decide))
  have HT1 := Lib.hid (fun (v : World) (p : Nat) (h : OU w v p g2) => ou_take h 0 aH aH_kv)
  have HT2 := Lib.hid (fun (v : World) (p : Nat) (h : OU w v p (takeF g2 0 aH)) => ou_take h 0 aH aH_kv)
  have HT3 := Lib.hid (fun (v : World) (p : Nat) (h : OU w v p (takeF (takeF g2 0 aH) 0 aH)) => ou_take h 0 aH aH_kv)
  rw [g1_yes] at HA1
  rw [g2_yes] at HA2
  rw [g3_no, addB_no g3_no] at HA3
  rw [g2_at] at HT1
  rw [t1_at] at HT2
  rw [t2_at] at HT3
  unfold aH at HA1 HA2 HA3 HT1 HT2 HT3
  go_enter Try.func19, Try.ntmps19
  go_wp2_with (first
    | (go_at_call 7; refine (ou_new _).mono ?_; rintro e w1 ⟨p, rfl, _, h1⟩; have H1 := Lib.hid h1; clear h1)
    | (go_at_call 8; refine (HA1.out _ _ H1).mono ?_; rintro e w2 ⟨rfl, h2⟩; have H2 := Lib.hid h2; clear h2 HA1)
    | (go_at_call 8; refine (HA2.out _ _ H2).mono ?_; rintro e w3 ⟨rfl, h3⟩; have H3 := Lib.hid h3; clear h3 HA2)
    | (go_at_call 8; refine (HA3.out _ _ H3).mono ?_; rintro e w4 ⟨rfl, h4⟩; have H4 := Lib.hid h4; clear h4 HA3)
    | (go_at_call 10; refine (HT1.out _ _ H4).mono ?_; rintro e w5 ⟨rfl, h5⟩; have H5 := Lib.hid h5; clear h5 HT1)
    | (go_at_call 10; refine (HT2.out _ _ H5).mono ?_; rintro e w6 ⟨rfl, h6⟩; have H6 := Lib.hid h6; clear h6 HT2)
    | (go_at_call 10; refine (HT3.out _ _ H6).mono ?_; rintro e w7 ⟨rfl, h7⟩; have H7 := Lib.hid h7; clear h7 HT3))
  go_ret
  exact ⟨rfl, H7.out.below⟩
end Go.Proofs.Ytacogfllnhopoaa
