/- Take, whatever is pending; Forget. -/
import Derived.Test.YtacogfllnhopoaaUnI
namespace Go.Proofs.Ytacogfllnhopoaa
open Go.RowKit Go.Maps
theorem take_none (w : World) {F : Nat → Prop} {p : Nat} {f : PF} (hU : Un w F p f) (l : Int) (h : ByteArray) (hk : IsKv (kv l h)) (h0 : f l h = []) :
    Calls Try.prog 10 #[.pointer (some ⟨p, 0, none⟩), .int .i64 l, .string h] w fun e w' => e = .returned (.tuple #[.int .i64 0, .bool false]) ∧ w = w' := by
  have HW := Lib.hid (wait_any w hU hk)
  rw [h0] at HW
  go_enter Try.func10, Try.ntmps10
  go_wp2_with (go_at_call 14; refine HW.out.mono ?_; rintro e w1 ⟨rfl, rfl⟩)
  go_ret2
  exact ⟨rfl, rfl⟩
def takeF (f : PF) (l : Int) (h : ByteArray) : PF := upd f l h ((f l h).drop 1)
theorem take_any (w : World) {F : Nat → Prop} {p : Nat} {f : PF} (hU : Un w F p f) (l : Int) (h : ByteArray) (hk : IsKv (kv l h)) :
    Calls Try.prog 10 #[.pointer (some ⟨p, 0, none⟩), .int .i64 l, .string h] w fun e w' => e = .returned (.tuple #[.int .i64 ((f l h).headD 0), .bool (decide (f l h ≠ []))]) ∧ UnOut F w p (takeF f l h) w' := by
  unfold takeF
  cases hz : f l h with
  | nil =>
    refine (take_none w hU l h hk hz).mono ?_
    rintro e w' ⟨rfl, rfl⟩
    refine ⟨rfl, ?_⟩
    rw [List.drop_nil, upd_noop hz]
    exact hU.out (Below.refl _ _)
  | cons y zt =>
    have hF := hU.fine l h (by rw [hz]; simp)
    obtain ⟨b, h1, h2, h3, h4, ⟨es, clock, hm, he, hc, ha⟩, h6⟩ := hU
    obtain ⟨A, n, c, hnl, hrow, hent, hlook, hpos⟩ := find_row he hc hk
    have hl8 := hF.2.2.2
    rw [hz] at hnl hrow hpos hl8
    have hn1 : n = zt.length + 1 := by simpa using hnl
    obtain ⟨g, rfl, _, _⟩ := hpos (by omega)
    subst hn1
    have e1 : decide (y :: zt ≠ []) = true := by simp
    rw [e1]
    cases zt with
    | nil => exact take_one w h1 h2 h3 h4 hm he hc ha h6 l h hk ⟨hF.1, hF.2.1, hF.2.2.1⟩ g c y hz hrow hent hlook
    | cons x zt => exact take_more w h1 h2 h3 h4 hm he hc ha h6 l h hk ⟨hF.1, hF.2.1, hF.2.2.1⟩ g _ c y (x :: zt) hz rfl (by simp at hl8 ⊢; omega) hrow hent hlook (by simp)
/-- f without what is pending for h at the first k units. -/
def forgetK (f : PF) (h : ByteArray) (k : Nat) : PF := fun l' h' => if h' = h ∧ 0 ≤ l' ∧ l' < (k : Int) then [] else f l' h'
def forgetF (f : PF) (h : ByteArray) : PF := fun l' h' => if h' = h then [] else f l' h'
theorem forgetK_zero (f : PF) (h : ByteArray) : forgetK f h 0 = f := by
  funext l' h'
  unfold forgetK
  rw [if_neg (by omega)]
theorem forgetK_succ (f : PF) (h : ByteArray) (k : Nat) : upd (forgetK f h k) (k : Int) h [] = forgetK f h (k + 1) := by
  funext l' h'
  unfold upd forgetK
  by_cases h1 : l' = (k : Int) ∧ h' = h
  · rw [if_pos h1, if_pos ⟨h1.2, by omega, by omega⟩]
  · rw [if_neg h1]
    by_cases h2 : h' = h ∧ 0 ≤ l' ∧ l' < (k : Int)
    · rw [if_pos h2, if_pos ⟨h2.1, h2.2.1, by omega⟩]
    · rw [if_neg h2, if_neg]
      rintro ⟨h3, h4, h5⟩
      exact h2 ⟨h3, h4, by
        have : l' ≠ (k : Int) := fun e => h1 ⟨e, h3⟩
        omega⟩
theorem forgetK_all {f : PF} (hf : Fine f) (h : ByteArray) : forgetK f h 8 = forgetF f h := by
  funext l' h'
  unfold forgetK forgetF
  by_cases h1 : h' = h
  · rw [if_pos h1]
    by_cases h2 : 0 ≤ l' ∧ l' < 8
    · rw [if_pos ⟨h1, h2⟩]
    · rw [if_neg (fun hh => h2 hh.2)]
      refine Classical.byContradiction fun hn => h2 ?_
      have := hf l' h' hn
      exact ⟨this.1, this.2.1⟩
  · rw [if_neg h1, if_neg (fun hh => h1 hh.1)]
/-- One deletion. -/
theorem Un.dropped {w : World} {F : Nat → Prop} {p : Nat} {f : PF} (hU : Un w F p f) {l : Int} {h : ByteArray} (hk : IsKv (kv l h)) : ∃ b w', w.cell? ⟨p, 0, none⟩ = some (.map (some b)) ∧
    (Builtin.delete_ #[47, 52] 0 #[.map (some b), .agg #[.int .i64 l, .string h]]).run Try.prog w = .ok (.tuple #[]) w' ∧ Un w' F p (upd f l h []) ∧ Only F w w' := by
  obtain ⟨b, h1, h2, h3, h4, ⟨es, clock, hm, he, hc, ha⟩, h6⟩ := hU
  obtain ⟨es', hr, hm2, hiff⟩ := hm.drop hk 0
  have ho : Only (fun k => k = b) w (ChangeMaps.setBlock w b (.map es' clock)) := only_setBlock (Only.refl _ w) hm.here (.inl rfl)
  have hpb : p ≠ b := by
    rintro rfl
    have := hm.here
    unfold Blk at h1
    rw [h1] at this
    cases this
  exact ⟨b, _, h1.cell 0, hr, ⟨b, h1.only ho hpb, h2, h3, fun k hk => Nat.lt_of_lt_of_le (h4 k hk) ho.size, Pd.dropped hm he hc ha ho (fun k hk => .inl hk) hm2 hiff, h6.upd (fun hn => absurd rfl hn)⟩, ho.mono (fun k hk => hk ▸ h3)⟩
theorem forget_any (w : World) {F : Nat → Prop} {p : Nat} {f : PF} (hU : Un w F p f) (h : ByteArray) (hs : h.size ≤ maxLen) :
    Calls Try.prog 12 #[.pointer (some ⟨p, 0, none⟩), .string h] w fun e w' => e = .returned (.tuple #[]) ∧ Un w' F p (forgetF f h) ∧ Only F w w' := by
  have HK := Lib.hid (fun (k : Nat) (hk : k ≤ 8) => isKv (l := (k : Int)) (h := h) (by omega) hs)
  have HU := Lib.hid hU
  have HF := Lib.hid (forgetK_all hU.fine h)
  clear hU hs
  go_enter Try.func12, Try.ntmps12
  go_wp2
  go_loopw [7] (fun i wr => ∃ k : Nat, k ≤ 8 ∧ i = .int .i64 (k : Int) ∧ Un wr F p (forgetK f h k) ∧ Only F w wr) (fun i _ => 8 - (intOf i).toNat)
  case atStart => exact ⟨0, by omega, rfl, by rw [forgetK_zero]; exact HU, Only.refl _ _⟩
  case round =>
    obtain ⟨k, hk8, rfl, hu, ho⟩ := hrel
    by_cases hk : k < 8
    · obtain ⟨b, w1, hc, hr, hu1, ho1⟩ := hu.dropped (HK k hk8)
      rw [forgetK_succ] at hu1
      have HU1 := Lib.hid hu1; have HO1 := Lib.hid (ho.trans ho1 (fun i hi => .inl hi))
      have hlt : (k : Int) < 8 := by omega
      have hwr : IntKind.i64.wrap ((k : Int) + 1) = (k : Int) + 1 := IntWalk.i64_in _ (by omega)
      clear hu1 ho1 hu ho HU HF
      go_wp2
      go_roundw
      case rel => exact ⟨k + 1, by omega, by go_num, HU1, HO1⟩
      case measure => simp [intOf]; omega
    · obtain rfl : k = 8 := by omega
      rw [HF.out] at hu
      have HU1 := Lib.hid hu; have HO1 := Lib.hid ho
      clear hu ho HU HF
      go_wp2
      go_end0
      exact ⟨rfl, HU1, HO1⟩
end Go.Proofs.Ytacogfllnhopoaa
