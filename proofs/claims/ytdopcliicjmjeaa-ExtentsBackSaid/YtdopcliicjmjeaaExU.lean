/- Find, Used, the copy of a list; the document's Good, Used, Same. -/
import Derived.Test.YtdopcliicjmjeaaExT
namespace Go.Proofs.Ytdopcliicjmjeaa
open Go.RowKit
set_option maxHeartbeats 2000000 in
theorem one_any (x : Ex) (hx : x.Wf) (w : World) : Calls Try.prog 31 #[exV x] w fun e w' => e = .returned (.bool (fitsB x)) ∧ Below w.heap.size w w' := by
  obtain ⟨h1, h2, h3, h4, h5, h6⟩ := hx
  have hf : fitsB x = decide (0 ≤ x.l ∧ 0 ≤ x.a ∧ 1 ≤ x.b ∧ x.b ≤ 4096 - x.l ∧ x.b ≤ 8192 - x.a) := rfl
  have e1 : 0 ≤ x.l → IntKind.i64.wrap (4096 - x.l) = 4096 - x.l := fun h => i64w _ (by omega)
  have e2 : 0 ≤ x.a → IntKind.i64.wrap (8192 - x.a) = 8192 - x.a := fun h => i64w _ (by omega)
  generalize fitsB x = r at hf
  unfold exV
  go_enter Try.func31, Try.ntmps31
  by_cases c1 : 0 ≤ x.l
  · have e1 := e1 c1
    by_cases c2 : 0 ≤ x.a
    · have e2 := e2 c2
      by_cases c3 : 1 ≤ x.b
      · skip
        by_cases c4 : x.l ≤ 4096
        · skip
          by_cases c5 : x.a ≤ 8192
          · skip
            by_cases c6 : x.b ≤ 4096 - x.l
            · skip
              by_cases c7 : x.b ≤ 8192 - x.a
              · skip
                obtain rfl : r = true := by rw [hf]; exact decide_eq_true (by omega)
                clear hf
                go_wp2_with (fail)
                go_ret
                exact ⟨rfl, (Below.refl _ _).alloc (Nat.le_refl _) _⟩
              · obtain rfl : r = false := by rw [hf]; exact decide_eq_false (by omega)
                clear hf
                go_wp2_with (fail)
                go_ret
                exact ⟨rfl, (Below.refl _ _).alloc (Nat.le_refl _) _⟩
            · obtain rfl : r = false := by rw [hf]; exact decide_eq_false (by omega)
              clear hf
              go_wp2_with (fail)
              go_ret
              exact ⟨rfl, (Below.refl _ _).alloc (Nat.le_refl _) _⟩
          · obtain rfl : r = false := by rw [hf]; exact decide_eq_false (by omega)
            clear hf
            go_wp2_with (fail)
            go_ret
            exact ⟨rfl, (Below.refl _ _).alloc (Nat.le_refl _) _⟩
        · obtain rfl : r = false := by rw [hf]; exact decide_eq_false (by omega)
          clear hf
          go_wp2_with (fail)
          go_ret
          exact ⟨rfl, (Below.refl _ _).alloc (Nat.le_refl _) _⟩
      · obtain rfl : r = false := by rw [hf]; exact decide_eq_false (by omega)
        clear hf
        go_wp2_with (fail)
        go_ret
        exact ⟨rfl, (Below.refl _ _).alloc (Nat.le_refl _) _⟩
    · obtain rfl : r = false := by rw [hf]; exact decide_eq_false (by omega)
      clear hf
      go_wp2_with (fail)
      go_ret
      exact ⟨rfl, (Below.refl _ _).alloc (Nat.le_refl _) _⟩
  · obtain rfl : r = false := by rw [hf]; exact decide_eq_false (by omega)
    clear hf
    go_wp2_with (fail)
    go_ret
    exact ⟨rfl, (Below.refl _ _).alloc (Nat.le_refl _) _⟩
theorem below_drewN {B : Nat} {w v : World} (h : Below B w v) (n : Nat) : Below B w (v.drewN n) := ⟨h.os, h.tape, h.output, h.size, h.block⟩
set_option maxRecDepth 100000 in
set_option maxHeartbeats 4000000 in
theorem refGood_few (A : Option Addr) (c : Nat) (l : List Ex) (w : World) (hl : Exts w A l) (hn : l.length ≤ 4096) :
    Calls Try.prog 15 #[.slice A l.length c] w fun e w' => e = .returned (.bool (goodB l)) ∧ Below w.heap.size w w' := by
  have HL0 := Lib.hid hl; clear hl
  obtain ⟨g, hg⟩ : ∃ g, goodB l = g := ⟨_, rfl⟩
  have HG0 := Lib.hid hg; clear hg
  rw [HG0.out]
  have hi : ¬ (4096 : Int) < l.length := by omega
  go_enter Try.func15, Try.ntmps15
  go_wp2_with (fail)
  go_loopw [3] (fun i wr => GoAt w l i wr) (fun i _ => l.length - (intOf i).toNat)
  case atStart => exact ⟨0, rfl, Nat.zero_le _, rfl, fun p h => (by cases h), Below.refl _ _⟩
  case round =>
    obtain ⟨k, rfl, hk, hch, hpf, hbl⟩ := hrel
    have HB0 := Lib.hid hbl; clear hbl
    have HP0 := Lib.hid hpf; have HCH := Lib.hid hch; clear hpf hch
    by_cases hlt : k < l.length
    · have hki : (k : Int) < l.length := by omega
      obtain ⟨b, o, x, rfl, hat, wf, c0, c1, c2⟩ := (HL0.out.below HB0.out).at_ hlt
      have HN := Lib.hid (chain_next hat (prevX l k))
      have HAT := Lib.hid hat
      have HFX := Lib.hid (fun v => one_any x wf v)
      cases hf : fitsB x with
      | false =>
        rw [hf] at HN HFX
        have HG := Lib.hid (show g = false by rw [← HG0.out, HCH.out, HN.out]; rfl)
        unfold exV at HFX
        clear hf hat wf
        go_wp2_with (fail)
        refine (HFX.out _).mono ?_; rintro e w1 ⟨rfl, hb1⟩
        have HB1 := Lib.hid (HB0.out.trans (hb1.mono HB0.out.size))
        clear hb1
        have hnt := not_false w1
        go_wp2_with (fail)
        go_ret
        exact ⟨by rw [HG.out]; rfl, HB1.out⟩
      | true =>
        rw [hf] at HN HFX
        have HFIT := Lib.hid ((fitsB_iff x).1 hf)
        have HP := Lib.hid (fun p (h : prevX l (k + 1) = some p) => (by rw [prevX_succ HAT.out] at h; injection h with h; subst h; exact HFIT.out : p.Fits))
        unfold exV at HFX
        have HE := Lib.hid (fun v (hb : Below wr.heap.size wr v) => cells_below hb c0 c1 c2)
        clear hf wf hat
        cases k with
        | zero =>
          have HG := Lib.hid (show goodB l = chainB (prevX l (0 + 1)) (l.drop (0 + 1)) by rw [HCH.out, HN.out]; rfl)
          simp only [Nat.zero_mul, Nat.add_zero] at c0 c1 c2
          go_wp2_with (fail)
          refine (HFX.out _).mono ?_; rintro e w1 ⟨rfl, hb1⟩
          have HB1 := Lib.hid (HB0.out.trans (hb1.mono HB0.out.size))
          clear hb1
          have hnt := not_true w1
          go_wp2_with (fail)
          go_roundw
          case rel => exact ⟨0 + 1, by go_num, by omega, HG.out, HP.out, HB1.out⟩
          case measure => simp [intOf]; omega
        | succ m =>
          obtain ⟨p, hp⟩ : ∃ p, l[m]? = some p := ⟨_, List.getElem?_eq_getElem (by omega)⟩
          have hpp : prevX l (m + 1) = some p := prevX_succ hp
          have hpfit := HP0.out p hpp
          have HPP := Lib.hid hpp
          obtain ⟨b', o', e', hcp⟩ := (HL0.out.below HB0.out) (by omega)
          injection e' with e'; injection e' with e1 e2
          subst e1; subst e2
          obtain ⟨_, p0, p1, p2⟩ := (hcp m p hp)
          clear hcp hp hpp
          have HQ := Lib.hid (fun v (hb : Below wr.heap.size wr v) => cells_below hb p0 p1 p2)
          obtain ⟨s1, s2, s3, s4⟩ := fits_sums hpfit
          have hwm : IntKind.i64.wrap ((m : Int) + 1 - 1) = (m : Int) := by rw [IntKind.wrap_i64]; omega
          have hm0 : (m : Int) < l.length := by omega
          have e1 : IntKind.i64.wrap (p.l + p.b) = p.l + p.b := i64w _ ⟨s1, s2⟩
          have e2 : IntKind.i64.wrap (p.a + p.b) = p.a + p.b := i64w _ ⟨s3, s4⟩
          have HM := Lib.hid (show mayB p x = (decide (x.l ≥ p.l + p.b) && !decide (x.l = p.l + p.b ∧ x.a = p.a + p.b)) from rfl)
          clear p0 p1 p2 hpfit s1 s2 s3 s4
          go_wp2_with (fail)
          refine (HFX.out _).mono ?_; rintro e w1 ⟨rfl, hb1⟩
          have HB1 := Lib.hid (HB0.out.trans (hb1.mono HB0.out.size))
          clear c0 c1 c2
          obtain ⟨c0, c1, c2⟩ := HE.out w1 hb1
          obtain ⟨p0, p1, p2⟩ := HQ.out w1 hb1
          clear hb1
          have hnt := not_true w1
          have hm10 : ¬ (m : Int) + 1 = 0 := by omega
          by_cases q1 : x.l < p.l + p.b
          · have HG := Lib.hid (show g = false by rw [← HG0.out, HCH.out, HN.out, HPP.out]; simp only [HM.out]; rw [decide_eq_false (show ¬ x.l ≥ p.l + p.b by omega)]; simp)
            go_upto_region 10 with (fail)
            obtain ⟨hbx, hbb⟩ := round_box w1 p _ rfl
            generalize hw0 : w1.alloc (.cells #[.int .i64 p.l, .int .i64 p.b, .int .i64 p.a] 32) = w2 at *
            obtain ⟨c0, c1, c2⟩ := cells_below hbb c0 c1 c2
            have d0 := hbx.cell 0
            have d1 := hbx.cell 1
            have d2 := hbx.cell 2
            have HB2 := Lib.hid (HB1.out.trans (hbb.mono HB1.out.size))
            clear hbx hbb hw0
            go_quiet (fail)
            go_wp2_with (fail)
            go_ret
            exact ⟨by rw [HG.out]; rfl, below_drewN HB2.out _⟩
          · have f1 : decide (x.l < p.l + p.b) = false := decide_eq_false q1
            by_cases q2 : x.l = p.l + p.b
            · have f2 : (x.l == p.l + p.b) = true := by simpa using q2
              by_cases q3 : x.a = p.a + p.b
              · have f3 : (x.a == p.a + p.b) = true := by simpa using q3
                have HG := Lib.hid (show g = false by rw [← HG0.out, HCH.out, HN.out, HPP.out]; simp only [HM.out]; rw [decide_eq_true (show x.l ≥ p.l + p.b by omega), decide_eq_true (⟨q2, q3⟩ : x.l = p.l + p.b ∧ x.a = p.a + p.b)]; simp)
                clear q1 q2 q3
                go_upto_region 10 with (fail)
                obtain ⟨hbx, hbb⟩ := round_box w1 p _ rfl
                generalize hw0 : w1.alloc (.cells #[.int .i64 p.l, .int .i64 p.b, .int .i64 p.a] 32) = w2 at *
                obtain ⟨c0, c1, c2⟩ := cells_below hbb c0 c1 c2
                have d0 := hbx.cell 0
                have d1 := hbx.cell 1
                have d2 := hbx.cell 2
                have HB2 := Lib.hid (HB1.out.trans (hbb.mono HB1.out.size))
                clear hbx hbb hw0
                go_quiet (fail)
                go_wp2_with (fail)
                go_ret
                exact ⟨by rw [HG.out]; rfl, below_drewN HB2.out _⟩
              · have f3 : (x.a == p.a + p.b) = false := by simpa using q3
                have HG := Lib.hid (show goodB l = chainB (prevX l (m + 1 + 1)) (l.drop (m + 1 + 1)) by rw [HCH.out, HN.out, HPP.out]; simp only [HM.out]; rw [decide_eq_true (show x.l ≥ p.l + p.b by omega), decide_eq_false (fun h => q3 h.2 : ¬ (x.l = p.l + p.b ∧ x.a = p.a + p.b))]; simp)
                clear q1 q2 q3
                go_upto_region 10 with (fail)
                obtain ⟨hbx, hbb⟩ := round_box w1 p _ rfl
                generalize hw0 : w1.alloc (.cells #[.int .i64 p.l, .int .i64 p.b, .int .i64 p.a] 32) = w2 at *
                obtain ⟨c0, c1, c2⟩ := cells_below hbb c0 c1 c2
                have d0 := hbx.cell 0
                have d1 := hbx.cell 1
                have d2 := hbx.cell 2
                have HB2 := Lib.hid (HB1.out.trans (hbb.mono HB1.out.size))
                clear hbx hbb hw0
                go_quiet (fail)
                go_wp2_with (fail)
                go_roundw
                case rel => exact ⟨m + 1 + 1, by go_num, by omega, HG.out, HP.out, below_drewN HB2.out _⟩
                case measure => simp [intOf]; omega
            · have f2 : (x.l == p.l + p.b) = false := by simpa using q2
              have HG := Lib.hid (show goodB l = chainB (prevX l (m + 1 + 1)) (l.drop (m + 1 + 1)) by rw [HCH.out, HN.out, HPP.out]; simp only [HM.out]; rw [decide_eq_true (show x.l ≥ p.l + p.b by omega), decide_eq_false (fun h => q2 h.1 : ¬ (x.l = p.l + p.b ∧ x.a = p.a + p.b))]; simp)
              clear q1 q2
              go_upto_region 10 with (fail)
              obtain ⟨hbx, hbb⟩ := round_box w1 p _ rfl
              generalize hw0 : w1.alloc (.cells #[.int .i64 p.l, .int .i64 p.b, .int .i64 p.a] 32) = w2 at *
              obtain ⟨c0, c1, c2⟩ := cells_below hbb c0 c1 c2
              have d0 := hbx.cell 0
              have d1 := hbx.cell 1
              have d2 := hbx.cell 2
              have HB2 := Lib.hid (HB1.out.trans (hbb.mono HB1.out.size))
              clear hbx hbb hw0
              go_quiet (fail)
              go_wp2_with (fail)
              go_roundw
              case rel => exact ⟨m + 1 + 1, by go_num, by omega, HG.out, HP.out, below_drewN HB2.out _⟩
              case measure => simp [intOf]; omega
    · obtain rfl : k = l.length := by omega
      have HG := Lib.hid (show g = true by rw [← HG0.out, HCH.out, List.drop_length]; cases prevX l l.length <;> rfl)
      go_wp2
      go_ret
      exact ⟨by rw [HG.out]; rfl, HB0.out⟩
end Go.Proofs.Ytdopcliicjmjeaa
