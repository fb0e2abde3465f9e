/- Two lists of registrations, two tables: alike just where they are the same. -/
import Derived.Test.YthedonkjnfeajaaDoorImK
namespace Go.Proofs.YthedonkjnfeajaaDoor
open Go.RowKit
def SmO {α : Type} (a b : α) (w : World) (e : Ending) (w' : World) : Prop := ∃ r : Bool, e = .returned (.bool r) ∧ (r = true ↔ a = b) ∧ Below w.heap.size w w'
theorem sm_no {α : Type} {a b : α} (h : ¬ a = b) : (false = true ↔ a = b) := ⟨fun q => (by cases q), fun q => absurd q h⟩
theorem rg_ext {x y : Rg} (h : x.h = y.h) (k : x.k = y.k) : x = y := by cases x; cases y; simp only at h k; rw [h, k]
set_option maxRecDepth 100000 in
set_option maxHeartbeats 4000000 in
theorem regs_any (A1 A2 : Option Addr) (n1 n2 : Nat) (l1 l2 : List Rg) (w : World) (h1 : Rgs w A1 l1) (h2 : Rgs w A2 l2) (hl : l1.length ≤ 100000) (hl2 : l2.length ≤ 100000) :
    Calls Tryd.prog 22 #[.slice A1 l1.length n1, .slice A2 l2.length n2] w (SmO l1 l2 w) := by
  have H1 := Lib.hid h1; have H2 := Lib.hid h2; clear h1 h2
  by_cases hq : l1.length = l2.length
  · have hqI : ((l1.length : Int) == l2.length) = true := by rw [hq]; simp
    have hqN : ((l1.length : Int) != l2.length) = false := by rw [hq]; simp
    have HQ := Lib.hid hq
    clear hq
    go_enter Tryd.func22, Tryd.ntmps22
    go_wp2_with (fail)
    clear hqI hqN
    go_loopw [5] (fun i wr => ∃ k : Nat, i = .int .i64 k ∧ k ≤ l1.length ∧ Hid (l1.take k = l2.take k) ∧ Hid (Below w.heap.size w wr)) (fun i _ => l1.length - (intOf i).toNat)
    case atStart => exact ⟨0, rfl, Nat.zero_le _, Lib.hid rfl, Lib.hid (Below.refl _ _)⟩
    case round =>
      obtain ⟨k, rfl, hk, HK, HB⟩ := hrel
      by_cases hlt : k < l1.length
      · have hki : (k : Int) < l1.length := by omega
        have hlt2 : k < l2.length := by have := HQ.out; omega
        have hki2 : (k : Int) < l2.length := by omega
        obtain ⟨b1, o1, x1, rfl, hat1, _, d1, d2⟩ := (H1.out.below HB.out).at_ hlt
        obtain ⟨b2, o2, x2, rfl, hat2, _, d4, d5⟩ := (H2.out.below HB.out).at_ hlt2
        cases he : eqS x1.h x2.h with
        | false =>
          have HF := Lib.hid (show ¬ l1 = l2 by
            rintro rfl
            rw [hat1] at hat2
            have := Option.some.inj hat2
            rw [this, eqS_self] at he
            cases he)
          have m1 : (x1.h.toList == x2.h.toList) = false := he
          have m2 : (x1.h.toList != x2.h.toList) = true := by rw [neS, he]; rfl
          clear hat1 hat2 he
          go_upto_region 6 with (fail)
          go_quiet (fail)
          go_wp2_with (fail)
          go_ret
          exact ⟨false, rfl, sm_no HF.out, below_drewN HB.out _⟩
        | true =>
          have m1 : (x1.h.toList == x2.h.toList) = true := he
          have m2 : (x1.h.toList != x2.h.toList) = false := by rw [neS, he]; rfl
          by_cases hkk : x1.k = x2.k
          · have m3 : (x1.k == x2.k) = true := by rw [hkk]; simp
            have m4 : (x1.k != x2.k) = false := by rw [hkk]; simp
            have HN := Lib.hid (show l1.take (k + 1) = l2.take (k + 1) by
              obtain ⟨g1, q1⟩ := List.getElem?_eq_some_iff.1 hat1
              obtain ⟨g2, q2⟩ := List.getElem?_eq_some_iff.1 hat2
              rw [List.take_succ_eq_append_getElem g1, List.take_succ_eq_append_getElem g2, HK.out, q1, q2, rg_ext (eqS_iff.1 he) hkk])
            clear hat1 hat2 he hkk
            go_upto_region 6 with (fail)
            go_quiet (fail)
            go_wp2_with (fail)
            go_roundw
            case rel => exact ⟨k + 1, by go_num, by omega, HN, Lib.hid (below_drewN HB.out _)⟩
            case measure => simp [intOf]; omega
          · have m3 : (x1.k == x2.k) = false := by simpa using hkk
            have m4 : (x1.k != x2.k) = true := by simpa using hkk
            have HF := Lib.hid (show ¬ l1 = l2 by
              rintro rfl
              rw [hat1] at hat2
              have := Option.some.inj hat2
              rw [this] at hkk
              exact hkk rfl)
            clear hat1 hat2 he hkk
            go_upto_region 6 with (fail)
            go_quiet (fail)
            go_wp2_with (fail)
            go_ret
            exact ⟨false, rfl, sm_no HF.out, below_drewN HB.out _⟩
      · obtain rfl : k = l1.length := by omega
        have HN := Lib.hid (show l1 = l2 by
          have := HK.out
          rw [List.take_length, HQ.out, List.take_length] at this
          exact this)
        go_wp2_with (fail)
        go_ret
        exact ⟨true, rfl, ⟨fun _ => HN.out, fun _ => rfl⟩, HB.out⟩
  · have hqI : ((l1.length : Int) == l2.length) = false := by rw [int_beq]; exact decide_eq_false (by omega)
    have hqN : ((l1.length : Int) != l2.length) = true := by rw [bne, hqI]; rfl
    have HF := Lib.hid (show ¬ l1 = l2 by rintro rfl; exact hq rfl)
    clear hq
    go_enter Tryd.func22, Tryd.ntmps22
    go_wp2_with (fail)
    go_ret
    exact ⟨false, rfl, sm_no HF.out, Below.refl _ _⟩
theorem tl_ext {a b : Tl} (h1 : a.rs = b.rs) (h2 : a.ty = b.ty) (h3 : a.ho = b.ho) (h4 : a.ge = b.ge) (h5 : a.ap = b.ap) : a = b := by cases a; cases b; simp only at *; subst h1 h2 h3 h4 h5; rfl
set_option maxRecDepth 100000 in
set_option maxHeartbeats 4000000 in
theorem tables_any (A1 A2 : Option Addr) (n1 n2 : Nat) (t u : Tl) (w : World) (h1 : Rgs w A1 t.rs) (h2 : Rgs w A2 u.rs) (hl : t.rs.length ≤ 100000) (hl2 : u.rs.length ≤ 100000) :
    Calls Tryd.prog 13 #[tlV A1 n1 t, tlV A2 n2 u] w (SmO t u w) := by
  obtain ⟨k1, k2, k3⟩ := two_tl w A1 A2 n1 n2 t u _ rfl
  have HT1 := Lib.hid k1; have HT2 := Lib.hid k2; have HB := Lib.hid k3
  have H1 := Lib.hid (h1.below k3); have H2 := Lib.hid (h2.below k3); have HM := Lib.hid hl; have HM2 := Lib.hid hl2
  clear k1 k2 k3 h1 h2 hl hl2
  go_enter Tryd.func13, Tryd.ntmps13
  go_upto_region 1 with (fail)
  change Code.wp _ _ _ _ ((w.alloc (.cells (tlC A1 n1 t) 27)).alloc (.cells (tlC A2 n2 u) 27))
  generalize (w.alloc (.cells (tlC A1 n1 t) 27)).alloc (.cells (tlC A2 n2 u) 27) = w0 at *
  have a0 : w0.cell? ⟨w.heap.size, 0, none⟩ = some (.slice A1 t.rs.length n1) := HT1.out.cell 0
  have b0 : w0.cell? ⟨w.heap.size + 1, 0, none⟩ = some (.slice A2 u.rs.length n2) := HT2.out.cell 0
  go_wp2_with (fail)
  refine (regs_any A1 A2 n1 n2 t.rs u.rs _ H1.out H2.out HM.out HM2.out).mono ?_; rintro e w1 ⟨r, rfl, hr, hb1⟩
  have HB1 := Lib.hid (HB.out.trans (hb1.mono HB.out.size))
  have HU1 := Lib.hid (HT1.out.below hb1 HT1.out.lt); have HU2 := Lib.hid (HT2.out.below hb1 HT2.out.lt)
  have HR := Lib.hid hr
  clear hb1 a0 b0 hr
  cases r with
  | false =>
    have HF := Lib.hid (show ¬ t = u by rintro rfl; have := HR.out.2 rfl; cases this)
    clear HR
    go_wp2_with (fail)
    go_ret
    exact ⟨false, rfl, sm_no HF.out, HB1.out⟩
  | true =>
    have HR1 := Lib.hid (HR.out.1 rfl)
    clear HR
    have a1 : w1.cell? ⟨w.heap.size, 1, none⟩ = some (.int .i64 t.ty) := HU1.out.cell 1
    have a2 : w1.cell? ⟨w.heap.size, 2, none⟩ = some (.string t.ho) := HU1.out.cell 2
    have a3 : w1.cell? ⟨w.heap.size, 3, none⟩ = some (.int .u32 t.ge) := HU1.out.cell 3
    have a4 : w1.cell? ⟨w.heap.size, 4, none⟩ = some (.bool t.ap) := HU1.out.cell 4
    have b1 : w1.cell? ⟨w.heap.size + 1, 1, none⟩ = some (.int .i64 u.ty) := HU2.out.cell 1
    have b2 : w1.cell? ⟨w.heap.size + 1, 2, none⟩ = some (.string u.ho) := HU2.out.cell 2
    have b3 : w1.cell? ⟨w.heap.size + 1, 3, none⟩ = some (.int .u32 u.ge) := HU2.out.cell 3
    have b4 : w1.cell? ⟨w.heap.size + 1, 4, none⟩ = some (.bool u.ap) := HU2.out.cell 4
    by_cases q1 : t.ty = u.ty
    · have e1 : (t.ty == u.ty) = true := by simpa using q1
      have Q1 := Lib.hid q1
      clear q1
      cases q2 : eqS t.ho u.ho with
      | true =>
        have e2 : (t.ho.toList == u.ho.toList) = true := q2
        have Q2 := Lib.hid (eqS_iff.1 q2)
        clear q2
        by_cases q3 : t.ge = u.ge
        · have e3 : (t.ge == u.ge) = true := by simpa using q3
          have Q3 := Lib.hid q3
          clear q3
          cases q4 : (t.ap == u.ap) with
          | true =>
            have Q4 := Lib.hid (show t.ap = u.ap by simpa using q4)
            go_wp2_with (fail)
            go_ret
            exact ⟨true, rfl, ⟨fun _ => tl_ext HR1.out Q1.out Q2.out Q3.out Q4.out, fun _ => rfl⟩, HB1.out⟩
          | false =>
            have HF := Lib.hid (show ¬ t = u by rintro rfl; simp at q4)
            go_wp2_with (fail)
            go_ret
            exact ⟨false, rfl, sm_no HF.out, HB1.out⟩
        · have e3 : (t.ge == u.ge) = false := by simpa using q3
          have HF := Lib.hid (show ¬ t = u by rintro rfl; exact q3 rfl)
          clear q3
          go_wp2_with (fail)
          go_ret
          exact ⟨false, rfl, sm_no HF.out, HB1.out⟩
      | false =>
        have e2 : (t.ho.toList == u.ho.toList) = false := q2
        have HF := Lib.hid (show ¬ t = u by rintro rfl; rw [eqS_self] at q2; cases q2)
        clear q2
        go_wp2_with (fail)
        go_ret
        exact ⟨false, rfl, sm_no HF.out, HB1.out⟩
    · have e1 : (t.ty == u.ty) = false := by simpa using q1
      have HF := Lib.hid (show ¬ t = u by rintro rfl; exact q1 rfl)
      clear q1
      go_wp2_with (fail)
      go_ret
      exact ⟨false, rfl, sm_no HF.out, HB1.out⟩
end Go.Proofs.YthedonkjnfeajaaDoor
