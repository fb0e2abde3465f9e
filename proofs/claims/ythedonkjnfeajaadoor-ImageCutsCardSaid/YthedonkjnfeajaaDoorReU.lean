/- Which tables are good. -/
import Derived.Test.YthedonkjnfeajaaDoorReE
namespace Go.Proofs.YthedonkjnfeajaaDoor
open Go.RowKit
/-- Is a registration at a place one that may stand there? -/
def okAt (l : List Rg) (k : Nat) : Bool := match l[k]? with
  | some x => (x.k != 0 && nameB x.h) && !regB (l.take k) x.h
  | none => true
/-- The first k registrations of a list are good ones. -/
def okTo (l : List Rg) : Nat → Bool
  | 0 => true
  | k + 1 => okTo l k && okAt l k
def regsB (l : List Rg) : Bool := decide (l.length ≤ 16) && okTo l l.length
def holdB (t : Tl) : Bool := if t.ty = 0 then t.ho.toList.isEmpty else if shB t.ty then t.ho.toList.isEmpty && decide (0 < t.rs.length) else typeB t.ty && regB t.rs t.ho
def goodB (t : Tl) : Bool := regsB t.rs && holdB t
theorem okTo_no {l : List Rg} {k : Nat} (h : okAt l k = false) (n : Nat) (hn : k < n) : okTo l n = false := by
  induction n with
  | zero => omega
  | succ n ih =>
    show (okTo l n && okAt l n) = false
    by_cases e : k = n
    · subst e; rw [h, Bool.and_false]
    · rw [ih (by omega), Bool.false_and]
theorem findIdx_lt {l : List Rg} {h : ByteArray} {k : Nat} (hr : regB (l.take k) h = true) : l.findIdx (isH h) < k := by
  obtain ⟨x, hx, he⟩ := List.any_eq_true.1 hr
  obtain ⟨i, hi, rfl⟩ := List.getElem_of_mem hx
  rw [List.length_take] at hi
  rw [List.getElem_take] at he
  have hle : l.findIdx (isH h) ≤ i := by
    apply Nat.le_of_not_lt
    intro hlt
    have := List.not_of_lt_findIdx hlt
    simp [isH] at this
    rw [he] at this
    cases this
  omega
theorem findIdx_self {l : List Rg} {k : Nat} {x : Rg} (hx : l[k]? = some x) (hr : regB (l.take k) x.h = false) : findQ (isH x.h) l = (k : Nat) :=
  findQ_here (q := isH x.h) hr hx (by show (x.h.toList == x.h.toList) = true; simp)
theorem findQ_less {l : List Rg} {k : Nat} {x : Rg} (_hx : l[k]? = some x) (hr : regB (l.take k) x.h = true) : ∃ i : Nat, findQ (isH x.h) l = i ∧ i < k := by
  refine ⟨l.findIdx (isH x.h), ?_, findIdx_lt hr⟩
  unfold findQ
  rw [if_pos]
  obtain ⟨y, hy, he⟩ := List.any_eq_true.1 hr
  exact List.any_eq_true.2 ⟨y, List.mem_of_mem_take hy, he⟩
set_option maxRecDepth 100000 in
set_option maxHeartbeats 2000000 in
theorem areRegs_any (A : Option Addr) (c : Nat) (l : List Rg) (w : World) (hl : Rgs w A l) (hm : l.length ≤ maxLen) :
    Calls Tryd.prog 25 #[.slice A l.length c] w fun e w' => e = .returned (.bool (regsB l)) ∧ Below w.heap.size w w' := by
  unfold maxLen at hm
  by_cases h16 : l.length ≤ 16
  · have hgt : decide ((16 : Int) < l.length) = false := decide_eq_false (by omega)
    have hf : regsB l = okTo l l.length := by unfold regsB; rw [decide_eq_true h16, Bool.true_and]
    have HF := Lib.hid hf
    have HL := Lib.hid hl
    clear hl hf
    go_enter Tryd.func25, Tryd.ntmps25
    go_wp2_with (fail)
    go_loopw [10] (fun i wr => ∃ k : Nat, k ≤ l.length ∧ i = .int .i64 k ∧ Hid (okTo l k = true) ∧ Hid (Below w.heap.size w wr)) (fun i _ => l.length - (intOf i).toNat)
    case atStart => exact ⟨0, Nat.zero_le _, rfl, Lib.hid rfl, Lib.hid (Below.refl _ _)⟩
    case round =>
      obtain ⟨k, hk, rfl, HK, HB⟩ := hrel
      by_cases hlt : k < l.length
      · obtain ⟨b, o, x, rfl, hx, hz, c0, c1⟩ := ((HL.out.below HB.out).at_ hlt)
        have HX := Lib.hid hx
        have HZ := Lib.hid hz
        have hat : okAt l k = ((x.k != 0 && nameB x.h) && !regB (l.take k) x.h) := by unfold okAt; rw [hx]
        have HA := Lib.hid hat
        obtain ⟨g1, g2, g3⟩ := rg_box wr x _ rfl
        have HBx := Lib.hid g1; have HB2 := Lib.hid (HB.out.trans (g2.mono HB.out.size)); have HL2 := Lib.hid ((HL.out.below HB.out).below g2)
        clear g1 g2 g3 hx hz hat
        go_upto_region 6 with (fail)
        change Code.wp _ _ _ _ (wr.alloc (.cells (regC x) 48))
        generalize wr.alloc (.cells (regC x) 48) = w2 at *
        have k0 : w2.cell? ⟨wr.heap.size, 0, none⟩ = some (.string x.h) := HBx.out.cell 0
        have k1 : w2.cell? ⟨wr.heap.size, 1, none⟩ = some (.int .u64 x.k) := HBx.out.cell 1
        clear c0 c1
        have hnt := not_true
        have hnf := not_false
        cases hz : (x.k == 0) with
        | true =>
          have HO := Lib.hid (show okAt l k = false by rw [HA.out]; simp [bne, hz])
          clear HA
          go_wp2_with (fail)
          go_ret
          exact ⟨by rw [HF.out, okTo_no HO.out _ hlt]; rfl, HB2.out⟩
        | false =>
          have HN := Lib.hid (name_any x.h w2 HZ.out)
          cases hn : nameB x.h with
          | false =>
            rw [hn] at HN HA
            have HO := Lib.hid (show okAt l k = false by rw [HA.out]; simp)
            clear HA hn
            go_wp2_with (fail)
            refine HN.out.mono ?_; rintro e w3 ⟨rfl, hb3⟩
            have HB3 := Lib.hid (HB2.out.trans (hb3.mono HB2.out.size))
            clear hb3
            go_wp2_with (fail)
            go_ret
            exact ⟨by rw [HF.out, okTo_no HO.out _ hlt]; rfl, HB3.out⟩
          | true =>
            rw [hn] at HN HA
            have HI := Lib.hid (fun v (hb : Below w2.heap.size w2 v) => indexOf_any (some ⟨b, o, none⟩) c l x.h v (HL2.out.below hb) (by unfold maxLen; omega))
            cases hr : regB (l.take k) x.h with
            | true =>
              obtain ⟨i, hi, hik⟩ := findQ_less HX.out hr
              rw [hi] at HI
              have HO := Lib.hid (show okAt l k = false by rw [HA.out, hr]; simp)
              have hik2 : (i : Int) < k := by omega
              clear HA hn hr hi
              go_wp2_with (fail)
              refine HN.out.mono ?_; rintro e w3 ⟨rfl, hb3⟩
              have HB3 := Lib.hid (HB2.out.trans (hb3.mono HB2.out.size)); have HBx3 := Lib.hid (HBx.out.below hb3 HBx.out.lt)
              have k03 : w3.cell? ⟨wr.heap.size, 0, none⟩ = some (.string x.h) := HBx3.out.cell 0
              have HI3 := Lib.hid (HI.out w3 hb3)
              clear hb3 k0 k1
              go_wp2_with (fail)
              refine HI3.out.mono ?_; rintro e w4 ⟨rfl, hb4⟩
              have HB4 := Lib.hid (HB3.out.trans (hb4.mono HB3.out.size))
              clear hb4 k03
              go_wp2_with (fail)
              go_ret
              exact ⟨by rw [HF.out, okTo_no HO.out _ hlt]; rfl, HB4.out⟩
            | false =>
              rw [findIdx_self HX.out hr] at HI
              have HO := Lib.hid (show okAt l k = true by rw [HA.out, hr]; simp [bne, hz])
              clear HA hn hr
              go_wp2_with (fail)
              refine HN.out.mono ?_; rintro e w3 ⟨rfl, hb3⟩
              have HB3 := Lib.hid (HB2.out.trans (hb3.mono HB2.out.size)); have HBx3 := Lib.hid (HBx.out.below hb3 HBx.out.lt)
              have k03 : w3.cell? ⟨wr.heap.size, 0, none⟩ = some (.string x.h) := HBx3.out.cell 0
              have HI3 := Lib.hid (HI.out w3 hb3)
              clear hb3 k0 k1
              go_wp2_with (fail)
              refine HI3.out.mono ?_; rintro e w4 ⟨rfl, hb4⟩
              have HB4 := Lib.hid (HB3.out.trans (hb4.mono HB3.out.size))
              clear hb4 k03
              go_wp2_with (fail)
              go_roundw
              case rel => exact ⟨k + 1, by omega, by go_num, Lib.hid (by show (okTo l k && okAt l k) = true; rw [HK.out, HO.out]; rfl), HB4⟩
              case measure => simp [intOf]; omega
      · obtain rfl : k = l.length := by omega
        go_wp2_with (fail)
        go_ret
        exact ⟨by rw [HF.out, HK.out]; rfl, HB.out⟩
  · have hgt : decide ((16 : Int) < l.length) = true := decide_eq_true (by omega)
    have HF := Lib.hid (show regsB l = false by unfold regsB; rw [decide_eq_false h16]; rfl)
    clear hl
    go_enter Tryd.func25, Tryd.ntmps25
    go_wp2_with (fail)
    go_ret
    exact ⟨by rw [HF.out]; rfl, Below.refl _ _⟩
end Go.Proofs.YthedonkjnfeajaaDoor
