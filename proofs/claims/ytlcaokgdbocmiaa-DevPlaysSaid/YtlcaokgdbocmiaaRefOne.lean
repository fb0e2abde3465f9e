/- The document's device: the small methods. -/
import Derived.Test.YtlcaokgdbocmiaaDevHold
namespace Go.Proofs.Ytlcaokgdbocmiaa
open Go.RowKit
theorem Rf.good {w : World} {F : Nat → Prop} {p n : Nat} {x : St} (h : Rf w F p n x) : x.Good n := by
  obtain ⟨br, cr, bs, cs, hv, hb, hp⟩ := h
  exact hp.good
theorem rsize_nil (w : World) : Calls Try.prog 11 #[.pointer none] w fun e w' => e = .returned (.int .i64 0) ∧ w = w' := by
  go_enter Try.func11, Try.ntmps11
  go_wp2
  go_ret
  exact ⟨rfl, rfl⟩
theorem rsize_any (w : World) {F : Nat → Prop} {p n : Nat} {x : St} (h : Rf w F p n x) : Calls Try.prog 11 #[.pointer (some ⟨p, 0, none⟩)] w fun e w' => e = .returned (.int .i64 (n : Int)) ∧ w = w' := by
  obtain ⟨br, cr, bs, cs, hv, hb, hp⟩ := h
  have h2 : w.cell? ⟨p, 1, none⟩ = some (.slice (some ⟨br, 0, none⟩) n cr) := hb.cell 1
  clear hb hp
  go_enter Try.func11, Try.ntmps11
  go_wp2
  go_ret
  exact ⟨rfl, rfl⟩
theorem rops_nil (w : World) : Calls Try.prog 26 #[.pointer none] w fun e w' => e = .returned (.int .i64 0) ∧ w = w' := by
  go_enter Try.func26, Try.ntmps26
  go_wp2
  go_ret
  exact ⟨rfl, rfl⟩
theorem rops_any (w : World) {F : Nat → Prop} {p n : Nat} {x : St} (h : Rf w F p n x) : Calls Try.prog 26 #[.pointer (some ⟨p, 0, none⟩)] w fun e w' => e = .returned (.int .i64 (x.ops : Int)) ∧ w = w' := by
  obtain ⟨br, cr, bs, cs, hv, hb, hp⟩ := h
  have h2 : w.cell? ⟨p, 3, none⟩ = some (.int .i64 (x.ops : Int)) := hb.cell 3
  clear hb hp
  go_enter Try.func26, Try.ntmps26
  go_wp2
  go_ret
  exact ⟨rfl, rfl⟩
theorem rdown_nil (w : World) : Calls Try.prog 28 #[.pointer none] w fun e w' => e = .returned (.bool false) ∧ w = w' := by
  go_enter Try.func28, Try.ntmps28
  go_wp2
  go_ret
  exact ⟨rfl, rfl⟩
theorem rdown_any (w : World) {F : Nat → Prop} {p n : Nat} {x : St} (h : Rf w F p n x) : Calls Try.prog 28 #[.pointer (some ⟨p, 0, none⟩)] w fun e w' => e = .returned (.bool x.down) ∧ w = w' := by
  obtain ⟨br, cr, bs, cs, hv, hb, hp⟩ := h
  have h2 : w.cell? ⟨p, 6, none⟩ = some (.bool x.down) := hb.cell 6
  clear hb hp
  go_enter Try.func28, Try.ntmps28
  go_wp2
  go_ret
  exact ⟨rfl, rfl⟩
theorem rheld_nil (w : World) : Calls Try.prog 30 #[.pointer none] w fun e w' => e = .returned (.int .i64 0) ∧ w = w' := by
  go_enter Try.func30, Try.ntmps30
  go_wp2
  go_ret
  exact ⟨rfl, rfl⟩
theorem rheld_any (w : World) {F : Nat → Prop} {p n : Nat} {x : St} (h : Rf w F p n x) : Calls Try.prog 30 #[.pointer (some ⟨p, 0, none⟩)] w fun e w' => e = .returned (.int .i64 (x.held.length : Int)) ∧ w = w' := by
  obtain ⟨br, cr, bs, cs, hv, hb, hp⟩ := h
  obtain ⟨A, c, rfl⟩ := own_form hp.held
  have h2 : w.cell? ⟨p, 2, none⟩ = some (.slice A x.held.length c) := hb.cell 2
  clear hb hp
  go_enter Try.func30, Try.ntmps30
  go_wp2
  go_ret
  exact ⟨rfl, rfl⟩
/-- Whether k sectors from i on are there. -/
def St.there (n : Nat) (i k : Int) : Bool := !(decide (i < 0) || decide (k < 0) || decide ((n : Int) - i < k))
theorem there_yes {n : Nat} {i k : Int} (h : ¬ (i < 0 ∨ k < 0 ∨ (n : Int) - i < k)) : St.there n i k = true := by unfold St.there; simp; omega
theorem there_no {n : Nat} {i k : Int} (h : i < 0 ∨ k < 0 ∨ (n : Int) - i < k) : St.there n i k = false := by
  unfold St.there
  rcases h with h | h | h <;> simp [h]
theorem there_any (w : World) {F : Nat → Prop} {p n : Nat} {x : St} (h : Rf w F p n x) (i k : Int) :
    Calls Try.prog 40 #[.pointer (some ⟨p, 0, none⟩), .int .i64 i, .int .i64 k] w fun e w' => e = .returned (.bool (St.there n i k)) ∧ w = w' := by
  have hn := h.good.most
  obtain ⟨br, cr, bs, cs, hv, hb, hp⟩ := h
  have h2 : w.cell? ⟨p, 1, none⟩ = some (.slice (some ⟨br, 0, none⟩) n cr) := hb.cell 1
  clear hb hp
  by_cases h1 : i < 0
  · have HW := Lib.hid (there_no (n := n) (i := i) (k := k) (.inl h1))
    have hx : decide (0 ≤ i) = false := by simp; omega
    go_enter Try.func40, Try.ntmps40
    go_wp2
    go_ret
    exact ⟨by rw [HW.out]; rfl, rfl⟩
  · by_cases h3 : k < 0
    · have HW := Lib.hid (there_no (n := n) (i := i) (k := k) (.inr (.inl h3)))
      have hx : decide (0 ≤ i) = true := by simp; omega
      have hy : decide (0 ≤ k) = false := by simp; omega
      go_enter Try.func40, Try.ntmps40
      go_wp2
      go_ret
      exact ⟨by rw [HW.out]; rfl, rfl⟩
    · by_cases h4 : i ≤ (n : Int)
      · by_cases h5 : k ≤ (n : Int) - i
        · have HW := Lib.hid (there_yes (n := n) (i := i) (k := k) (by omega))
          go_enter Try.func40, Try.ntmps40
          go_wp2
          go_ret
          exact ⟨by rw [HW.out]; rfl, rfl⟩
        · have HW := Lib.hid (there_no (n := n) (i := i) (k := k) (.inr (.inr (by omega))))
          have hx : decide (k ≤ (n : Int) - i) = false := by simp; omega
          go_enter Try.func40, Try.ntmps40
          go_wp2
          go_ret
          exact ⟨by rw [HW.out]; rfl, rfl⟩
      · have HW := Lib.hid (there_no (n := n) (i := i) (k := k) (.inr (.inr (by omega))))
        have hx : decide (i ≤ (n : Int)) = false := by simp; omega
        go_enter Try.func40, Try.ntmps40
        go_wp2
        go_ret
        exact ⟨by rw [HW.out]; rfl, rfl⟩
theorem one_down (w : World) {F : Nat → Prop} {p n : Nat} {x : St} (h : Rf w F p n x) (hd : x.down = true) :
    Calls Try.prog 41 #[.pointer (some ⟨p, 0, none⟩)] w fun e w' => e = .returned (.bool false) ∧ w = w' := by
  obtain ⟨br, cr, bs, cs, hv, hb, hp⟩ := h
  have h6 : w.cell? ⟨p, 6, none⟩ = some (.bool true) := by rw [← hd]; exact hb.cell 6
  clear hb hp hd
  go_enter Try.func41, Try.ntmps41
  go_wp2
  go_ret
  exact ⟨rfl, rfl⟩
theorem one_due (w : World) {F : Nat → Prop} {p n : Nat} {x : St} (h : Rf w F p n x) (hdn : x.down = false) (hd : x.due = true) :
    Calls Try.prog 41 #[.pointer (some ⟨p, 0, none⟩)] w fun e w' => e = .returned (.bool false) ∧ Rf w' F p n x.fall ∧ Only F w w' := by
  obtain ⟨br, cr, bs, cs, hv, hb, hp⟩ := h
  obtain ⟨ha, hl⟩ : x.armed = true ∧ x.left = 0 := by unfold St.due at hd; simpa using hd
  have h4 : w.cell? ⟨p, 4, none⟩ = some (.bool true) := by rw [← ha]; exact hb.cell 4
  have h5 : w.cell? ⟨p, 5, none⟩ = some (.int .i64 0) := by have := hb.cell 5; simpa [refCells, hl] using this
  have h6 : w.cell? ⟨p, 6, none⟩ = some (.bool false) := by rw [← hdn]; exact hb.cell 6
  have f6 := hb.free 6
  have HP := Lib.hid (show Rf _ F p n x.fall ∧ Only F w _ from rf_turn hb hp (only_put w p 6 (.bool true)) (hb.put 6 (.bool true)) rfl rfl (good_fall hp.good))
  clear hb hp ha hl hd hdn
  go_enter Try.func41, Try.ntmps41
  go_wp2
  go_ret
  exact ⟨rfl, HP.out⟩
theorem one_ok (w : World) {F : Nat → Prop} {p n : Nat} {x : St} (h : Rf w F p n x) (hdn : x.down = false) (hd : x.due = false) (hk : x.ops ≤ 1099511627776) :
    Calls Try.prog 41 #[.pointer (some ⟨p, 0, none⟩)] w fun e w' => e = .returned (.bool true) ∧ Rf w' F p n x.oped ∧ Only F w w' := by
  obtain ⟨br, cr, bs, cs, hv, hb, hp⟩ := h
  have h0 : w.cell? ⟨p, 3, none⟩ = some (.int .i64 (x.ops : Int)) := hb.cell 3
  have h6 : w.cell? ⟨p, 6, none⟩ = some (.bool false) := by rw [← hdn]; exact hb.cell 6
  have f0 := hb.free 3
  have f5 := hb.free 5
  cases ha : x.armed with
  | false =>
    have h4 : w.cell? ⟨p, 4, none⟩ = some (.bool false) := by rw [← ha]; exact hb.cell 4
    have hb' : Blk (w.setCell ⟨p, 3, none⟩ (.int .i64 ((x.ops : Int) + 1))) p 67 (refCells n x.oped br cr bs cs hv) := by
      have := hb.put 3 (.int .i64 ((x.ops : Int) + 1))
      simpa [refCells, St.oped, ha] using this
    have HP := Lib.hid (rf_turn hb hp (only_put w p 3 (.int .i64 ((x.ops : Int) + 1))) hb' rfl rfl (good_oped hp.good))
    clear hb hb' hp ha hd hdn
    go_enter Try.func41, Try.ntmps41
    go_wp2
    go_ret
    exact ⟨rfl, HP.out⟩
  | true =>
    have hl : 0 < x.left := by
      unfold St.due at hd
      rw [ha] at hd
      simp at hd
      omega
    have hl9 := hp.good.left
    have h4 : w.cell? ⟨p, 4, none⟩ = some (.bool true) := by rw [← ha]; exact hb.cell 4
    have h5 : w.cell? ⟨p, 5, none⟩ = some (.int .i64 (x.left : Int)) := hb.cell 5
    have hb1 := hb.put 5 (.int .i64 ((x.left : Int) - 1))
    have hb' : Blk ((w.setCell ⟨p, 5, none⟩ (.int .i64 ((x.left : Int) - 1))).setCell ⟨p, 3, none⟩ (.int .i64 ((x.ops : Int) + 1))) p 67 (refCells n x.oped br cr bs cs hv) := by
      have := hb1.put 3 (.int .i64 ((x.ops : Int) + 1))
      have e : ((x.left - 1 : Nat) : Int) = (x.left : Int) - 1 := by omega
      simpa [refCells, St.oped, ha, e] using this
    have HP := Lib.hid (rf_turn hb hp ((only_put w p 5 (.int .i64 ((x.left : Int) - 1))).put 3 (.int .i64 ((x.ops : Int) + 1))) hb' rfl rfl (good_oped hp.good))
    have hne : ((x.left : Int) == 0) = false := by simp; omega
    clear hb hb1 hb' hp ha hd hdn
    go_enter Try.func41, Try.ntmps41
    go_wp2
    go_ret
    exact ⟨rfl, HP.out⟩
theorem rarm_nil (w : World) (k : Int) : Calls Try.prog 21 #[.pointer none, .int .i64 k] w fun e w' => e = .returned (.tuple #[]) ∧ w = w' := by
  go_enter Try.func21, Try.ntmps21
  go_wp2
  go_end0
  exact ⟨rfl, rfl⟩
theorem rarm_any (w : World) {F : Nat → Prop} {p n : Nat} {x : St} (h : Rf w F p n x) (k : Int) (hk : k ≤ 9223372036854775807) :
    Calls Try.prog 21 #[.pointer (some ⟨p, 0, none⟩), .int .i64 k] w fun e w' => e = .returned (.tuple #[]) ∧ Rf w' F p n (x.arm k) ∧ Only F w w' := by
  obtain ⟨br, cr, bs, cs, hv, hb, hp⟩ := h
  have h4 : w.cell? ⟨p, 4, none⟩ = some (.bool x.armed) := hb.cell 4
  have h5 : w.cell? ⟨p, 5, none⟩ = some (.int .i64 (x.left : Int)) := hb.cell 5
  have f4 := hb.free 4
  have f5 := hb.free 5
  have hb' : Blk ((w.setCell ⟨p, 4, none⟩ (.bool true)).setCell ⟨p, 5, none⟩ (.int .i64 (max k 0))) p 67 (refCells n (x.arm k) br cr bs cs hv) := by
    have := (hb.put 4 (.bool true)).put 5 (.int .i64 (max k 0))
    have e : (((max k 0).toNat : Nat) : Int) = max k 0 := by omega
    simpa [refCells, St.arm, e] using this
  have HP := Lib.hid (rf_turn hb hp ((only_put w p 4 (.bool true)).put 5 (.int .i64 (max k 0))) hb' rfl rfl (good_arm hp.good k hk))
  clear hb hb' hp
  by_cases h0 : 0 ≤ k
  · rw [show max k 0 = k by omega] at HP
    go_enter Try.func21, Try.ntmps21
    go_wp2
    go_end0
    exact ⟨rfl, HP.out⟩
  · rw [show max k 0 = 0 by omega] at HP
    go_enter Try.func21, Try.ntmps21
    go_wp2
    go_end0
    exact ⟨rfl, HP.out⟩
end Go.Proofs.Ytlcaokgdbocmiaa
