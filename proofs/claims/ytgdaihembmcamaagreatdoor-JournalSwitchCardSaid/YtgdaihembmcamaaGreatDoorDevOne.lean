/- An operation of a device: counted, or the device goes down; arming. -/
import Derived.Test.YtgdaihembmcamaaGreatDoorDevObj
namespace Go.Proofs.YtgdaihembmcamaaGreatDoor
open Go.RowKit
def its (p : Nat) : Nat → Prop := fun k => k = p
theorem Parts.turn {w w' : World} {F : Nat → Prop} {E T : TypeId} {n : Nat} {x x' : St} {p br cr bs cs : Nat} {hv : Value} {cells : Array Value} (hb : Blk w p T cells) (hT : 9 ≠ T) (hE : E ≠ T)
    (hp : Parts w F E n x p br cr bs cs hv) (ho : Only (its p) w w') (hs : x'.safe = x.safe) (hh : x'.held = x.held) (hg : x'.Good n) : Parts w' F E n x' p br cr bs cs hv := by
  have h1 : br ≠ p := hp.seen.type hb hT
  have h2 : bs ≠ p := hp.safe.type hb hT
  have h3 := own_apart hp.held hb hE
  have e : x'.seen = x.seen := by unfold St.seen; rw [hs, hh]
  have hk : ∀ k, F k → k ≠ p → w'.heap[k]? = w.heap[k]? := fun k hk hne => ho.block k (hp.lt k hk) hne
  refine ⟨by rw [e]; exact hp.seen.keep (hk _ hp.fr h1), by rw [hs]; exact hp.safe.keep (hk _ hp.fs h2), hp.apart, by rw [hh]; exact own_keep hp.held fun g hg => hk _ (hp.fh g hg) (fun e => h3 (by rw [hg, e])), hp.fp, hp.fr, hp.fs, hp.fh, fun k hk' => Nat.lt_of_lt_of_le (hp.lt k hk') ho.size, hg⟩
theorem dv_turn {w w' : World} {F : Nat → Prop} {n : Nat} {x x' : St} {p br cr bs cs : Nat} {hv : Value} (hb : Blk w p 80 (devCells n x br cr bs cs hv)) (hp : Parts w F 86 n x p br cr bs cs hv)
    (ho : Only (its p) w w') (hb' : Blk w' p 80 (devCells n x' br cr bs cs hv)) (hs : x'.safe = x.safe) (hh : x'.held = x.held) (hg : x'.Good n) : Dv w' F p n x' ∧ Only F w w' :=
  ⟨⟨br, cr, bs, cs, hv, hb', hp.turn hb (by decide) (by decide) ho hs hh hg⟩, ho.mono fun k hk => by unfold its at hk; rw [hk]; exact hp.fp⟩
theorem only_put (w : World) (p i : Nat) (u : Value) : Only (its p) w (w.setCell ⟨p, i, none⟩ u) := (Only.refl (its p) w).setCell (.inl (show its p p from rfl)) u
theorem Only.put {a w : World} {p : Nat} (h : Only (its p) a w) (i : Nat) (u : Value) : Only (its p) a (w.setCell ⟨p, i, none⟩ u) := h.setCell (.inl (show its p p from rfl)) u
theorem operate_due (w : World) {F : Nat → Prop} {p n : Nat} {x : St} (h : Dv w F p n x) (hd : x.due = true) :
    Calls Tryz.prog 42 #[.pointer (some ⟨p, 0, none⟩)] w fun e w' => e = .returned (.bool false) ∧ Dv w' F p n x.fall ∧ Only F w w' := by
  obtain ⟨br, cr, bs, cs, hv, hb, hp⟩ := h
  obtain ⟨ha, hl⟩ : x.armed = true ∧ x.left = 0 := by unfold St.due at hd; simpa using hd
  have h4 : w.cell? ⟨p, 4, none⟩ = some (.bool true) := by rw [← ha]; exact hb.cell 4
  have h5 : w.cell? ⟨p, 5, none⟩ = some (.int .i64 0) := by have := hb.cell 5; simpa [devCells, hl] using this
  have h6 : w.cell? ⟨p, 6, none⟩ = some (.bool x.down) := hb.cell 6
  have f6 := hb.free 6
  have HP := Lib.hid (show Dv _ F p n x.fall ∧ Only F w _ from dv_turn hb hp (only_put w p 6 (.bool true)) (hb.put 6 (.bool true)) rfl rfl (good_fall hp.good))
  clear hb hp ha hl hd
  go_enter Tryz.func42, Tryz.ntmps42
  go_wp2
  go_ret
  exact ⟨rfl, HP.out⟩
theorem operate_ok (w : World) {F : Nat → Prop} {p n : Nat} {x : St} (h : Dv w F p n x) (hd : x.due = false) (hk : x.ops ≤ 1099511627776) :
    Calls Tryz.prog 42 #[.pointer (some ⟨p, 0, none⟩)] w fun e w' => e = .returned (.bool true) ∧ Dv w' F p n x.oped ∧ Only F w w' := by
  obtain ⟨br, cr, bs, cs, hv, hb, hp⟩ := h
  have h0 : w.cell? ⟨p, 0, none⟩ = some (.int .i64 (x.ops : Int)) := hb.cell 0
  have f0 := hb.free 0
  have f5 := hb.free 5
  cases ha : x.armed with
  | false =>
    have h4 : w.cell? ⟨p, 4, none⟩ = some (.bool false) := by rw [← ha]; exact hb.cell 4
    have hb' : Blk (w.setCell ⟨p, 0, none⟩ (.int .i64 ((x.ops : Int) + 1))) p 80 (devCells n x.oped br cr bs cs hv) := by
      have := hb.put 0 (.int .i64 ((x.ops : Int) + 1))
      simpa [devCells, St.oped, ha] using this
    have HP := Lib.hid (dv_turn hb hp (only_put w p 0 (.int .i64 ((x.ops : Int) + 1))) hb' rfl rfl (good_oped hp.good))
    clear hb hb' hp ha hd
    go_enter Tryz.func42, Tryz.ntmps42
    go_wp2_with (go_at_call 64; refine (add_any _ _ _ h0 f0 hk).mono ?_; rintro e w' ⟨rfl, rfl⟩)
    go_ret
    exact ⟨rfl, HP.out⟩
  | true =>
    have hl : 0 < x.left := by
      unfold St.due at hd
      rw [ha] at hd
      simp at hd
      omega
    have hl9 := hp.good.left
    have h4 : w.cell? ⟨p, 4, none⟩ = some (.bool true) := by rw [← ha]; exact hb.cell 4
    have h5 : w.cell? ⟨p, 5, none⟩ = some (.int .i64 (x.left : Int)) := hb.cell 5
    have hb1 := hb.put 5 (.int .i64 ((x.left : Int) - 1))
    have h0' : (w.setCell ⟨p, 5, none⟩ (.int .i64 ((x.left : Int) - 1))).cell? ⟨p, 0, none⟩ = some (.int .i64 (x.ops : Int)) := hb1.cell 0
    have f0' := hb1.free 0
    have hb' : Blk ((w.setCell ⟨p, 5, none⟩ (.int .i64 ((x.left : Int) - 1))).setCell ⟨p, 0, none⟩ (.int .i64 ((x.ops : Int) + 1))) p 80 (devCells n x.oped br cr bs cs hv) := by
      have := hb1.put 0 (.int .i64 ((x.ops : Int) + 1))
      have e : ((x.left - 1 : Nat) : Int) = (x.left : Int) - 1 := by omega
      simpa [devCells, St.oped, ha, e] using this
    have HP := Lib.hid (dv_turn hb hp ((only_put w p 5 (.int .i64 ((x.left : Int) - 1))).put 0 (.int .i64 ((x.ops : Int) + 1))) hb' rfl rfl (good_oped hp.good))
    have hne : ((x.left : Int) == 0) = false := by simp; omega
    clear hb hb1 hb' hp ha hd
    go_enter Tryz.func42, Tryz.ntmps42
    go_wp2_with (go_at_call 64; refine (add_any _ _ _ h0' f0' hk).mono ?_; rintro e w' ⟨rfl, rfl⟩)
    go_ret
    exact ⟨rfl, HP.out⟩
theorem arm_nil (w : World) (k : Int) : Calls Tryz.prog 30 #[.pointer none, .int .i64 k] w fun e w' => e = .returned (.tuple #[]) ∧ w = w' := by
  go_enter Tryz.func30, Tryz.ntmps30
  go_wp2
  refine bodyPost_ret (results_none rfl _ _ _) rfl ?_
  exact ⟨rfl, rfl⟩
theorem arm_any (w : World) {F : Nat → Prop} {p n : Nat} {x : St} (h : Dv w F p n x) (k : Int) (hk : k ≤ 9223372036854775807) :
    Calls Tryz.prog 30 #[.pointer (some ⟨p, 0, none⟩), .int .i64 k] w fun e w' => e = .returned (.tuple #[]) ∧ Dv w' F p n (x.arm k) ∧ Only F w w' := by
  obtain ⟨br, cr, bs, cs, hv, hb, hp⟩ := h
  have h4 : w.cell? ⟨p, 4, none⟩ = some (.bool x.armed) := hb.cell 4
  have h5 : w.cell? ⟨p, 5, none⟩ = some (.int .i64 (x.left : Int)) := hb.cell 5
  have f4 := hb.free 4
  have f5 := hb.free 5
  have hb' : Blk ((w.setCell ⟨p, 4, none⟩ (.bool true)).setCell ⟨p, 5, none⟩ (.int .i64 (max k 0))) p 80 (devCells n (x.arm k) br cr bs cs hv) := by
    have := (hb.put 4 (.bool true)).put 5 (.int .i64 (max k 0))
    have e : (((max k 0).toNat : Nat) : Int) = max k 0 := by omega
    simpa [devCells, St.arm, e] using this
  have HP := Lib.hid (dv_turn hb hp ((only_put w p 4 (.bool true)).put 5 (.int .i64 (max k 0))) hb' rfl rfl (good_arm hp.good k hk))
  clear hb hb' hp
  by_cases h0 : 0 ≤ k
  · rw [show max k 0 = k by omega] at HP
    go_enter Tryz.func30, Tryz.ntmps30
    go_wp2
    go_end0
    exact ⟨rfl, HP.out⟩
  · rw [show max k 0 = 0 by omega] at HP
    go_enter Tryz.func30, Tryz.ntmps30
    go_wp2
    go_end0
    exact ⟨rfl, HP.out⟩
end Go.Proofs.YtgdaihembmcamaaGreatDoor
