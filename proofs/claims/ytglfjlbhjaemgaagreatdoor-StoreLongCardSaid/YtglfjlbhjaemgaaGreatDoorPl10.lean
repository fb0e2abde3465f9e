/- Devices in memory: the program's and the document's; the small methods. An operation of a device: counted, or the device goes down; arming. -/
import Derived.Test.YtglfjlbhjaemgaaGreatDoorRows
import Derived.Test.YtglfjlbhjaemgaaGreatDoorPl02
import Derived.WalkKit
import Derived.WalkSpells
import Derived.WalkLawsBesides
import Derived.IntWalk
import Derived.Deep.QuietTactic
import Derived.BigQuiet
import Derived.Deep.Cut
import Derived.Laws.CopyOwn
import Derived.Laws.LoneSync
import Derived.BigRegion
import Derived.Outline
import Derived.StillTailTactics
namespace Go.Proofs.YtglfjlbhjaemgaaGreatDoor
open Go.RowKit
/-- What of a device lies beside its own block: what is seen (br), what is safe (bs), what is held back (hv). F: the blocks that are its own. -/
structure Parts (w : World) (F : Nat → Prop) (E : TypeId) (n : Nat) (x : St) (p br cr bs cs : Nat) (hv : Value) : Prop where
  seen : Txts w 9 br cr x.seen
  safe : Txts w 9 bs cs x.safe
  apart : br ≠ bs
  held : w.ownsRow 0 E 2 hv x.held.length (heldCells x.held)
  fp : F p
  fr : F br
  fs : F bs
  fh : ∀ g, hv.ownBlock = some g → F g
  lt : ∀ k, F k → k < w.heap.size
  good : x.Good n
def devCells (n : Nat) (x : St) (br cr bs cs : Nat) (hv : Value) : Array Value :=
  #[.int .i64 (x.ops : Int), .slice (some ⟨br, 0, none⟩) n cr, .slice (some ⟨bs, 0, none⟩) n cs, hv, .bool x.armed, .int .i64 (x.left : Int), .bool x.down]
/-- The program's device at block p. -/
def Dv (w : World) (F : Nat → Prop) (p n : Nat) (x : St) : Prop :=
  ∃ br cr bs cs hv, Blk w p 112 (devCells n x br cr bs cs hv) ∧ Parts w F 153 n x p br cr bs cs hv
theorem Parts.keep {w w' : World} {F : Nat → Prop} {E : TypeId} {n : Nat} {x : St} {p br cr bs cs : Nat} {hv : Value} (h : Parts w F E n x p br cr bs cs hv)
    (hk : ∀ k, F k → w'.heap[k]? = w.heap[k]?) (hs : w.heap.size ≤ w'.heap.size) : Parts w' F E n x p br cr bs cs hv :=
  ⟨h.seen.keep (hk _ h.fr), h.safe.keep (hk _ h.fs), h.apart, own_keep h.held fun g hg => hk _ (h.fh g hg), h.fp, h.fr, h.fs, h.fh, fun k hk' => Nat.lt_of_lt_of_le (h.lt k hk') hs, h.good⟩
theorem Dv.keep {w w' : World} {F S : Nat → Prop} {p n : Nat} {x : St} (h : Dv w F p n x) (ho : Only S w w') (hd : ∀ k, F k → ¬ S k) : Dv w' F p n x := by
  obtain ⟨br, cr, bs, cs, hv, hb, hp⟩ := h
  exact ⟨br, cr, bs, cs, hv, hb.only ho (hd _ hp.fp), hp.keep (fun k hk => ho.block k (hp.lt k hk) (hd k hk)) ho.size⟩
theorem Dv.good {w : World} {F : Nat → Prop} {p n : Nat} {x : St} (h : Dv w F p n x) : x.Good n := by
  obtain ⟨br, cr, bs, cs, hv, hb, hp⟩ := h
  exact hp.good
theorem Dv.lt {w : World} {F : Nat → Prop} {p n : Nat} {x : St} (h : Dv w F p n x) : ∀ k, F k → k < w.heap.size := by
  obtain ⟨br, cr, bs, cs, hv, hb, hp⟩ := h
  exact hp.lt
theorem size_any (w : World) {F : Nat → Prop} {p n : Nat} {x : St} (h : Dv w F p n x) : Calls Tryz.prog 62 #[.pointer (some ⟨p, 0, none⟩)] w fun e w' => e = .returned (.int .i64 (n : Int)) ∧ w = w' := by
  obtain ⟨br, cr, bs, cs, hv, hb, hp⟩ := h
  have h2 : w.cell? ⟨p, 2, none⟩ = some (.slice (some ⟨bs, 0, none⟩) n cs) := hb.cell 2
  clear hb hp
  go_enter Tryz.func62, Tryz.ntmps62
  go_wp2
  go_ret
  exact ⟨rfl, rfl⟩
theorem wrap_op (k : Nat) (h : k ≤ 1099511627776) : (Op.intArith .add .i64 (k : Int) 1).run Tryz.prog = fun w => .ok (.int .i64 ((k : Int) + 1)) w := by
  funext w
  have : IntKind.i64.wrap ((k : Int) + 1) = (k : Int) + 1 := IntWalk.i64_in _ (by omega)
  simp [go_sem, this]
theorem add_any (w : World) (p k : Nat) (h : w.cell? ⟨p, 0, none⟩ = some (.int .i64 (k : Int))) (hz : w.frozen? ⟨p, 0, none⟩ = false) (hk : k ≤ 1099511627776) :
    Calls Tryz.prog 93 #[.pointer (some ⟨p, 0, none⟩), .int .i64 1] w fun e w' => e = .returned (.int .i64 ((k : Int) + 1)) ∧ w.setCell ⟨p, 0, none⟩ (.int .i64 ((k : Int) + 1)) = w' := by
  have ha := run_call_add (P := Tryz.prog) Tryz.func144 (by kernel_rfl) (by kernel_rfl) (by kernel_rfl) .i64 (by kernel_rfl) (y := 1) (s := (k : Int) + 1) h hz (by rw [wrap_op k hk])
  clear hk
  go_enter Tryz.func93, Tryz.ntmps93
  go_wp2
  go_ret
  exact ⟨rfl, rfl⟩
theorem down_any (w : World) {F : Nat → Prop} {p n : Nat} {x : St} (h : Dv w F p n x) : Calls Tryz.prog 52 #[.pointer (some ⟨p, 0, none⟩)] w fun e w' => e = .returned (.bool x.down) ∧ w = w' := by
  obtain ⟨br, cr, bs, cs, hv, hb, hp⟩ := h
  have h2 : w.cell? ⟨p, 6, none⟩ = some (.bool x.down) := hb.cell 6
  clear hb hp
  go_enter Tryz.func52, Tryz.ntmps52
  go_wp2
  go_ret
  exact ⟨rfl, rfl⟩
theorem own_form {w : World} {base : Nat} {e : TypeId} {size n : Nat} {v : Value} {xs : List Value} (h : w.ownsRow base e size v n xs) : ∃ A c, v = .slice A n c := by
  rcases h.2 with ⟨rfl, rfl⟩ | ⟨g, cap, cur, rfl, _⟩
  · exact ⟨_, _, rfl⟩
  · exact ⟨_, _, rfl⟩
/-- What keeps k sectors from i on from being read or written. -/
def St.why (x : St) (n : Nat) (i k : Int) : Int := if i < 0 ∨ k < 0 ∨ (n : Int) - i < k then 40 else if x.down then 41 else 0
theorem why_out {x : St} {n : Nat} {i k : Int} (h : i < 0 ∨ k < 0 ∨ (n : Int) - i < k) : x.why n i k = 40 := if_pos h
theorem why_down {x : St} {n : Nat} {i k : Int} (h : ¬ (i < 0 ∨ k < 0 ∨ (n : Int) - i < k)) (hd : x.down = true) : x.why n i k = 41 := by unfold St.why; rw [if_neg h, if_pos hd]
theorem why_ok {x : St} {n : Nat} {i k : Int} (h : ¬ (i < 0 ∨ k < 0 ∨ (n : Int) - i < k)) (hd : x.down = false) : x.why n i k = 0 := by unfold St.why; rw [if_neg h, if_neg (by simp [hd])]
theorem ready_any (w : World) {F : Nat → Prop} {p n : Nat} {x : St} (h : Dv w F p n x) (i k : Int) (hi : -9223372036854775808 ≤ i ∧ i ≤ 9223372036854775807) :
    Calls Tryz.prog 138 #[.pointer (some ⟨p, 0, none⟩), .int .i64 i, .int .i64 k] w fun e w' => e = .returned (.int .i64 (x.why n i k)) ∧ w = w' := by
  have hg := h.good
  have hn := hg.most
  have h6 : w.cell? ⟨p, 6, none⟩ = some (.bool x.down) := by obtain ⟨br, cr, bs, cs, hv, hb, hp⟩ := h; exact hb.cell 6
  clear hg
  by_cases h1 : i < 0
  · have HW := Lib.hid (why_out (x := x) (n := n) (k := k) (i := i) (.inl h1))
    go_enter Tryz.func138, Tryz.ntmps138
    go_wp2_with (go_at_call 62; refine (size_any _ h).mono ?_; rintro e w' ⟨rfl, rfl⟩)
    go_ret
    exact ⟨by rw [HW.out]; rfl, rfl⟩
  · by_cases h2 : k < 0
    · have HW := Lib.hid (why_out (x := x) (n := n) (k := k) (i := i) (.inr (.inl h2)))
      go_enter Tryz.func138, Tryz.ntmps138
      go_wp2_with (go_at_call 62; refine (size_any _ h).mono ?_; rintro e w' ⟨rfl, rfl⟩)
      go_ret
      exact ⟨by rw [HW.out]; rfl, rfl⟩
    · by_cases h3 : (n : Int) - i < k
      · have HW := Lib.hid (why_out (x := x) (n := n) (k := k) (i := i) (.inr (.inr h3)))
        go_enter Tryz.func138, Tryz.ntmps138
        go_wp2_with (go_at_call 62; refine (size_any _ h).mono ?_; rintro e w' ⟨rfl, rfl⟩)
        go_ret
        exact ⟨by rw [HW.out]; rfl, rfl⟩
      · have hno : ¬ (i < 0 ∨ k < 0 ∨ (n : Int) - i < k) := by omega
        cases hd : x.down with
        | true =>
          have HW := Lib.hid (why_down hno hd)
          rw [hd] at h6
          clear hd hno
          go_enter Tryz.func138, Tryz.ntmps138
          go_wp2_with (go_at_call 62; refine (size_any _ h).mono ?_; rintro e w' ⟨rfl, rfl⟩)
          go_ret
          exact ⟨by rw [HW.out]; rfl, rfl⟩
        | false =>
          have HW := Lib.hid (why_ok hno hd)
          rw [hd] at h6
          clear hd hno
          go_enter Tryz.func138, Tryz.ntmps138
          go_wp2_with (go_at_call 62; refine (size_any _ h).mono ?_; rintro e w' ⟨rfl, rfl⟩)
          go_ret
          exact ⟨by rw [HW.out]; rfl, rfl⟩
open Go.RowKit
def its (p : Nat) : Nat → Prop := fun k => k = p
theorem Parts.turn {w w' : World} {F : Nat → Prop} {E T : TypeId} {n : Nat} {x x' : St} {p br cr bs cs : Nat} {hv : Value} {cells : Array Value} (hb : Blk w p T cells) (hT : 9 ≠ T) (hE : E ≠ T)
    (hp : Parts w F E n x p br cr bs cs hv) (ho : Only (its p) w w') (hs : x'.safe = x.safe) (hh : x'.held = x.held) (hg : x'.Good n) : Parts w' F E n x' p br cr bs cs hv := by
  have h1 : br ≠ p := hp.seen.type hb hT
  have h2 : bs ≠ p := hp.safe.type hb hT
  have h3 := own_apart hp.held hb hE
  have e : x'.seen = x.seen := by unfold St.seen; rw [hs, hh]
  have hk : ∀ k, F k → k ≠ p → w'.heap[k]? = w.heap[k]? := fun k hk hne => ho.block k (hp.lt k hk) hne
  refine ⟨by rw [e]; exact hp.seen.keep (hk _ hp.fr h1), by rw [hs]; exact hp.safe.keep (hk _ hp.fs h2), hp.apart, by rw [hh]; exact own_keep hp.held fun g hg => hk _ (hp.fh g hg) (fun e => h3 (by rw [hg, e])), hp.fp, hp.fr, hp.fs, hp.fh, fun k hk' => Nat.lt_of_lt_of_le (hp.lt k hk') ho.size, hg⟩
theorem dv_turn {w w' : World} {F : Nat → Prop} {n : Nat} {x x' : St} {p br cr bs cs : Nat} {hv : Value} (hb : Blk w p 112 (devCells n x br cr bs cs hv)) (hp : Parts w F 153 n x p br cr bs cs hv)
    (ho : Only (its p) w w') (hb' : Blk w' p 112 (devCells n x' br cr bs cs hv)) (hs : x'.safe = x.safe) (hh : x'.held = x.held) (hg : x'.Good n) : Dv w' F p n x' ∧ Only F w w' :=
  ⟨⟨br, cr, bs, cs, hv, hb', hp.turn hb (by decide) (by decide) ho hs hh hg⟩, ho.mono fun k hk => by unfold its at hk; rw [hk]; exact hp.fp⟩
theorem only_put (w : World) (p i : Nat) (u : Value) : Only (its p) w (w.setCell ⟨p, i, none⟩ u) := (Only.refl (its p) w).setCell (.inl (show its p p from rfl)) u
theorem Only.put {a w : World} {p : Nat} (h : Only (its p) a w) (i : Nat) (u : Value) : Only (its p) a (w.setCell ⟨p, i, none⟩ u) := h.setCell (.inl (show its p p from rfl)) u
theorem operate_due (w : World) {F : Nat → Prop} {p n : Nat} {x : St} (h : Dv w F p n x) (hd : x.due = true) :
    Calls Tryz.prog 164 #[.pointer (some ⟨p, 0, none⟩)] w fun e w' => e = .returned (.bool false) ∧ Dv w' F p n x.fall ∧ Only F w w' := by
  obtain ⟨br, cr, bs, cs, hv, hb, hp⟩ := h
  obtain ⟨ha, hl⟩ : x.armed = true ∧ x.left = 0 := by unfold St.due at hd; simpa using hd
  have h4 : w.cell? ⟨p, 4, none⟩ = some (.bool true) := by rw [← ha]; exact hb.cell 4
  have h5 : w.cell? ⟨p, 5, none⟩ = some (.int .i64 0) := by have := hb.cell 5; simpa [devCells, hl] using this
  have h6 : w.cell? ⟨p, 6, none⟩ = some (.bool x.down) := hb.cell 6
  have f6 := hb.free 6
  have HP := Lib.hid (show Dv _ F p n x.fall ∧ Only F w _ from dv_turn hb hp (only_put w p 6 (.bool true)) (hb.put 6 (.bool true)) rfl rfl (good_fall hp.good))
  clear hb hp ha hl hd
  go_enter Tryz.func164, Tryz.ntmps164
  go_wp2
  go_ret
  exact ⟨rfl, HP.out⟩
theorem operate_ok (w : World) {F : Nat → Prop} {p n : Nat} {x : St} (h : Dv w F p n x) (hd : x.due = false) (hk : x.ops ≤ 1099511627776) :
    Calls Tryz.prog 164 #[.pointer (some ⟨p, 0, none⟩)] w fun e w' => e = .returned (.bool true) ∧ Dv w' F p n x.oped ∧ Only F w w' := by
  obtain ⟨br, cr, bs, cs, hv, hb, hp⟩ := h
  have h0 : w.cell? ⟨p, 0, none⟩ = some (.int .i64 (x.ops : Int)) := hb.cell 0
  have f0 := hb.free 0
  have f5 := hb.free 5
  cases ha : x.armed with
  | false =>
    have h4 : w.cell? ⟨p, 4, none⟩ = some (.bool false) := by rw [← ha]; exact hb.cell 4
    have hb' : Blk (w.setCell ⟨p, 0, none⟩ (.int .i64 ((x.ops : Int) + 1))) p 112 (devCells n x.oped br cr bs cs hv) := by
      have := hb.put 0 (.int .i64 ((x.ops : Int) + 1))
      simpa [devCells, St.oped, ha] using this
    have HP := Lib.hid (dv_turn hb hp (only_put w p 0 (.int .i64 ((x.ops : Int) + 1))) hb' rfl rfl (good_oped hp.good))
    clear hb hb' hp ha hd
    go_enter Tryz.func164, Tryz.ntmps164
    go_wp2_with (go_at_call 93; refine (add_any _ _ _ h0 f0 hk).mono ?_; rintro e w' ⟨rfl, rfl⟩)
    go_ret
    exact ⟨rfl, HP.out⟩
  | true =>
    have hl : 0 < x.left := by
      unfold St.due at hd
      rw [ha] at hd
      simp at hd
      omega
    have hl9 := hp.good.left
    have h4 : w.cell? ⟨p, 4, none⟩ = some (.bool true) := by rw [← ha]; exact hb.cell 4
    have h5 : w.cell? ⟨p, 5, none⟩ = some (.int .i64 (x.left : Int)) := hb.cell 5
    have hb1 := hb.put 5 (.int .i64 ((x.left : Int) - 1))
    have h0' : (w.setCell ⟨p, 5, none⟩ (.int .i64 ((x.left : Int) - 1))).cell? ⟨p, 0, none⟩ = some (.int .i64 (x.ops : Int)) := hb1.cell 0
    have f0' := hb1.free 0
    have hb' : Blk ((w.setCell ⟨p, 5, none⟩ (.int .i64 ((x.left : Int) - 1))).setCell ⟨p, 0, none⟩ (.int .i64 ((x.ops : Int) + 1))) p 112 (devCells n x.oped br cr bs cs hv) := by
      have := hb1.put 0 (.int .i64 ((x.ops : Int) + 1))
      have e : ((x.left - 1 : Nat) : Int) = (x.left : Int) - 1 := by omega
      simpa [devCells, St.oped, ha, e] using this
    have HP := Lib.hid (dv_turn hb hp ((only_put w p 5 (.int .i64 ((x.left : Int) - 1))).put 0 (.int .i64 ((x.ops : Int) + 1))) hb' rfl rfl (good_oped hp.good))
    have hne : ((x.left : Int) == 0) = false := by simp; omega
    clear hb hb1 hb' hp ha hd
    go_enter Tryz.func164, Tryz.ntmps164
    go_wp2_with (go_at_call 93; refine (add_any _ _ _ h0' f0' hk).mono ?_; rintro e w' ⟨rfl, rfl⟩)
    go_ret
    exact ⟨rfl, HP.out⟩
end Go.Proofs.YtglfjlbhjaemgaaGreatDoor
