/- Devices in memory: the program's and the document's; the small methods. -/
import Derived.Test.YtgdaihembmcamaaGreatDoorRows
import Derived.Test.YtgdaihembmcamaaGreatDoorDevMath
import Derived.WalkKit
import Derived.WalkSpells
import Derived.WalkLawsBesides
import Derived.IntWalk
import Derived.Deep.QuietTactic
import Derived.BigQuiet
import Derived.Deep.Cut
import Derived.Laws.CopyOwn
import Derived.Laws.LoneSync
import Derived.BigRegion
import Derived.Outline
import Derived.StillTailTactics
namespace Go.Proofs.YtgdaihembmcamaaGreatDoor
open Go.RowKit
/-- What of a device lies beside its own block: what is seen (br), what is safe (bs), what is held back (hv). F: the blocks that are its own. -/
structure Parts (w : World) (F : Nat → Prop) (E : TypeId) (n : Nat) (x : St) (p br cr bs cs : Nat) (hv : Value) : Prop where
  seen : Txts w 9 br cr x.seen
  safe : Txts w 9 bs cs x.safe
  apart : br ≠ bs
  held : w.ownsRow 0 E 2 hv x.held.length (heldCells x.held)
  fp : F p
  fr : F br
  fs : F bs
  fh : ∀ g, hv.ownBlock = some g → F g
  lt : ∀ k, F k → k < w.heap.size
  good : x.Good n
def devCells (n : Nat) (x : St) (br cr bs cs : Nat) (hv : Value) : Array Value :=
  #[.int .i64 (x.ops : Int), .slice (some ⟨br, 0, none⟩) n cr, .slice (some ⟨bs, 0, none⟩) n cs, hv, .bool x.armed, .int .i64 (x.left : Int), .bool x.down]
def refCells (n : Nat) (x : St) (br cr bs cs : Nat) (hv : Value) : Array Value :=
  #[.slice (some ⟨bs, 0, none⟩) n cs, .slice (some ⟨br, 0, none⟩) n cr, hv, .int .i64 (x.ops : Int), .bool x.armed, .int .i64 (x.left : Int), .bool x.down]
/-- The program's device at block p. -/
def Dv (w : World) (F : Nat → Prop) (p n : Nat) (x : St) : Prop :=
  ∃ br cr bs cs hv, Blk w p 80 (devCells n x br cr bs cs hv) ∧ Parts w F 86 n x p br cr bs cs hv
theorem Parts.keep {w w' : World} {F : Nat → Prop} {E : TypeId} {n : Nat} {x : St} {p br cr bs cs : Nat} {hv : Value} (h : Parts w F E n x p br cr bs cs hv)
    (hk : ∀ k, F k → w'.heap[k]? = w.heap[k]?) (hs : w.heap.size ≤ w'.heap.size) : Parts w' F E n x p br cr bs cs hv :=
  ⟨h.seen.keep (hk _ h.fr), h.safe.keep (hk _ h.fs), h.apart, own_keep h.held fun g hg => hk _ (h.fh g hg), h.fp, h.fr, h.fs, h.fh, fun k hk' => Nat.lt_of_lt_of_le (h.lt k hk') hs, h.good⟩
theorem Dv.keep {w w' : World} {F S : Nat → Prop} {p n : Nat} {x : St} (h : Dv w F p n x) (ho : Only S w w') (hd : ∀ k, F k → ¬ S k) : Dv w' F p n x := by
  obtain ⟨br, cr, bs, cs, hv, hb, hp⟩ := h
  exact ⟨br, cr, bs, cs, hv, hb.only ho (hd _ hp.fp), hp.keep (fun k hk => ho.block k (hp.lt k hk) (hd k hk)) ho.size⟩
theorem Dv.good {w : World} {F : Nat → Prop} {p n : Nat} {x : St} (h : Dv w F p n x) : x.Good n := by
  obtain ⟨br, cr, bs, cs, hv, hb, hp⟩ := h
  exact hp.good
theorem Dv.lt {w : World} {F : Nat → Prop} {p n : Nat} {x : St} (h : Dv w F p n x) : ∀ k, F k → k < w.heap.size := by
  obtain ⟨br, cr, bs, cs, hv, hb, hp⟩ := h
  exact hp.lt
theorem size_nil (w : World) : Calls Tryz.prog 63 #[.pointer none] w fun e w' => e = .returned (.int .i64 0) ∧ w = w' := by
  go_enter Tryz.func63, Tryz.ntmps63
  go_wp2
  go_ret
  exact ⟨rfl, rfl⟩
theorem size_any (w : World) {F : Nat → Prop} {p n : Nat} {x : St} (h : Dv w F p n x) : Calls Tryz.prog 63 #[.pointer (some ⟨p, 0, none⟩)] w fun e w' => e = .returned (.int .i64 (n : Int)) ∧ w = w' := by
  obtain ⟨br, cr, bs, cs, hv, hb, hp⟩ := h
  have h2 : w.cell? ⟨p, 2, none⟩ = some (.slice (some ⟨bs, 0, none⟩) n cs) := hb.cell 2
  clear hb hp
  go_enter Tryz.func63, Tryz.ntmps63
  go_wp2
  go_ret
  exact ⟨rfl, rfl⟩
theorem wrap_op (k : Nat) (h : k ≤ 1099511627776) : (Op.intArith .add .i64 (k : Int) 1).run Tryz.prog = fun w => .ok (.int .i64 ((k : Int) + 1)) w := by
  funext w
  have : IntKind.i64.wrap ((k : Int) + 1) = (k : Int) + 1 := IntWalk.i64_in _ (by omega)
  simp [go_sem, this]
theorem load_any (w : World) (p : Nat) (k : Int) (h : w.cell? ⟨p, 0, none⟩ = some (.int .i64 k)) : Calls Tryz.prog 51 #[.pointer (some ⟨p, 0, none⟩)] w fun e w' => e = .returned (.int .i64 k) ∧ w = w' := by
  have hl := run_call_load (P := Tryz.prog) Tryz.func68 (by kernel_rfl) (by kernel_rfl) (by kernel_rfl) .i64 (by kernel_rfl) h
  go_enter Tryz.func51, Tryz.ntmps51
  go_wp2
  go_ret
  exact ⟨rfl, rfl⟩
theorem add_any (w : World) (p k : Nat) (h : w.cell? ⟨p, 0, none⟩ = some (.int .i64 (k : Int))) (hz : w.frozen? ⟨p, 0, none⟩ = false) (hk : k ≤ 1099511627776) :
    Calls Tryz.prog 64 #[.pointer (some ⟨p, 0, none⟩), .int .i64 1] w fun e w' => e = .returned (.int .i64 ((k : Int) + 1)) ∧ w.setCell ⟨p, 0, none⟩ (.int .i64 ((k : Int) + 1)) = w' := by
  have ha := run_call_add (P := Tryz.prog) Tryz.func82 (by kernel_rfl) (by kernel_rfl) (by kernel_rfl) .i64 (by kernel_rfl) (y := 1) (s := (k : Int) + 1) h hz (by rw [wrap_op k hk])
  clear hk
  go_enter Tryz.func64, Tryz.ntmps64
  go_wp2
  go_ret
  exact ⟨rfl, rfl⟩
theorem ops_nil (w : World) : Calls Tryz.prog 16 #[.pointer none] w fun e w' => e = .returned (.int .i64 0) ∧ w = w' := by
  go_enter Tryz.func16, Tryz.ntmps16
  go_wp2
  go_ret
  exact ⟨rfl, rfl⟩
theorem ops_any (w : World) {F : Nat → Prop} {p n : Nat} {x : St} (h : Dv w F p n x) : Calls Tryz.prog 16 #[.pointer (some ⟨p, 0, none⟩)] w fun e w' => e = .returned (.int .i64 (x.ops : Int)) ∧ w = w' := by
  obtain ⟨br, cr, bs, cs, hv, hb, hp⟩ := h
  have h2 : w.cell? ⟨p, 0, none⟩ = some (.int .i64 (x.ops : Int)) := hb.cell 0
  clear hb hp
  go_enter Tryz.func16, Tryz.ntmps16
  go_wp2_with (go_at_call 51; refine (load_any _ _ _ h2).mono ?_; rintro e w' ⟨rfl, rfl⟩)
  go_ret
  exact ⟨rfl, rfl⟩
theorem down_nil (w : World) : Calls Tryz.prog 22 #[.pointer none] w fun e w' => e = .returned (.bool false) ∧ w = w' := by
  go_enter Tryz.func22, Tryz.ntmps22
  go_wp2
  go_ret
  exact ⟨rfl, rfl⟩
theorem down_any (w : World) {F : Nat → Prop} {p n : Nat} {x : St} (h : Dv w F p n x) : Calls Tryz.prog 22 #[.pointer (some ⟨p, 0, none⟩)] w fun e w' => e = .returned (.bool x.down) ∧ w = w' := by
  obtain ⟨br, cr, bs, cs, hv, hb, hp⟩ := h
  have h2 : w.cell? ⟨p, 6, none⟩ = some (.bool x.down) := hb.cell 6
  clear hb hp
  go_enter Tryz.func22, Tryz.ntmps22
  go_wp2
  go_ret
  exact ⟨rfl, rfl⟩
theorem own_form {w : World} {base : Nat} {e : TypeId} {size n : Nat} {v : Value} {xs : List Value} (h : w.ownsRow base e size v n xs) : ∃ A c, v = .slice A n c := by
  rcases h.2 with ⟨rfl, rfl⟩ | ⟨g, cap, cur, rfl, _⟩
  · exact ⟨_, _, rfl⟩
  · exact ⟨_, _, rfl⟩
def outside (n : Nat) (i k : Int) : Bool := decide (i < 0) || decide (k < 0) || decide ((n : Int) - i < k)
/-- What keeps k sectors from i on from being read or written. -/
def St.why (x : St) (n : Nat) (i k : Int) : Int := if i < 0 ∨ k < 0 ∨ (n : Int) - i < k then 40 else if x.down then 41 else 0
theorem why_out {x : St} {n : Nat} {i k : Int} (h : i < 0 ∨ k < 0 ∨ (n : Int) - i < k) : x.why n i k = 40 := if_pos h
theorem why_down {x : St} {n : Nat} {i k : Int} (h : ¬ (i < 0 ∨ k < 0 ∨ (n : Int) - i < k)) (hd : x.down = true) : x.why n i k = 41 := by unfold St.why; rw [if_neg h, if_pos hd]
theorem why_ok {x : St} {n : Nat} {i k : Int} (h : ¬ (i < 0 ∨ k < 0 ∨ (n : Int) - i < k)) (hd : x.down = false) : x.why n i k = 0 := by unfold St.why; rw [if_neg h, if_neg (by simp [hd])]
theorem ready_nil (w : World) (i k : Int) : Calls Tryz.prog 41 #[.pointer none, .int .i64 i, .int .i64 k] w fun e w' => e = .returned (.int .i64 1) ∧ w = w' := by
  go_enter Tryz.func41, Tryz.ntmps41
  go_wp2
  go_ret
  exact ⟨rfl, rfl⟩
theorem ready_any (w : World) {F : Nat → Prop} {p n : Nat} {x : St} (h : Dv w F p n x) (i k : Int) (hi : -9223372036854775808 ≤ i ∧ i ≤ 9223372036854775807) :
    Calls Tryz.prog 41 #[.pointer (some ⟨p, 0, none⟩), .int .i64 i, .int .i64 k] w fun e w' => e = .returned (.int .i64 (x.why n i k)) ∧ w = w' := by
  have hg := h.good
  have hn := hg.most
  have h6 : w.cell? ⟨p, 6, none⟩ = some (.bool x.down) := by obtain ⟨br, cr, bs, cs, hv, hb, hp⟩ := h; exact hb.cell 6
  clear hg
  by_cases h1 : i < 0
  · have HW := Lib.hid (why_out (x := x) (n := n) (k := k) (i := i) (.inl h1))
    go_enter Tryz.func41, Tryz.ntmps41
    go_wp2_with (go_at_call 63; refine (size_any _ h).mono ?_; rintro e w' ⟨rfl, rfl⟩)
    go_ret
    exact ⟨by rw [HW.out]; rfl, rfl⟩
  · by_cases h2 : k < 0
    · have HW := Lib.hid (why_out (x := x) (n := n) (k := k) (i := i) (.inr (.inl h2)))
      go_enter Tryz.func41, Tryz.ntmps41
      go_wp2_with (go_at_call 63; refine (size_any _ h).mono ?_; rintro e w' ⟨rfl, rfl⟩)
      go_ret
      exact ⟨by rw [HW.out]; rfl, rfl⟩
    · by_cases h3 : (n : Int) - i < k
      · have HW := Lib.hid (why_out (x := x) (n := n) (k := k) (i := i) (.inr (.inr h3)))
        go_enter Tryz.func41, Tryz.ntmps41
        go_wp2_with (go_at_call 63; refine (size_any _ h).mono ?_; rintro e w' ⟨rfl, rfl⟩)
        go_ret
        exact ⟨by rw [HW.out]; rfl, rfl⟩
      · have hno : ¬ (i < 0 ∨ k < 0 ∨ (n : Int) - i < k) := by omega
        cases hd : x.down with
        | true =>
          have HW := Lib.hid (why_down hno hd)
          rw [hd] at h6
          clear hd hno
          go_enter Tryz.func41, Tryz.ntmps41
          go_wp2_with (go_at_call 63; refine (size_any _ h).mono ?_; rintro e w' ⟨rfl, rfl⟩)
          go_ret
          exact ⟨by rw [HW.out]; rfl, rfl⟩
        | false =>
          have HW := Lib.hid (why_ok hno hd)
          rw [hd] at h6
          clear hd hno
          go_enter Tryz.func41, Tryz.ntmps41
          go_wp2_with (go_at_call 63; refine (size_any _ h).mono ?_; rintro e w' ⟨rfl, rfl⟩)
          go_ret
          exact ⟨by rw [HW.out]; rfl, rfl⟩
end Go.Proofs.YtgdaihembmcamaaGreatDoor
