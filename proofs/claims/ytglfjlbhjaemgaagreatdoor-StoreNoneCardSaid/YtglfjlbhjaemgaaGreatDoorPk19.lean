/- What catch makes of steps that give up, and of steps that don't. -/
import Derived.Test.YtglfjlbhjaemgaaGreatDoorPk18
namespace Go.Proofs.YtglfjlbhjaemgaaGreatDoor
open Go.RowKit
set_option maxRecDepth 100000 in
theorem caught (c k : Nat) (older : List PanicEntry) (w : World) (hc : Blk w c 30 #[.int .i64 0]) :
    CallsD Tryz.prog 225 #[.pointer (some ⟨c, 0, none⟩)] (.panicking ({ v := .iface 30 (.int .i64 k), recovered := false } :: older)) w fun e u' w' =>
      e = .returned (.tuple #[]) ∧ u' = .panicking ({ v := .iface 30 (.int .i64 k), recovered := true } :: older) ∧ w' = w.setCell ⟨c, 0, none⟩ (.int .i64 k) := by
  have h0 : w.cell? ⟨c, 0, none⟩ = some (.int .i64 0) := hc.cell 0
  have f0 := hc.free 0
  have hta : Sem.run Tryz.prog (Instr.typeAssert (Value.iface 30 (Value.int IntKind.i64 (k : Int))) 20 30 true) w = .ok (.tuple #[.int .i64 k, .bool true]) w := by kernel_rfl
  refine callsD_of_wpS Tryz.func225 rfl fun c₀ cs hu => ?_
  apply wpS_seq
  apply wpS_region
  simp [wpOpsS, go_sem, recoverD, hu, Tryz.ntmps225, Exit.thenS]
  refine wpS_of_wp ?_
  change Code.wp Tryz.prog _ _ ⟨#[.pointer (some ⟨c, 0, none⟩), undef, undef, undef, .iface 30 (.int .i64 k), undef, undef, undef, undef, undef, undef], []⟩ w
  clear hc
  go_wp2
  simp [bodyPostS, results, Tryz.results225]
theorem idle (c : Nat) (w : World) :
    CallsD Tryz.prog 225 #[.pointer (some ⟨c, 0, none⟩)] .returning w fun e u' w' => e = .returned (.tuple #[]) ∧ u' = .returning ∧ w' = w := by
  refine callsD_of_wpS Tryz.func225 rfl fun c₀ cs hu => ?_
  apply wpS_seq
  apply wpS_region
  simp [wpOpsS, go_sem, recoverD, hu, Tryz.ntmps225, Exit.thenS]
  refine wpS_of_wp ?_
  change Code.wp Tryz.prog _ _ ⟨#[.pointer (some ⟨c, 0, none⟩), undef, undef, undef, .nilIface, undef, undef, undef, undef, undef, undef], []⟩ w
  go_wp2
  cases c₀
  simp_all [bodyPostS, results, Tryz.results225]
theorem set_same {w : World} {b : Nat} {t : TypeId} {v : Value} (h : Blk w b t #[v]) : w.setCell ⟨b, 0, none⟩ v = w := by
  have e : (w.setCell ⟨b, 0, none⟩ v).heap = w.heap := by
    apply Array.ext_getElem?
    intro k
    by_cases hk : k = b
    · subst hk
      exact (Blk.put h 0 v).trans h.symm
    · exact Below.heap_setCell w ⟨b, 0, none⟩ v k hk
  have e2 : w.setCell ⟨b, 0, none⟩ v = { w with heap := (w.setCell ⟨b, 0, none⟩ v).heap } := rfl
  rw [e2, e]
theorem catch_get_ok (a b c d : Value) (w : World) (Q : World → Prop) (hk : ∀ w', Q w' → Blk w' w.heap.size 30 #[.int .i64 0])
    (h : Calls Tryz.prog 213 #[a, b, c, d] (w.alloc (.cells #[.int .i64 0] 30)) fun e w' => e = .returned (.tuple #[]) ∧ Q w') :
    Calls Tryz.prog 212 #[.func (.func 213) #[] #[a, b, c, d]] w fun e w' => e = .returned (.int .i64 0) ∧ Q w' := by
  have hmf : ∀ (fn : Fn) (first cap : Array Value) (w : World), (Instr.makeFunc fn first cap).run Tryz.prog w = .ok (.func fn first cap) w := fun _ _ _ _ => rfl
  go_enter_defers Tryz.func212, Tryz.ntmps212
  go_wp2_with (fail)
  refine h.mono ?_; rintro e w1 ⟨rfl, hq⟩
  have hb := hk w1 hq
  have h0 : w1.cell? ⟨w.heap.size, 0, none⟩ = some (.int .i64 0) := hb.cell 0
  have f0 := hb.free 0
  have e1 : w1.setCell ⟨w.heap.size, 0, none⟩ (.int .i64 0) = w1 := set_same hb
  have Q1 := Lib.hid hq; clear hq hb
  go_wp2
  refine leaves_cons (f := 225) (args := #[.pointer (some ⟨w.heap.size, 0, none⟩)]) (by simp) (by simp [go_sem]) ?_
  refine (idle w.heap.size _).mono ?_
  rintro e u' w'' ⟨rfl, rfl, rfl⟩
  simp [Leaves, settle, results, Tryz.results212, go_sem]
  rw [h0]
  exact ⟨_, rfl, rfl, Q1.out⟩
theorem catch_get_up (a b c d : Value) (w : World) (k : Nat) (Q : World → Prop) (hk : ∀ w', Q w' → Blk w' w.heap.size 30 #[.int .i64 0])
    (h : Calls Tryz.prog 213 #[a, b, c, d] (w.alloc (.cells #[.int .i64 0] 30)) fun e w' => e = up k ∧ Q w') :
    Calls Tryz.prog 212 #[.func (.func 213) #[] #[a, b, c, d]] w fun e w' => e = .returned (.int .i64 k) ∧ ∃ w2, Q w2 ∧ w' = w2.setCell ⟨w.heap.size, 0, none⟩ (.int .i64 k) := by
  have hmf : ∀ (fn : Fn) (first cap : Array Value) (w : World), (Instr.makeFunc fn first cap).run Tryz.prog w = .ok (.func fn first cap) w := fun _ _ _ _ => rfl
  go_enter_defers Tryz.func212, Tryz.ntmps212
  go_wp2_with (fail)
  refine h.mono ?_; rintro e w1 ⟨rfl, hq⟩
  have hb := hk w1 hq
  have h0 : w1.cell? ⟨w.heap.size, 0, none⟩ = some (.int .i64 0) := hb.cell 0
  have Q1 := Lib.hid hq; clear hq
  have B1 := Lib.hid hb; clear hb
  go_wp2
  refine leaves_cons (f := 225) (args := #[.pointer (some ⟨w.heap.size, 0, none⟩)]) (by simp) (by simp [go_sem]) ?_
  refine (caught w.heap.size k [] _ B1.out).mono ?_
  rintro e u' w'' ⟨rfl, rfl, rfl⟩
  simp [Leaves, settle, results, Tryz.results212, go_sem, h0]
  exact ⟨_, Q1.out, rfl⟩
end Go.Proofs.YtglfjlbhjaemgaaGreatDoor
