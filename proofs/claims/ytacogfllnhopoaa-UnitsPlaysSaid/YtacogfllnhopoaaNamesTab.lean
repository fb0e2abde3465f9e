/- The table of classes that names makes, at every world. -/
import Derived.Test.YtacogfllnhopoaaRows
import Derived.WalkKit
import Derived.WalkSpells
import Derived.WalkLawsBesides
import Derived.Lib.Hide
import Derived.IntWalk
import Derived.Deep.QuietTactic
import Derived.BigQuiet
import Derived.Deep.Cut
import Derived.Laws.CopyOwn
namespace Go.Proofs.Ytacogfllnhopoaa
open Go.RowKit
theorem wpList_runs {P : Program} {ops : Array Oper} {rest : List Oper} {o : Oper} {a : Act} {w : World} {Q : Exit → Act → World → Prop} (hg : o.guard = none) (dst : Option Tmp) (hdst : o.dst = dst)
    (v : Value) (w' : World) (hrun : (execOp a.eval o).run P w = .ok (.value v) w')
    (h : wpList P ops Q rest (a.put dst v) w') : wpList P ops Q (o :: rest) a w :=
  wpList_plain hg fun K hK => by
    subst hdst
    unfold Oper.wp
    rw [hrun, Oper.upon_value]
    exact hK _ _ h
def tabZ : Array Value := Array.replicate 256 (.int .i64 0)
def tabL : Nat → Array Value
  | 0 => tabZ
  | k + 1 => (tabL k).setIfInBounds (97 + k) (.int .i64 1)
def tabD : Nat → Array Value
  | 0 => tabL 26
  | k + 1 => (tabD k).setIfInBounds (48 + k) (.int .i64 2)
def tabE1 : Array Value := (tabD 10).setIfInBounds 46 (.int .i64 3)
def tabE2 : Array Value := tabE1.setIfInBounds 45 (.int .i64 3)
def tabM : Array Value := tabE2.setIfInBounds 58 (.int .i64 3)
theorem tabZ_size : tabZ.size = 256 := by unfold tabZ; simp
theorem tabL_size (k : Nat) : (tabL k).size = 256 := by
  induction k with
  | zero => exact tabZ_size
  | succ k ih => unfold tabL; simpa using ih
theorem tabD_size (k : Nat) : (tabD k).size = 256 := by
  induction k with
  | zero => exact tabL_size 26
  | succ k ih => unfold tabD; simpa using ih
theorem tabE1_size : tabE1.size = 256 := by unfold tabE1; simpa using tabD_size 10
theorem tabE2_size : tabE2.size = 256 := by unfold tabE2; simpa using tabE1_size
theorem tabM_size : tabM.size = 256 := by unfold tabM; simpa using tabE2_size
theorem tabM_info : (Try.prog.info? 61).map (·.size) = some tabM.size := by rw [tabM_size]; kernel_rfl
theorem heap_second (w : World) (o p : Obj) : ((w.alloc o).alloc p).heap[w.heap.size + 1]? = some p := by
  show ((w.heap.push o).push p)[w.heap.size + 1]? = some p
  rw [Array.getElem?_push, if_pos (by simp)]
theorem heap_first (w : World) (o p : Obj) : ((w.alloc o).alloc p).heap[w.heap.size]? = some o := by
  show ((w.heap.push o).push p)[w.heap.size]? = some o
  rw [Array.getElem?_push, if_neg (by simp), Array.getElem?_push, if_pos rfl]
def clsF (i : Nat) : Int := if 97 ≤ i ∧ i ≤ 122 then 1 else if 48 ≤ i ∧ i ≤ 57 then 2 else if i = 45 ∨ i = 46 ∨ i = 58 then 3 else 0
def clsA : Array Value := Array.ofFn (n := 256) fun i => .int .i64 (clsF i)
theorem tabM_is : tabM = clsA := by kernel_rfl
theorem clsA_at (i : Nat) (h : i < 256) : clsA[i]? = some (.int .i64 (clsF i)) := by
  unfold clsA
  rw [Array.getElem?_ofFn, dif_pos h]
theorem clsA_size : clsA.size = 256 := by unfold clsA; simp
theorem some_at {a : Array Value} {n : Nat} (h : a.size = 256) (hn : n < 256) : ∃ v, a[n]? = some v := ⟨_, Array.getElem?_eq_getElem (by omega)⟩
set_option maxRecDepth 100000 in
set_option maxHeartbeats 400000 in
theorem classes_any (w : World) :
    Calls Try.prog 32 #[] w fun e w' => e = .returned (.agg clsA) ∧ Below w.heap.size w w' := by
  go_enter Try.func32, Try.ntmps32
  go_wp2_with (first | (refine wpList_runs rfl (some 0) rfl (.pointer (some ⟨w.heap.size, 0, none⟩)) (w.alloc (.cells tabZ 61)) (by kernel_rfl) ?_) | (refine wpList_runs rfl (some 1) rfl (.pointer (some ⟨(w.alloc (.cells tabZ 61)).heap.size, 0, none⟩)) ((w.alloc (.cells tabZ 61)).alloc (.cells tabZ 61)) (by kernel_rfl) ?_))
  go_loopw [2] (fun c wr => ∃ k : Nat, k ≤ 26 ∧ c = .int .i32 (97 + (k : Int)) ∧ wr = (w.alloc (.cells tabZ 61)).alloc (.cells (tabL k) 61)) (fun c _ => 200 - (intOf c).toNat)
  case atStart => exact ⟨0, Nat.zero_le _, rfl, rfl⟩
  case round =>
    obtain ⟨k, hk, rfl, rfl⟩ := hrel
    have hz := tabL_size k
    by_cases hlt : k < 26
    · have hlt' : decide (97 + (k : Int) ≤ 122) = true := by simp; omega
      obtain ⟨v, hv⟩ := some_at (n := 97 + k) hz (by omega)
      have HZ := Lib.hid hz; clear hz
      go_wp2
      go_roundw
      case rel => exact ⟨k + 1, by omega, by go_num, rfl⟩
      case measure => simp [intOf]; omega
    · obtain rfl : k = 26 := by omega
      clear hlt
      have HZ := Lib.hid hz; clear hz
      have hd0 : tabL 26 = tabD 0 := rfl
      rw [hd0]
      clear hd0
      go_wp2
      go_loopw [3] (fun c wr => ∃ k : Nat, k ≤ 10 ∧ c = .int .i32 (48 + (k : Int)) ∧ wr = (w.alloc (.cells tabZ 61)).alloc (.cells (tabD k) 61)) (fun c _ => 200 - (intOf c).toNat)
      case atStart => exact ⟨0, Nat.zero_le _, rfl, rfl⟩
      case round =>
        obtain ⟨k, hk, rfl, rfl⟩ := hrel
        have hz := tabD_size k
        by_cases hlt : k < 10
        · have hlt' : decide (48 + (k : Int) ≤ 57) = true := by simp; omega
          obtain ⟨v, hv⟩ := some_at (n := 48 + k) hz (by omega)
          have HZ := Lib.hid hz; clear hz
          go_wp2
          go_roundw
          case rel => exact ⟨k + 1, by omega, by go_num, rfl⟩
          case measure => simp [intOf]; omega
        · obtain rfl : k = 10 := by omega
          clear hlt
          have hz1 := tabE1_size
          have hz2 := tabE2_size
          obtain ⟨v1, hv1⟩ := some_at (n := 46) hz (by omega)
          obtain ⟨v2, hv2⟩ := some_at (n := 45) hz1 (by omega)
          obtain ⟨v3, hv3⟩ := some_at (n := 58) hz2 (by omega)
          clear hz hz1 hz2
          have e1 : (tabD 10).setIfInBounds 46 (.int .i64 3) = tabE1 := rfl
          have e2 : tabE1.setIfInBounds 45 (.int .i64 3) = tabE2 := rfl
          have e3 : tabE2.setIfInBounds 58 (.int .i64 3) = tabM := rfl
          go_upto_region 11 with (fail)
          clear e1 e2 e3 hv1 hv2 hv3
          refine wp_region_lit ?_
          refine wpList_load_row rfl 61 (.tmp 1) rfl (w.heap.size + 1) rfl 61 tabM (0, 0) (.array 256 60) (heap_second w _ _) Try.underlying61 rfl tabM_info ?_
          refine wpList_store_row rfl 61 (.tmp 0) (.tmp 19) rfl w.heap.size tabM rfl rfl 61 tabZ (heap_first w _ _) tabM_info (by rw [tabZ_size, tabM_size]) (by kernel_rfl) ?_
          refine wpList_nil ?_
          go_wp2_with (fail)
          refine bodyPost_ret_by (results_cell_row rfl _ _ w.heap.size 61 tabM (0, 0) (.array 256 60) rfl (setRow_heap _ _ _ _ _ _ (heap_first w _ _)) Try.underlying61 rfl tabM_info) rfl ?_
          exact ⟨by rw [tabM_is], below_setRow (((Below.refl _ w).alloc (Nat.le_refl _) _).alloc (by simp) _) (Nat.le_refl _) _⟩
end Go.Proofs.Ytacogfllnhopoaa
