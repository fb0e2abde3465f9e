/- The code's table, and what finds a row of it. -/
import Derived.Test.YthcaeihpdlgcaaaDoorSnO
namespace Go.Proofs.YthcaeihpdlgcaaaDoor
open Go.RowKit
def rwT : List Rw := [⟨1, 0, 0, 0, 0, 0⟩, ⟨2, 0, 24, 0, 0, 0⟩, ⟨3, 0, 2, 14, 29, 0⟩, ⟨4, 0, 2, 5, 33, 0⟩, ⟨5, 0, 2, 5, 36, 0⟩, ⟨6, 0, 2, 5, 37, 0⟩, ⟨8, 0, 2, 3, 12, 0⟩, ⟨7, 1, 2, 6, 41, 0⟩, ⟨7, 2, 2, 6, 42, 5⟩, ⟨7, 3, 2, 6, 42, 4⟩, ⟨7, 4, 2, 6, 42, 3⟩]
def rwI (k : Nat) : Rw := rwT.getD k zRw
def rowsA : Array Value := (rwT.flatMap fun r => (rwC r).toList).toArray
/-- The table in its variable. -/
structure RT (w : World) : Prop where
  lt : 0 < w.heap.size
  rows : ∀ (j : Nat) (v : Value), rowsA[j]? = some v → w.cell? ⟨0, j, none⟩ = some v
theorem RT.below {w w' : World} (h : RT w) (hb : Below w.heap.size w w') : RT w' :=
  ⟨Nat.lt_of_lt_of_le h.lt hb.size, fun j v hj => (hb.cell (p := ⟨0, j, none⟩) h.lt).trans (h.rows j v hj)⟩
theorem rows_info : (Tryd.prog.info? 78).map (·.size) = some rowsA.size := by kernel_rfl
theorem index_row (w : World) : ∀ k : Nat, k < 11 → (Instr.index 78 (.agg rowsA) (.int .i64 (k : Int))).run Tryd.prog w = .ok (rwV (rwI k)) w := by
  intro k hk
  match k, hk with
  | 0, _ => exact (show (Instr.index 78 (.agg rowsA) (.int .i64 ((0 : Nat) : Int))).run Tryd.prog w = .ok (rwV (rwI 0)) w by kernel_rfl)
  | 1, _ => exact (show (Instr.index 78 (.agg rowsA) (.int .i64 ((1 : Nat) : Int))).run Tryd.prog w = .ok (rwV (rwI 1)) w by kernel_rfl)
  | 2, _ => exact (show (Instr.index 78 (.agg rowsA) (.int .i64 ((2 : Nat) : Int))).run Tryd.prog w = .ok (rwV (rwI 2)) w by kernel_rfl)
  | 3, _ => exact (show (Instr.index 78 (.agg rowsA) (.int .i64 ((3 : Nat) : Int))).run Tryd.prog w = .ok (rwV (rwI 3)) w by kernel_rfl)
  | 4, _ => exact (show (Instr.index 78 (.agg rowsA) (.int .i64 ((4 : Nat) : Int))).run Tryd.prog w = .ok (rwV (rwI 4)) w by kernel_rfl)
  | 5, _ => exact (show (Instr.index 78 (.agg rowsA) (.int .i64 ((5 : Nat) : Int))).run Tryd.prog w = .ok (rwV (rwI 5)) w by kernel_rfl)
  | 6, _ => exact (show (Instr.index 78 (.agg rowsA) (.int .i64 ((6 : Nat) : Int))).run Tryd.prog w = .ok (rwV (rwI 6)) w by kernel_rfl)
  | 7, _ => exact (show (Instr.index 78 (.agg rowsA) (.int .i64 ((7 : Nat) : Int))).run Tryd.prog w = .ok (rwV (rwI 7)) w by kernel_rfl)
  | 8, _ => exact (show (Instr.index 78 (.agg rowsA) (.int .i64 ((8 : Nat) : Int))).run Tryd.prog w = .ok (rwV (rwI 8)) w by kernel_rfl)
  | 9, _ => exact (show (Instr.index 78 (.agg rowsA) (.int .i64 ((9 : Nat) : Int))).run Tryd.prog w = .ok (rwV (rwI 9)) w by kernel_rfl)
  | 10, _ => exact (show (Instr.index 78 (.agg rowsA) (.int .i64 ((10 : Nat) : Int))).run Tryd.prog w = .ok (rwV (rwI 10)) w by kernel_rfl)
theorem rwI_at {k : Nat} (h : k < rwT.length) : rwT[k] = rwI k := by
  unfold rwI
  rw [List.getD_eq_getElem?_getD, List.getElem?_eq_getElem h]
  rfl
theorem find_yes {q : Rw → Bool} {k : Nat} (hk : k < 11) (h : q (rwI k) = true) (hn : ∀ j, j < k → q (rwI j) = false) : rwT.find? q = some (rwI k) := by
  rw [List.find?_eq_some_iff_getElem]
  refine ⟨h, k, hk, rwI_at hk, fun j hj => ?_⟩
  rw [rwI_at (Nat.lt_trans hj hk), hn j hj]
  rfl
theorem find_no {q : Rw → Bool} (hn : ∀ j, j < 11 → q (rwI j) = false) : rwT.find? q = none := by
  rw [List.find?_eq_none]
  intro r hr
  obtain ⟨k, hk, rfl⟩ := List.mem_iff_getElem.1 hr
  rw [rwI_at hk, hn k hk]
  decide
/-- What find answers. -/
def fiV (o : Option Rw) : Value := match o with
  | some r => .tuple #[rwV r, .bool true]
  | none => .tuple #[rwV zRw, .bool false]
theorem results_find {fn : Func} {p u : Tmp} (h : fn.results = #[.cell p 61, .tmp u]) (tmps : Array Value) (w : World) (g : Nat) (r : Rw) (hp : tmps.getD p undef = .pointer (some ⟨g, 0, none⟩)) (hg : Blk w g 61 (rwC r)) :
    (results fn tmps).run Tryd.prog w = .ok (.tuple #[rwV r, tmps.getD u undef]) w := by
  rw [results_cell_tmp h, hp]
  have := run_loadVar_row (P := Tryd.prog) w g 61 61 (rwC r) (0, 0) _ hg Tryd.underlying61 rfl rw_info
  simp [asAddr, this, Result.andThen]
set_option maxRecDepth 100000 in
set_option maxHeartbeats 4000000 in
theorem find_any (f : Nat) (a0 : Value) (q : Rw → Bool) (w : World) (ht : RT w) (hcf : ∀ args v, (callFunc f args).run Tryd.prog v = .ok (.enter f args) v)
    (hq : ∀ r v, Calls Tryd.prog f #[a0, rwV r] v fun e v' => e = .returned (.bool (q r)) ∧ Below v.heap.size v v') :
    Calls Tryd.prog 23 #[.func (.func f) #[a0] #[]] w fun e w' => e = .returned (fiV (rwT.find? q)) ∧ Below w.heap.size w w' := by
  have HB0 := Lib.hid (((Below.refl w.heap.size w).alloc (Nat.le_refl _) (.cells (rwC zRw) 61)))
  have HR0 := Lib.hid (Blk.new w 61 (rwC zRw))
  have HT := Lib.hid ht
  have HQ := Lib.hid hq
  have HCF := Lib.hid hcf
  clear ht hq hcf
  go_enter Tryd.func23, Tryd.ntmps23
  go_upto_region 1 with (fail)
  change Code.wp _ _ _ _ (w.alloc (.cells (rwC zRw) 61))
  have HT1 := Lib.hid (HT.out.below HB0.out)
  generalize w.alloc (.cells (rwC zRw) 61) = v0 at *
  obtain ⟨p, hp⟩ : ∃ p, p = w.heap.size := ⟨_, rfl⟩
  have HP := Lib.hid hp
  rw [← hp] at HR0 ⊢
  clear hp
  refine wp_region_lit ?_
  refine wpList_load_cells rfl 78 (.global 0) rfl 0 0 rfl rowsA (fun j v hj => by rw [Nat.zero_add]; exact HT1.out.rows j v hj) (.array 11 61) Tryd.underlying78 rfl rows_info ?_
  go_wp2_with (fail)
  go_loopw [7] (fun i wr => ∃ k : Nat, k ≤ 11 ∧ i = .int .i64 k ∧ Hid (Below w.heap.size w wr) ∧ Hid (Blk wr p 61 (rwC zRw)) ∧ Hid (∀ j, j < k → q (rwI j) = false)) (fun i _ => 11 - (intOf i).toNat)
  case atStart => exact ⟨0, by decide, rfl, HB0, HR0, Lib.hid (fun j h => by omega)⟩
  case round =>
    obtain ⟨k, hk, rfl, HB, HR, HJ⟩ := hrel
    by_cases hk11 : (k : Int) < 11
    · have hix := index_row wr k (by omega)
      cases q0 : q (rwI k) with
      | true =>
        have HV := Lib.hid (find_yes (by omega) q0 HJ.out)
        go_upto_region 4 with (fail)
        change Code.wp _ _ _ _ (wr.alloc (.cells (rwC (rwI k)) 61))
        have hal := (Below.refl wr.heap.size wr).alloc (Nat.le_refl _) (.cells (rwC (rwI k)) 61)
        have HR1 := Lib.hid (HR.out.below hal HR.out.lt); have HB1 := Lib.hid (HB.out.trans (hal.mono HB.out.size)); have HF := Lib.hid (Blk.new wr 61 (rwC (rwI k)))
        obtain ⟨g, hg⟩ : ∃ g, g = wr.heap.size := ⟨_, rfl⟩
        have HGL := Lib.hid (show p < g by rw [hg]; exact HR.out.lt)
        rw [← hg] at HF ⊢
        clear hal hg
        generalize wr.alloc (.cells (rwC (rwI k)) 61) = v1 at *
        refine wp_region_lit ?_
        refine wpList_runs rfl (some 10) rfl (.func (.func f) #[a0] #[]) v1 (by rfl) ?_
        refine wpList_load_row rfl 61 (.tmp 5) rfl g rfl 61 (rwC (rwI k)) (0, 0) _ HF.out Tryd.underlying61 rfl rw_info ?_
        simp only [Act.put, List.setIfInBounds_toArray, List.set_cons_zero, List.set_cons_succ]
        refine wpList_calls rfl (some 12) rfl f #[a0, rwV (rwI k)] (by have hcf := HCF.out; unfold execOp; simp [resolve, invoke, go_sem, hcf]) _ (HQ.out (rwI k) v1) ?_
        rintro e v2 ⟨rfl, hb⟩
        refine ⟨_, rfl, ?_⟩
        have HB2 := Lib.hid (HB1.out.trans (hb.mono HB1.out.size)); have HR2 := Lib.hid (HR1.out.below hb HR1.out.lt); have HF2 := Lib.hid (HF.out.below hb HF.out.lt); clear hb HB1 HR1 HF
        rw [q0]
        simp only [Act.put, List.setIfInBounds_toArray, List.set_cons_zero, List.set_cons_succ]
        go_upto_region 5 with (fail)
        refine wp_region_lit ?_
        refine wpList_load_row rfl 61 (.tmp 5) rfl g rfl 61 (rwC (rwI k)) (0, 0) _ HF2.out Tryd.underlying61 rfl rw_info ?_
        refine wpList_store_row rfl 61 (.tmp 2) (.tmp 13) rfl p (rwC (rwI k)) rfl rfl 61 (rwC zRw) HR2.out rw_info rfl (rwC_one _) ?_
        go_wp2_with (fail)
        refine bodyPost_ret_by (results_find rfl _ _ p (rwI k) rfl (setRow_blk HR2.out)) rfl ?_
        exact ⟨by rw [HV.out]; rfl, below_setRow HB2.out (Nat.le_of_eq HP.out.symm) _⟩
      | false =>
        have HJ1 := Lib.hid (show ∀ j, j < k + 1 → q (rwI j) = false from fun j hj => by
          by_cases h : j = k
          · rw [h]; exact q0
          · exact HJ.out j (by omega))
        go_upto_region 4 with (fail)
        change Code.wp _ _ _ _ (wr.alloc (.cells (rwC (rwI k)) 61))
        have hal := (Below.refl wr.heap.size wr).alloc (Nat.le_refl _) (.cells (rwC (rwI k)) 61)
        have HR1 := Lib.hid (HR.out.below hal HR.out.lt); have HB1 := Lib.hid (HB.out.trans (hal.mono HB.out.size)); have HF := Lib.hid (Blk.new wr 61 (rwC (rwI k)))
        obtain ⟨g, hg⟩ : ∃ g, g = wr.heap.size := ⟨_, rfl⟩
        have HGL := Lib.hid (show p < g by rw [hg]; exact HR.out.lt)
        rw [← hg] at HF ⊢
        clear hal hg
        generalize wr.alloc (.cells (rwC (rwI k)) 61) = v1 at *
        refine wp_region_lit ?_
        refine wpList_runs rfl (some 10) rfl (.func (.func f) #[a0] #[]) v1 (by rfl) ?_
        refine wpList_load_row rfl 61 (.tmp 5) rfl g rfl 61 (rwC (rwI k)) (0, 0) _ HF.out Tryd.underlying61 rfl rw_info ?_
        simp only [Act.put, List.setIfInBounds_toArray, List.set_cons_zero, List.set_cons_succ]
        refine wpList_calls rfl (some 12) rfl f #[a0, rwV (rwI k)] (by have hcf := HCF.out; unfold execOp; simp [resolve, invoke, go_sem, hcf]) _ (HQ.out (rwI k) v1) ?_
        rintro e v2 ⟨rfl, hb⟩
        refine ⟨_, rfl, ?_⟩
        have HB2 := Lib.hid (HB1.out.trans (hb.mono HB1.out.size)); have HR2 := Lib.hid (HR1.out.below hb HR1.out.lt); have HF2 := Lib.hid (HF.out.below hb HF.out.lt); clear hb HB1 HR1 HF
        rw [q0]
        simp only [Act.put, List.setIfInBounds_toArray, List.set_cons_zero, List.set_cons_succ]
        go_wp2_with (fail)
        go_roundw
        case rel => exact ⟨k + 1, by omega, by go_num, HB2, HR2, HJ1⟩
        case measure => simp [intOf]; omega
    · have HV := Lib.hid (find_no (q := q) (fun j hj => HJ.out j (by omega)))
      go_upto_region 7 with (fail)
      refine wp_region_lit ?_
      refine wpList_runs rfl (some 15) rfl (rwV zRw) wr (by kernel_rfl) ?_
      refine wpList_store_row rfl 61 (.tmp 2) (.tmp 15) rfl p (rwC zRw) rfl rfl 61 (rwC zRw) HR.out rw_info rfl (rwC_one _) ?_
      go_wp2_with (fail)
      refine bodyPost_ret_by (results_find rfl _ _ p zRw rfl (setRow_blk HR.out)) rfl ?_
      exact ⟨by rw [HV.out]; rfl, below_setRow HB.out (Nat.le_of_eq HP.out.symm) _⟩
end Go.Proofs.YthcaeihpdlgcaaaDoor
