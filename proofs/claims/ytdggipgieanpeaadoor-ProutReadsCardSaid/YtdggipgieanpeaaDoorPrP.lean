/- The kinds of changes: the code's kinds and kindOf. -/
import Derived.Test.YtdggipgieanpeaaDoorPrO
import Derived.Deep.RegionHeld3
import Derived.Laws.ResultCell
import Derived.Laws.CopyOwn
import Derived.BigQuiet
namespace Go.Proofs.YtdggipgieanpeaaDoor.Pc
open Go.RowKit
section
variable {P : Program} {ops : Array Oper} {rest : List Oper} {S : World → Prop} {o : Oper} {a : Act} {w : World} {K : Act → World → Prop} {Q : Exit → Act → World → Prop} {E : Prop}
theorem takeH {md : Region.Mode} {i : Nat} {oi : Oper} {v : Value} {fuel : Nat} {listed : Array Bool} (hi : ops[i]? = some oi)
    (hs : Region.noSelect ops = true) (hf : Region.free md ops listed i = true) (hr : (Region.ready md ops listed).contains i = true)
    (hQ : ∀ c a w, Q (.panic c) (a.put oi.dst v) w → Q (.panic c) a w) (d0 : Option Tmp) (hd0 : oi.dst = d0) (hy : YieldsIf P ops S oi v a) (hS : S w)
    (h : wpAnyH P md ops Q S fuel (listed.setIfInBounds i true) (a.put d0 v) w) : wpAnyH P md ops Q S (fuel + 1) listed a w := by
  subst hd0
  exact wpAnyH_take hi hs hf hr hQ hy hS h
theorem step_enter (hw : Region.wanted o (yielded ops a.tmps) = true) (f : Nat) (args : Array Value) (hr : (execOp a.eval o).run P w = .ok (.enter f args) w) (post : Ending → World → Prop) (hc : Calls P f args w post) (d0 : Option Tmp) (hd0 : o.dst = d0) (h : ∀ e w', post e w' → ∃ v, e = .returned v ∧ K (a.put d0 v) w') :
    if Region.wanted o (yielded ops a.tmps) = true then Oper.wp P o a w K Q else E := by
  subst hd0
  rw [if_pos hw]
  unfold Oper.wp
  rw [hr, Oper.upon_enter]
  refine hc.mono ?_
  intro e w' hp
  obtain ⟨v, rfl, hk⟩ := h e w' hp
  exact hk
theorem step_value (hw : Region.wanted o (yielded ops a.tmps) = true) (v : Value) (w' : World) (hr : (execOp a.eval o).run P w = .ok (.value v) w') (d0 : Option Tmp) (hd0 : o.dst = d0) (h : K (a.put d0 v) w') :
    if Region.wanted o (yielded ops a.tmps) = true then Oper.wp P o a w K Q else E := by
  subst hd0
  rw [if_pos hw]
  unfold Oper.wp
  rw [hr, Oper.upon_value]
  exact h
theorem step_store (hw : Region.wanted o (yielded ops a.tmps) = true) (ty : TypeId) (x y : Operand) (ho : o.op = .store ty x y)
    (g : Nat) (cells : Array Value) (hx : a.eval x = .pointer (some ⟨g, 0, none⟩)) (hy : a.eval y = .agg cells)
    (t : TypeId) (old : Array Value) (hg : Blk w g t old) (hi : (P.info? ty).map (·.size) = some cells.size)
    (hold : old.size = cells.size) (h1 : cells.all (·.oneCell') = true) (hd0 : o.dst = none) (h : K a (w.setRow g cells)) :
    if Region.wanted o (yielded ops a.tmps) = true then Oper.wp P o a w K Q else E := by
  rw [if_pos hw]
  exact wp_store_row ty x y ho g cells hx hy t old hg hi hold h1 (by rw [hd0]; exact h)
theorem wpList_runs (hg : o.guard = none) (dst : Option Tmp) (hdst : o.dst = dst)
    (v : Value) (w' : World) (hrun : (execOp a.eval o).run P w = .ok (.value v) w')
    (h : wpList P ops Q rest (a.put dst v) w') : wpList P ops Q (o :: rest) a w :=
  wpList_plain hg fun K hK => by
    subst hdst
    unfold Oper.wp
    rw [hrun, Oper.upon_value]
    exact hK _ _ h
theorem wpList_calls (hg : o.guard = none) (dst : Option Tmp) (hdst : o.dst = dst)
    (f : Nat) (args : Array Value) (hrun : (execOp a.eval o).run P w = .ok (.enter f args) w) (post : Ending → World → Prop) (hc : Calls P f args w post)
    (h : ∀ e w', post e w' → ∃ v, e = .returned v ∧ wpList P ops Q rest (a.put dst v) w') : wpList P ops Q (o :: rest) a w :=
  wpList_plain hg fun K hK => by
    subst hdst
    unfold Oper.wp
    rw [hrun, Oper.upon_enter]
    refine hc.mono ?_
    intro e w' hp
    obtain ⟨v, rfl, hk⟩ := h e w' hp
    exact hK _ _ hk
end
theorem setRow_blk {w : World} {g : Nat} {T : TypeId} {cs cs' : Array Value} (h : Blk w g T cs) : Blk (w.setRow g cs') g T cs' := setRow_heap w g cs cs' T (0, 0) h
theorem setRow_only (w : World) (g : Nat) (cs : Array Value) : Only (fun k => k = g) w (w.setRow g cs) :=
  ⟨rfl, rfl, rfl, by simp [World.setRow], fun k _ hk => setRow_other w g k cs hk⟩
theorem setRow_far {w : World} {g p : Nat} {T : TypeId} {cs cs' : Array Value} (h : Blk w g T cs) (hne : g ≠ p) : Blk (w.setRow p cs') g T cs' ∨ Blk (w.setRow p cs') g T cs := .inr ((setRow_other w p g cs' hne).trans h)
theorem below_only {w x y : World} {g : Nat} (h : Below w.heap.size w x) (ho : Only (fun k => k = g) x y) (hg : w.heap.size ≤ g) : Below w.heap.size w y :=
  h.trans (ho.toBelow h.size (fun k hk => by subst hk; exact hg))
theorem kd_info : (Tryd.prog.info? 61).map (·.size) = some 5 := by kernel_rfl
theorem kds_info : (Tryd.prog.info? 62).map (·.size) = some 35 := by kernel_rfl
theorem kdC_one (k : Kd) : (kdC k).all (·.oneCell') = true := by simp [kdC, Value.oneCell']
/-- The cells of the table. -/
def kdsZ : Array Value := #[.int .i64 0, .int .i64 0, .bool false, .bool false, .bool false, .int .i64 0, .int .i64 0, .bool false, .bool false, .bool false, .int .i64 0, .int .i64 0, .bool false, .bool false, .bool false, .int .i64 0, .int .i64 0, .bool false, .bool false, .bool false, .int .i64 0, .int .i64 0, .bool false, .bool false, .bool false, .int .i64 0, .int .i64 0, .bool false, .bool false, .bool false, .int .i64 0, .int .i64 0, .bool false, .bool false, .bool false]
def kdsC : Array Value := #[.int .i64 8, .int .i64 1, .bool false, .bool true, .bool false, .int .i64 9, .int .i64 0, .bool true, .bool false, .bool false, .int .i64 10, .int .i64 0, .bool true, .bool false, .bool false, .int .i64 11, .int .i64 0, .bool false, .bool false, .bool false, .int .i64 12, .int .i64 2, .bool true, .bool false, .bool false, .int .i64 0, .int .i64 0, .bool false, .bool false, .bool false, .int .i64 8, .int .i64 1, .bool false, .bool true, .bool true]
theorem kds_at (a i : Nat) (ha : a < 7) (hi : i < 5) : kdsC[5 * a + i]? = (kdC (kd a))[i]? := by
  have h1 : a = 0 ∨ a = 1 ∨ a = 2 ∨ a = 3 ∨ a = 4 ∨ a = 5 ∨ a = 6 := by omega
  have h2 : i = 0 ∨ i = 1 ∨ i = 2 ∨ i = 3 ∨ i = 4 := by omega
  rcases h1 with rfl | rfl | rfl | rfl | rfl | rfl | rfl <;> rcases h2 with rfl | rfl | rfl | rfl | rfl <;> rfl
theorem results_kd {fn : Func} {p u : Tmp} (h : fn.results = #[.cell p 61, .tmp u]) (tmps : Array Value) (w : World) (g : Nat) (x : Kd) (hp : tmps.getD p undef = .pointer (some ⟨g, 0, none⟩)) (hg : Blk w g 61 (kdC x)) :
    (results fn tmps).run Tryd.prog w = .ok (.tuple #[kdV x, tmps.getD u undef]) w := by
  rw [results_cell_tmp h, hp]
  have := run_loadVar_row (P := Tryd.prog) w g 61 61 (kdC x) (0, 0) _ hg Tryd.underlying61 rfl kd_info
  simp [asAddr, this, Result.andThen]
set_option maxRecDepth 100000 in
set_option maxHeartbeats 4000000 in
theorem kinds_any (w : World) : Calls Tryd.prog 17 #[] w fun e w' => e = .returned (.agg kdsC) ∧ Below w.heap.size w w' := by
  have HR0 := Lib.hid (Blk.new w 62 kdsZ)
  have HB0 := Lib.hid ((Below.refl w.heap.size w).alloc (Nat.le_refl _) (.cells kdsZ 62))
  go_enter Tryd.func17, Tryd.ntmps17
  go_upto_region 1 with (fail)
  change Code.wp _ _ _ _ (w.alloc (.cells kdsZ 62))
  generalize w.alloc (.cells kdsZ 62) = v0 at *
  obtain ⟨p, hp⟩ : ∃ p, p = w.heap.size := ⟨_, rfl⟩
  have HP := Lib.hid hp
  rw [← hp] at HR0 ⊢
  clear hp
  refine wp_region_lit ?_
  refine wpList_runs rfl (some 1) rfl (kdV (kd 0)) v0 (by kernel_rfl) ?_
  simp only [Act.put, List.setIfInBounds_toArray, List.set_cons_zero, List.set_cons_succ]
  refine wpList_runs rfl (some 2) rfl (kdV (kd 1)) v0 (by kernel_rfl) ?_
  simp only [Act.put, List.setIfInBounds_toArray, List.set_cons_zero, List.set_cons_succ]
  refine wpList_runs rfl (some 3) rfl (kdV (kd 2)) v0 (by kernel_rfl) ?_
  simp only [Act.put, List.setIfInBounds_toArray, List.set_cons_zero, List.set_cons_succ]
  refine wpList_runs rfl (some 4) rfl (kdV (kd 3)) v0 (by kernel_rfl) ?_
  simp only [Act.put, List.setIfInBounds_toArray, List.set_cons_zero, List.set_cons_succ]
  refine wpList_runs rfl (some 5) rfl (kdV (kd 4)) v0 (by kernel_rfl) ?_
  simp only [Act.put, List.setIfInBounds_toArray, List.set_cons_zero, List.set_cons_succ]
  refine wpList_runs rfl (some 6) rfl (kdV (kd 6)) v0 (by kernel_rfl) ?_
  simp only [Act.put, List.setIfInBounds_toArray, List.set_cons_zero, List.set_cons_succ]
  refine wpList_runs rfl (some 7) rfl (.agg kdsC) v0 (by kernel_rfl) ?_
  simp only [Act.put, List.setIfInBounds_toArray, List.set_cons_zero, List.set_cons_succ]
  refine wpList_store_row rfl 62 (.tmp 0) (.tmp 7) rfl p kdsC rfl rfl 62 kdsZ HR0.out kds_info rfl (by kernel_rfl) ?_
  go_wp2_with (fail)
  refine bodyPost_ret_by (results_cell_row Tryd.results17 _ _ p 62 kdsC (0, 0) _ rfl (setRow_blk HR0.out) Tryd.underlying62 rfl kds_info) rfl ?_
  exact ⟨rfl, below_setRow HB0.out (Nat.le_of_eq HP.out.symm) _⟩
set_option maxRecDepth 100000 in
set_option maxHeartbeats 4000000 in
theorem kindOf_no (a : Int) (h : ¬ (0 ≤ a ∧ a < 7)) (w : World) : Calls Tryd.prog 21 #[.int .i64 a] w fun e w' => e = .returned (.tuple #[kdV (kdOf a), .bool ((kdOf a).op != 0)]) ∧ Below w.heap.size w w' := by
  have HV := Lib.hid (show kdOf a = zKd by unfold kdOf; rw [if_neg h])
  have HK := Lib.hid (kinds_any)
  have HR0 := Lib.hid (Blk.new w 61 (kdC zKd))
  have HB0 := Lib.hid ((Below.refl w.heap.size w).alloc (Nat.le_refl _) (.cells (kdC zKd) 61))
  have q : (a < 0) ∨ (¬ a < 0 ∧ 7 ≤ a) := by omega
  clear h
  rcases q with q | ⟨q, q2⟩
  all_goals
    go_enter Tryd.func21, Tryd.ntmps21
    go_upto_region 1 with (fail)
    change Code.wp _ _ _ _ (w.alloc (.cells (kdC zKd) 61))
    generalize w.alloc (.cells (kdC zKd) 61) = v0 at *
    obtain ⟨p, hp⟩ : ∃ p, p = w.heap.size := ⟨_, rfl⟩
    have HP := Lib.hid hp
    rw [← hp] at HR0 ⊢
    clear hp
    refine wp_region_lit ?_
    refine wpList_calls rfl (some 5) rfl 17 #[] (by unfold execOp; simp [resolve, invoke, go_sem]) _ (HK.out v0) ?_
    rintro e v1 ⟨rfl, hb⟩
    refine ⟨_, rfl, ?_⟩
    have HR1 := Lib.hid (HR0.out.below hb HR0.out.lt)
    have HB1 := Lib.hid (HB0.out.trans (hb.mono HB0.out.size))
    clear hb
    simp only [Act.put, List.setIfInBounds_toArray, List.set_cons_zero, List.set_cons_succ]
    refine wpList_runs rfl (some 4) rfl (.pointer (some ⟨v1.heap.size, 0, none⟩)) (v1.alloc (.cells kdsZ 62)) (by kernel_rfl) ?_
    simp only [Act.put, List.setIfInBounds_toArray, List.set_cons_zero, List.set_cons_succ]
    have hal := (Below.refl v1.heap.size v1).alloc (Nat.le_refl _) (.cells kdsZ 62)
    have HQ := Lib.hid (Blk.new v1 62 kdsZ)
    have HR2 := Lib.hid (HR1.out.below hal HR1.out.lt)
    have HB2 := Lib.hid (HB1.out.trans (hal.mono HB1.out.size))
    have HLT := Lib.hid (HR1.out.lt)
    have HGW := Lib.hid (HB1.out.size)
    clear hal
    generalize v1.alloc (.cells kdsZ 62) = v2 at *
    obtain ⟨g, hg⟩ : ∃ g, g = v1.heap.size := ⟨_, rfl⟩
    rw [← hg] at HQ HLT HGW ⊢
    clear hg
    refine wpList_store_row rfl 62 (.tmp 4) (.tmp 5) rfl g kdsC rfl rfl 62 kdsZ HQ.out kds_info rfl (by kernel_rfl) ?_
    have HR3 := Lib.hid (show Blk (v2.setRow g kdsC) p 61 (kdC zKd) from (setRow_other v2 g p kdsC (by have := HLT.out; omega)).trans HR2.out)
    have HB3 := Lib.hid (below_only HB2.out (setRow_only v2 g kdsC) HGW.out)
    generalize v2.setRow g kdsC = v3 at *
    simp only [Act.put]
    go_upto_region 3 with (fail)
    refine wp_region_lit ?_
    refine wpList_runs rfl (some 12) rfl (kdV zKd) v3 (by kernel_rfl) ?_
    refine wpList_store_row rfl 61 (.tmp 2) (.tmp 12) rfl p (kdC zKd) rfl rfl 61 (kdC zKd) HR3.out kd_info rfl (kdC_one _) ?_
    go_wp2_with (fail)
    refine bodyPost_ret_by (results_kd rfl _ _ p zKd rfl (setRow_blk HR3.out)) rfl ?_
    exact ⟨by rw [HV.out]; rfl, below_setRow HB3.out (Nat.le_of_eq HP.out.symm) _⟩
set_option maxRecDepth 100000 in
set_option maxHeartbeats 4000000 in
theorem kindOf_0 (w : World) : Calls Tryd.prog 21 #[.int .i64 0] w fun e w' => e = .returned (.tuple #[kdV (kd 0), .bool true]) ∧ Below w.heap.size w w' := by
  have HK := Lib.hid (kinds_any)
  have HR0 := Lib.hid (Blk.new w 61 (kdC zKd))
  have HB0 := Lib.hid ((Below.refl w.heap.size w).alloc (Nat.le_refl _) (.cells (kdC zKd) 61))
  go_enter Tryd.func21, Tryd.ntmps21
  go_upto_region 1 with (fail)
  change Code.wp _ _ _ _ (w.alloc (.cells (kdC zKd) 61))
  generalize w.alloc (.cells (kdC zKd) 61) = v0 at *
  obtain ⟨p, hp⟩ : ∃ p, p = w.heap.size := ⟨_, rfl⟩
  have HP := Lib.hid hp
  rw [← hp] at HR0 ⊢
  clear hp
  refine wp_region_lit ?_
  refine wpList_calls rfl (some 5) rfl 17 #[] (by unfold execOp; simp [resolve, invoke, go_sem]) _ (HK.out v0) ?_
  rintro e v1 ⟨rfl, hb⟩
  refine ⟨_, rfl, ?_⟩
  have HR1 := Lib.hid (HR0.out.below hb HR0.out.lt)
  have HB1 := Lib.hid (HB0.out.trans (hb.mono HB0.out.size))
  clear hb
  simp only [Act.put, List.setIfInBounds_toArray, List.set_cons_zero, List.set_cons_succ]
  refine wpList_runs rfl (some 4) rfl (.pointer (some ⟨v1.heap.size, 0, none⟩)) (v1.alloc (.cells kdsZ 62)) (by kernel_rfl) ?_
  simp only [Act.put, List.setIfInBounds_toArray, List.set_cons_zero, List.set_cons_succ]
  have hal := (Below.refl v1.heap.size v1).alloc (Nat.le_refl _) (.cells kdsZ 62)
  have HQ := Lib.hid (Blk.new v1 62 kdsZ)
  have HR2 := Lib.hid (HR1.out.below hal HR1.out.lt)
  have HB2 := Lib.hid (HB1.out.trans (hal.mono HB1.out.size))
  have HLT := Lib.hid (HR1.out.lt)
  have HGW := Lib.hid (HB1.out.size)
  clear hal
  generalize v1.alloc (.cells kdsZ 62) = v2 at *
  obtain ⟨g, hg⟩ : ∃ g, g = v1.heap.size := ⟨_, rfl⟩
  rw [← hg] at HQ HLT HGW ⊢
  clear hg
  refine wpList_store_row rfl 62 (.tmp 4) (.tmp 5) rfl g kdsC rfl rfl 62 kdsZ HQ.out kds_info rfl (by kernel_rfl) ?_
  have HR3 := Lib.hid (show Blk (v2.setRow g kdsC) p 61 (kdC zKd) from (setRow_other v2 g p kdsC (by have := HLT.out; omega)).trans HR2.out)
  have HB3 := Lib.hid (below_only HB2.out (setRow_only v2 g kdsC) HGW.out)
  have HQ3 := Lib.hid (setRow_blk (cs' := kdsC) HQ.out)
  generalize v2.setRow g kdsC = v3 at *
  simp only [Act.put]
  go_upto_region 4 with (fail)
  refine wp_region_held_drew (S := fun v => Blk v g 62 kdsC) (by kernel_rfl) ?_ (fun hHeld => ?_)
  · exact HQ3.out.drew
  have HR := Lib.hid HR3.out.drew; have HB := Lib.hid HB3.out.drew
  generalize v3.drew = v4 at *
  refine takeH (i := 0) (v := ?_) rfl (by kernel_rfl) (by kernel_rfl) (by kernel_rfl) (fun _ _ _ h => h) (some 13) rfl (Or.inl ⟨by rfl, ?_⟩) (by assumption) ?_
  rotate_left 1
  · intro wz hSw
    go_simp
    try with_reducible rfl
  simp only [Act.put, List.setIfInBounds_toArray, List.set_cons_zero, List.set_cons_succ]
  refine takeH (i := 1) (v := ?_) rfl (by kernel_rfl) (by kernel_rfl) (by kernel_rfl) (fun _ _ _ h => h) (some 14) rfl (Or.inl ⟨by rfl, ?_⟩) (by assumption) ?_
  rotate_left 1
  · intro wz hSw
    go_simp
    try with_reducible rfl
  simp only [Act.put, List.setIfInBounds_toArray, List.set_cons_zero, List.set_cons_succ]
  refine takeH (i := 2) (v := ?_) rfl (by kernel_rfl) (by kernel_rfl) (by kernel_rfl) (fun _ _ _ h => h) (some 15) rfl (Or.inl ⟨by rfl, ?_⟩) (by assumption) ?_
  rotate_left 1
  · intro wz hSw
    have c0 : wz.cell? ⟨g, 0, none⟩ = some (.int .i64 8) := hSw.cell 0
    have c1 : wz.cell? ⟨g, 1, none⟩ = some (.int .i64 1) := hSw.cell 1
    have c2 : wz.cell? ⟨g, 2, none⟩ = some (.bool false) := hSw.cell 2
    have c3 : wz.cell? ⟨g, 3, none⟩ = some (.bool true) := hSw.cell 3
    have c4 : wz.cell? ⟨g, 4, none⟩ = some (.bool false) := hSw.cell 4
    go_simp
    try with_reducible rfl
  simp only [Act.put, List.setIfInBounds_toArray, List.set_cons_zero, List.set_cons_succ]
  refine takeH (i := 3) (v := ?_) rfl (by kernel_rfl) (by kernel_rfl) (by kernel_rfl) (fun _ _ _ h => h) (some 16) rfl (Or.inl ⟨by rfl, ?_⟩) (by assumption) ?_
  rotate_left 1
  · intro wz hSw
    go_simp
    try with_reducible rfl
  simp only [Act.put, List.setIfInBounds_toArray, List.set_cons_zero, List.set_cons_succ]
  refine takeH (i := 4) (v := ?_) rfl (by kernel_rfl) (by kernel_rfl) (by kernel_rfl) (fun _ _ _ h => h) (some 17) rfl (Or.inl ⟨by rfl, ?_⟩) (by assumption) ?_
  rotate_left 1
  · intro wz hSw
    go_simp
    try with_reducible rfl
  simp only [Act.put, List.setIfInBounds_toArray, List.set_cons_zero, List.set_cons_succ]
  refine takeH (i := 5) (v := ?_) rfl (by kernel_rfl) (by kernel_rfl) (by kernel_rfl) (fun _ _ _ h => h) (some 18) rfl (Or.inl ⟨by rfl, ?_⟩) (by assumption) ?_
  rotate_left 1
  · intro wz hSw
    go_simp
    try with_reducible rfl
  simp only [Act.put, List.setIfInBounds_toArray, List.set_cons_zero, List.set_cons_succ]
  refine takeH (i := 6) (v := ?_) rfl (by kernel_rfl) (by kernel_rfl) (by kernel_rfl) (fun _ _ _ h => h) (some 19) rfl (Or.inl ⟨by rfl, ?_⟩) (by assumption) ?_
  rotate_left 1
  · intro wz hSw
    have c0 : wz.cell? ⟨g, 0, none⟩ = some (.int .i64 8) := hSw.cell 0
    go_simp
    try with_reducible rfl
  simp only [Act.put, List.setIfInBounds_toArray, List.set_cons_zero, List.set_cons_succ]
  refine takeH (i := 7) (v := ?_) rfl (by kernel_rfl) (by kernel_rfl) (by kernel_rfl) (fun _ _ _ h => h) (some 20) rfl (Or.inl ⟨by rfl, ?_⟩) (by assumption) ?_
  rotate_left 1
  · intro wz hSw
    go_simp
    try with_reducible rfl
  simp only [Act.put, List.setIfInBounds_toArray, List.set_cons_zero, List.set_cons_succ]
  refine wpAnyH_ready (rs := [8]) (by kernel_rfl) (by simp) ?_
  refine AllReadyH.cons rfl (fun KK hKK => ?_) AllReadyH.nil
  refine step_store (by rfl) 61 (.tmp 2) (.tmp 15) rfl p (kdC (kd 0)) rfl rfl 61 (kdC zKd) HR.out kd_info rfl (kdC_one _) rfl ?_
  refine hKK.out _ _ ((setRow_other _ p g _ (by have := HLT.out; omega)).trans hHeld) (fun hHeld => ?_)
  clear hKK KK
  refine wpAnyH_ready (rs := [9]) (by kernel_rfl) (by simp) ?_
  refine AllReadyH.cons rfl (fun KK hKK => ?_) AllReadyH.nil
  refine step_value (by rfl) (.bool true) _ (by rfl) (some 3) rfl ?_
  refine hKK.out _ _ (by assumption) (fun hHeld => ?_)
  clear hKK KK
  simp only [Act.put, List.setIfInBounds_toArray, List.set_cons_zero, List.set_cons_succ]
  refine wpAnyH_done (by kernel_rfl) ?_ _
  go_wp2_with (fail)
  refine bodyPost_ret_by (results_kd rfl _ _ p (kd 0) rfl (setRow_blk HR.out)) rfl ?_
  exact ⟨rfl, below_setRow HB.out (Nat.le_of_eq HP.out.symm) _⟩
set_option maxRecDepth 100000 in
set_option maxHeartbeats 4000000 in
theorem kindOf_1 (w : World) : Calls Tryd.prog 21 #[.int .i64 1] w fun e w' => e = .returned (.tuple #[kdV (kd 1), .bool true]) ∧ Below w.heap.size w w' := by
  have HK := Lib.hid (kinds_any)
  have HR0 := Lib.hid (Blk.new w 61 (kdC zKd))
  have HB0 := Lib.hid ((Below.refl w.heap.size w).alloc (Nat.le_refl _) (.cells (kdC zKd) 61))
  go_enter Tryd.func21, Tryd.ntmps21
  go_upto_region 1 with (fail)
  change Code.wp _ _ _ _ (w.alloc (.cells (kdC zKd) 61))
  generalize w.alloc (.cells (kdC zKd) 61) = v0 at *
  obtain ⟨p, hp⟩ : ∃ p, p = w.heap.size := ⟨_, rfl⟩
  have HP := Lib.hid hp
  rw [← hp] at HR0 ⊢
  clear hp
  refine wp_region_lit ?_
  refine wpList_calls rfl (some 5) rfl 17 #[] (by unfold execOp; simp [resolve, invoke, go_sem]) _ (HK.out v0) ?_
  rintro e v1 ⟨rfl, hb⟩
  refine ⟨_, rfl, ?_⟩
  have HR1 := Lib.hid (HR0.out.below hb HR0.out.lt)
  have HB1 := Lib.hid (HB0.out.trans (hb.mono HB0.out.size))
  clear hb
  simp only [Act.put, List.setIfInBounds_toArray, List.set_cons_zero, List.set_cons_succ]
  refine wpList_runs rfl (some 4) rfl (.pointer (some ⟨v1.heap.size, 0, none⟩)) (v1.alloc (.cells kdsZ 62)) (by kernel_rfl) ?_
  simp only [Act.put, List.setIfInBounds_toArray, List.set_cons_zero, List.set_cons_succ]
  have hal := (Below.refl v1.heap.size v1).alloc (Nat.le_refl _) (.cells kdsZ 62)
  have HQ := Lib.hid (Blk.new v1 62 kdsZ)
  have HR2 := Lib.hid (HR1.out.below hal HR1.out.lt)
  have HB2 := Lib.hid (HB1.out.trans (hal.mono HB1.out.size))
  have HLT := Lib.hid (HR1.out.lt)
  have HGW := Lib.hid (HB1.out.size)
  clear hal
  generalize v1.alloc (.cells kdsZ 62) = v2 at *
  obtain ⟨g, hg⟩ : ∃ g, g = v1.heap.size := ⟨_, rfl⟩
  rw [← hg] at HQ HLT HGW ⊢
  clear hg
  refine wpList_store_row rfl 62 (.tmp 4) (.tmp 5) rfl g kdsC rfl rfl 62 kdsZ HQ.out kds_info rfl (by kernel_rfl) ?_
  have HR3 := Lib.hid (show Blk (v2.setRow g kdsC) p 61 (kdC zKd) from (setRow_other v2 g p kdsC (by have := HLT.out; omega)).trans HR2.out)
  have HB3 := Lib.hid (below_only HB2.out (setRow_only v2 g kdsC) HGW.out)
  have HQ3 := Lib.hid (setRow_blk (cs' := kdsC) HQ.out)
  generalize v2.setRow g kdsC = v3 at *
  simp only [Act.put]
  go_upto_region 4 with (fail)
  refine wp_region_held_drew (S := fun v => Blk v g 62 kdsC) (by kernel_rfl) ?_ (fun hHeld => ?_)
  · exact HQ3.out.drew
  have HR := Lib.hid HR3.out.drew; have HB := Lib.hid HB3.out.drew
  generalize v3.drew = v4 at *
  refine takeH (i := 0) (v := ?_) rfl (by kernel_rfl) (by kernel_rfl) (by kernel_rfl) (fun _ _ _ h => h) (some 13) rfl (Or.inl ⟨by rfl, ?_⟩) (by assumption) ?_
  rotate_left 1
  · intro wz hSw
    go_simp
    try with_reducible rfl
  simp only [Act.put, List.setIfInBounds_toArray, List.set_cons_zero, List.set_cons_succ]
  refine takeH (i := 1) (v := ?_) rfl (by kernel_rfl) (by kernel_rfl) (by kernel_rfl) (fun _ _ _ h => h) (some 14) rfl (Or.inl ⟨by rfl, ?_⟩) (by assumption) ?_
  rotate_left 1
  · intro wz hSw
    go_simp
    try with_reducible rfl
  simp only [Act.put, List.setIfInBounds_toArray, List.set_cons_zero, List.set_cons_succ]
  refine takeH (i := 2) (v := ?_) rfl (by kernel_rfl) (by kernel_rfl) (by kernel_rfl) (fun _ _ _ h => h) (some 15) rfl (Or.inl ⟨by rfl, ?_⟩) (by assumption) ?_
  rotate_left 1
  · intro wz hSw
    have c0 : wz.cell? ⟨g, 5, none⟩ = some (.int .i64 9) := hSw.cell 5
    have c1 : wz.cell? ⟨g, 6, none⟩ = some (.int .i64 0) := hSw.cell 6
    have c2 : wz.cell? ⟨g, 7, none⟩ = some (.bool true) := hSw.cell 7
    have c3 : wz.cell? ⟨g, 8, none⟩ = some (.bool false) := hSw.cell 8
    have c4 : wz.cell? ⟨g, 9, none⟩ = some (.bool false) := hSw.cell 9
    go_simp
    try with_reducible rfl
  simp only [Act.put, List.setIfInBounds_toArray, List.set_cons_zero, List.set_cons_succ]
  refine takeH (i := 3) (v := ?_) rfl (by kernel_rfl) (by kernel_rfl) (by kernel_rfl) (fun _ _ _ h => h) (some 16) rfl (Or.inl ⟨by rfl, ?_⟩) (by assumption) ?_
  rotate_left 1
  · intro wz hSw
    go_simp
    try with_reducible rfl
  simp only [Act.put, List.setIfInBounds_toArray, List.set_cons_zero, List.set_cons_succ]
  refine takeH (i := 4) (v := ?_) rfl (by kernel_rfl) (by kernel_rfl) (by kernel_rfl) (fun _ _ _ h => h) (some 17) rfl (Or.inl ⟨by rfl, ?_⟩) (by assumption) ?_
  rotate_left 1
  · intro wz hSw
    go_simp
    try with_reducible rfl
  simp only [Act.put, List.setIfInBounds_toArray, List.set_cons_zero, List.set_cons_succ]
  refine takeH (i := 5) (v := ?_) rfl (by kernel_rfl) (by kernel_rfl) (by kernel_rfl) (fun _ _ _ h => h) (some 18) rfl (Or.inl ⟨by rfl, ?_⟩) (by assumption) ?_
  rotate_left 1
  · intro wz hSw
    go_simp
    try with_reducible rfl
  simp only [Act.put, List.setIfInBounds_toArray, List.set_cons_zero, List.set_cons_succ]
  refine takeH (i := 6) (v := ?_) rfl (by kernel_rfl) (by kernel_rfl) (by kernel_rfl) (fun _ _ _ h => h) (some 19) rfl (Or.inl ⟨by rfl, ?_⟩) (by assumption) ?_
  rotate_left 1
  · intro wz hSw
    have c0 : wz.cell? ⟨g, 5, none⟩ = some (.int .i64 9) := hSw.cell 5
    go_simp
    try with_reducible rfl
  simp only [Act.put, List.setIfInBounds_toArray, List.set_cons_zero, List.set_cons_succ]
  refine takeH (i := 7) (v := ?_) rfl (by kernel_rfl) (by kernel_rfl) (by kernel_rfl) (fun _ _ _ h => h) (some 20) rfl (Or.inl ⟨by rfl, ?_⟩) (by assumption) ?_
  rotate_left 1
  · intro wz hSw
    go_simp
    try with_reducible rfl
  simp only [Act.put, List.setIfInBounds_toArray, List.set_cons_zero, List.set_cons_succ]
  refine wpAnyH_ready (rs := [8]) (by kernel_rfl) (by simp) ?_
  refine AllReadyH.cons rfl (fun KK hKK => ?_) AllReadyH.nil
  refine step_store (by rfl) 61 (.tmp 2) (.tmp 15) rfl p (kdC (kd 1)) rfl rfl 61 (kdC zKd) HR.out kd_info rfl (kdC_one _) rfl ?_
  refine hKK.out _ _ ((setRow_other _ p g _ (by have := HLT.out; omega)).trans hHeld) (fun hHeld => ?_)
  clear hKK KK
  refine wpAnyH_ready (rs := [9]) (by kernel_rfl) (by simp) ?_
  refine AllReadyH.cons rfl (fun KK hKK => ?_) AllReadyH.nil
  refine step_value (by rfl) (.bool true) _ (by rfl) (some 3) rfl ?_
  refine hKK.out _ _ (by assumption) (fun hHeld => ?_)
  clear hKK KK
  simp only [Act.put, List.setIfInBounds_toArray, List.set_cons_zero, List.set_cons_succ]
  refine wpAnyH_done (by kernel_rfl) ?_ _
  go_wp2_with (fail)
  refine bodyPost_ret_by (results_kd rfl _ _ p (kd 1) rfl (setRow_blk HR.out)) rfl ?_
  exact ⟨rfl, below_setRow HB.out (Nat.le_of_eq HP.out.symm) _⟩
set_option maxRecDepth 100000 in
set_option maxHeartbeats 4000000 in
theorem kindOf_2 (w : World) : Calls Tryd.prog 21 #[.int .i64 2] w fun e w' => e = .returned (.tuple #[kdV (kd 2), .bool true]) ∧ Below w.heap.size w w' := by
  have HK := Lib.hid (kinds_any)
  have HR0 := Lib.hid (Blk.new w 61 (kdC zKd))
  have HB0 := Lib.hid ((Below.refl w.heap.size w).alloc (Nat.le_refl _) (.cells (kdC zKd) 61))
  go_enter Tryd.func21, Tryd.ntmps21
  go_upto_region 1 with (fail)
  change Code.wp _ _ _ _ (w.alloc (.cells (kdC zKd) 61))
  generalize w.alloc (.cells (kdC zKd) 61) = v0 at *
  obtain ⟨p, hp⟩ : ∃ p, p = w.heap.size := ⟨_, rfl⟩
  have HP := Lib.hid hp
  rw [← hp] at HR0 ⊢
  clear hp
  refine wp_region_lit ?_
  refine wpList_calls rfl (some 5) rfl 17 #[] (by unfold execOp; simp [resolve, invoke, go_sem]) _ (HK.out v0) ?_
  rintro e v1 ⟨rfl, hb⟩
  refine ⟨_, rfl, ?_⟩
  have HR1 := Lib.hid (HR0.out.below hb HR0.out.lt)
  have HB1 := Lib.hid (HB0.out.trans (hb.mono HB0.out.size))
  clear hb
  simp only [Act.put, List.setIfInBounds_toArray, List.set_cons_zero, List.set_cons_succ]
  refine wpList_runs rfl (some 4) rfl (.pointer (some ⟨v1.heap.size, 0, none⟩)) (v1.alloc (.cells kdsZ 62)) (by kernel_rfl) ?_
  simp only [Act.put, List.setIfInBounds_toArray, List.set_cons_zero, List.set_cons_succ]
  have hal := (Below.refl v1.heap.size v1).alloc (Nat.le_refl _) (.cells kdsZ 62)
  have HQ := Lib.hid (Blk.new v1 62 kdsZ)
  have HR2 := Lib.hid (HR1.out.below hal HR1.out.lt)
  have HB2 := Lib.hid (HB1.out.trans (hal.mono HB1.out.size))
  have HLT := Lib.hid (HR1.out.lt)
  have HGW := Lib.hid (HB1.out.size)
  clear hal
  generalize v1.alloc (.cells kdsZ 62) = v2 at *
  obtain ⟨g, hg⟩ : ∃ g, g = v1.heap.size := ⟨_, rfl⟩
  rw [← hg] at HQ HLT HGW ⊢
  clear hg
  refine wpList_store_row rfl 62 (.tmp 4) (.tmp 5) rfl g kdsC rfl rfl 62 kdsZ HQ.out kds_info rfl (by kernel_rfl) ?_
  have HR3 := Lib.hid (show Blk (v2.setRow g kdsC) p 61 (kdC zKd) from (setRow_other v2 g p kdsC (by have := HLT.out; omega)).trans HR2.out)
  have HB3 := Lib.hid (below_only HB2.out (setRow_only v2 g kdsC) HGW.out)
  have HQ3 := Lib.hid (setRow_blk (cs' := kdsC) HQ.out)
  generalize v2.setRow g kdsC = v3 at *
  simp only [Act.put]
  go_upto_region 4 with (fail)
  refine wp_region_held_drew (S := fun v => Blk v g 62 kdsC) (by kernel_rfl) ?_ (fun hHeld => ?_)
  · exact HQ3.out.drew
  have HR := Lib.hid HR3.out.drew; have HB := Lib.hid HB3.out.drew
  generalize v3.drew = v4 at *
  refine takeH (i := 0) (v := ?_) rfl (by kernel_rfl) (by kernel_rfl) (by kernel_rfl) (fun _ _ _ h => h) (some 13) rfl (Or.inl ⟨by rfl, ?_⟩) (by assumption) ?_
  rotate_left 1
  · intro wz hSw
    go_simp
    try with_reducible rfl
  simp only [Act.put, List.setIfInBounds_toArray, List.set_cons_zero, List.set_cons_succ]
  refine takeH (i := 1) (v := ?_) rfl (by kernel_rfl) (by kernel_rfl) (by kernel_rfl) (fun _ _ _ h => h) (some 14) rfl (Or.inl ⟨by rfl, ?_⟩) (by assumption) ?_
  rotate_left 1
  · intro wz hSw
    go_simp
    try with_reducible rfl
  simp only [Act.put, List.setIfInBounds_toArray, List.set_cons_zero, List.set_cons_succ]
  refine takeH (i := 2) (v := ?_) rfl (by kernel_rfl) (by kernel_rfl) (by kernel_rfl) (fun _ _ _ h => h) (some 15) rfl (Or.inl ⟨by rfl, ?_⟩) (by assumption) ?_
  rotate_left 1
  · intro wz hSw
    have c0 : wz.cell? ⟨g, 10, none⟩ = some (.int .i64 10) := hSw.cell 10
    have c1 : wz.cell? ⟨g, 11, none⟩ = some (.int .i64 0) := hSw.cell 11
    have c2 : wz.cell? ⟨g, 12, none⟩ = some (.bool true) := hSw.cell 12
    have c3 : wz.cell? ⟨g, 13, none⟩ = some (.bool false) := hSw.cell 13
    have c4 : wz.cell? ⟨g, 14, none⟩ = some (.bool false) := hSw.cell 14
    go_simp
    try with_reducible rfl
  simp only [Act.put, List.setIfInBounds_toArray, List.set_cons_zero, List.set_cons_succ]
  refine takeH (i := 3) (v := ?_) rfl (by kernel_rfl) (by kernel_rfl) (by kernel_rfl) (fun _ _ _ h => h) (some 16) rfl (Or.inl ⟨by rfl, ?_⟩) (by assumption) ?_
  rotate_left 1
  · intro wz hSw
    go_simp
    try with_reducible rfl
  simp only [Act.put, List.setIfInBounds_toArray, List.set_cons_zero, List.set_cons_succ]
  refine takeH (i := 4) (v := ?_) rfl (by kernel_rfl) (by kernel_rfl) (by kernel_rfl) (fun _ _ _ h => h) (some 17) rfl (Or.inl ⟨by rfl, ?_⟩) (by assumption) ?_
  rotate_left 1
  · intro wz hSw
    go_simp
    try with_reducible rfl
  simp only [Act.put, List.setIfInBounds_toArray, List.set_cons_zero, List.set_cons_succ]
  refine takeH (i := 5) (v := ?_) rfl (by kernel_rfl) (by kernel_rfl) (by kernel_rfl) (fun _ _ _ h => h) (some 18) rfl (Or.inl ⟨by rfl, ?_⟩) (by assumption) ?_
  rotate_left 1
  · intro wz hSw
    go_simp
    try with_reducible rfl
  simp only [Act.put, List.setIfInBounds_toArray, List.set_cons_zero, List.set_cons_succ]
  refine takeH (i := 6) (v := ?_) rfl (by kernel_rfl) (by kernel_rfl) (by kernel_rfl) (fun _ _ _ h => h) (some 19) rfl (Or.inl ⟨by rfl, ?_⟩) (by assumption) ?_
  rotate_left 1
  · intro wz hSw
    have c0 : wz.cell? ⟨g, 10, none⟩ = some (.int .i64 10) := hSw.cell 10
    go_simp
    try with_reducible rfl
  simp only [Act.put, List.setIfInBounds_toArray, List.set_cons_zero, List.set_cons_succ]
  refine takeH (i := 7) (v := ?_) rfl (by kernel_rfl) (by kernel_rfl) (by kernel_rfl) (fun _ _ _ h => h) (some 20) rfl (Or.inl ⟨by rfl, ?_⟩) (by assumption) ?_
  rotate_left 1
  · intro wz hSw
    go_simp
    try with_reducible rfl
  simp only [Act.put, List.setIfInBounds_toArray, List.set_cons_zero, List.set_cons_succ]
  refine wpAnyH_ready (rs := [8]) (by kernel_rfl) (by simp) ?_
  refine AllReadyH.cons rfl (fun KK hKK => ?_) AllReadyH.nil
  refine step_store (by rfl) 61 (.tmp 2) (.tmp 15) rfl p (kdC (kd 2)) rfl rfl 61 (kdC zKd) HR.out kd_info rfl (kdC_one _) rfl ?_
  refine hKK.out _ _ ((setRow_other _ p g _ (by have := HLT.out; omega)).trans hHeld) (fun hHeld => ?_)
  clear hKK KK
  refine wpAnyH_ready (rs := [9]) (by kernel_rfl) (by simp) ?_
  refine AllReadyH.cons rfl (fun KK hKK => ?_) AllReadyH.nil
  refine step_value (by rfl) (.bool true) _ (by rfl) (some 3) rfl ?_
  refine hKK.out _ _ (by assumption) (fun hHeld => ?_)
  clear hKK KK
  simp only [Act.put, List.setIfInBounds_toArray, List.set_cons_zero, List.set_cons_succ]
  refine wpAnyH_done (by kernel_rfl) ?_ _
  go_wp2_with (fail)
  refine bodyPost_ret_by (results_kd rfl _ _ p (kd 2) rfl (setRow_blk HR.out)) rfl ?_
  exact ⟨rfl, below_setRow HB.out (Nat.le_of_eq HP.out.symm) _⟩
set_option maxRecDepth 100000 in
set_option maxHeartbeats 4000000 in
theorem kindOf_3 (w : World) : Calls Tryd.prog 21 #[.int .i64 3] w fun e w' => e = .returned (.tuple #[kdV (kd 3), .bool true]) ∧ Below w.heap.size w w' := by
  have HK := Lib.hid (kinds_any)
  have HR0 := Lib.hid (Blk.new w 61 (kdC zKd))
  have HB0 := Lib.hid ((Below.refl w.heap.size w).alloc (Nat.le_refl _) (.cells (kdC zKd) 61))
  go_enter Tryd.func21, Tryd.ntmps21
  go_upto_region 1 with (fail)
  change Code.wp _ _ _ _ (w.alloc (.cells (kdC zKd) 61))
  generalize w.alloc (.cells (kdC zKd) 61) = v0 at *
  obtain ⟨p, hp⟩ : ∃ p, p = w.heap.size := ⟨_, rfl⟩
  have HP := Lib.hid hp
  rw [← hp] at HR0 ⊢
  clear hp
  refine wp_region_lit ?_
  refine wpList_calls rfl (some 5) rfl 17 #[] (by unfold execOp; simp [resolve, invoke, go_sem]) _ (HK.out v0) ?_
  rintro e v1 ⟨rfl, hb⟩
  refine ⟨_, rfl, ?_⟩
  have HR1 := Lib.hid (HR0.out.below hb HR0.out.lt)
  have HB1 := Lib.hid (HB0.out.trans (hb.mono HB0.out.size))
  clear hb
  simp only [Act.put, List.setIfInBounds_toArray, List.set_cons_zero, List.set_cons_succ]
  refine wpList_runs rfl (some 4) rfl (.pointer (some ⟨v1.heap.size, 0, none⟩)) (v1.alloc (.cells kdsZ 62)) (by kernel_rfl) ?_
  simp only [Act.put, List.setIfInBounds_toArray, List.set_cons_zero, List.set_cons_succ]
  have hal := (Below.refl v1.heap.size v1).alloc (Nat.le_refl _) (.cells kdsZ 62)
  have HQ := Lib.hid (Blk.new v1 62 kdsZ)
  have HR2 := Lib.hid (HR1.out.below hal HR1.out.lt)
  have HB2 := Lib.hid (HB1.out.trans (hal.mono HB1.out.size))
  have HLT := Lib.hid (HR1.out.lt)
  have HGW := Lib.hid (HB1.out.size)
  clear hal
  generalize v1.alloc (.cells kdsZ 62) = v2 at *
  obtain ⟨g, hg⟩ : ∃ g, g = v1.heap.size := ⟨_, rfl⟩
  rw [← hg] at HQ HLT HGW ⊢
  clear hg
  refine wpList_store_row rfl 62 (.tmp 4) (.tmp 5) rfl g kdsC rfl rfl 62 kdsZ HQ.out kds_info rfl (by kernel_rfl) ?_
  have HR3 := Lib.hid (show Blk (v2.setRow g kdsC) p 61 (kdC zKd) from (setRow_other v2 g p kdsC (by have := HLT.out; omega)).trans HR2.out)
  have HB3 := Lib.hid (below_only HB2.out (setRow_only v2 g kdsC) HGW.out)
  have HQ3 := Lib.hid (setRow_blk (cs' := kdsC) HQ.out)
  generalize v2.setRow g kdsC = v3 at *
  simp only [Act.put]
  go_upto_region 4 with (fail)
  refine wp_region_held_drew (S := fun v => Blk v g 62 kdsC) (by kernel_rfl) ?_ (fun hHeld => ?_)
  · exact HQ3.out.drew
  have HR := Lib.hid HR3.out.drew; have HB := Lib.hid HB3.out.drew
  generalize v3.drew = v4 at *
  refine takeH (i := 0) (v := ?_) rfl (by kernel_rfl) (by kernel_rfl) (by kernel_rfl) (fun _ _ _ h => h) (some 13) rfl (Or.inl ⟨by rfl, ?_⟩) (by assumption) ?_
  rotate_left 1
  · intro wz hSw
    go_simp
    try with_reducible rfl
  simp only [Act.put, List.setIfInBounds_toArray, List.set_cons_zero, List.set_cons_succ]
  refine takeH (i := 1) (v := ?_) rfl (by kernel_rfl) (by kernel_rfl) (by kernel_rfl) (fun _ _ _ h => h) (some 14) rfl (Or.inl ⟨by rfl, ?_⟩) (by assumption) ?_
  rotate_left 1
  · intro wz hSw
    go_simp
    try with_reducible rfl
  simp only [Act.put, List.setIfInBounds_toArray, List.set_cons_zero, List.set_cons_succ]
  refine takeH (i := 2) (v := ?_) rfl (by kernel_rfl) (by kernel_rfl) (by kernel_rfl) (fun _ _ _ h => h) (some 15) rfl (Or.inl ⟨by rfl, ?_⟩) (by assumption) ?_
  rotate_left 1
  · intro wz hSw
    have c0 : wz.cell? ⟨g, 15, none⟩ = some (.int .i64 11) := hSw.cell 15
    have c1 : wz.cell? ⟨g, 16, none⟩ = some (.int .i64 0) := hSw.cell 16
    have c2 : wz.cell? ⟨g, 17, none⟩ = some (.bool false) := hSw.cell 17
    have c3 : wz.cell? ⟨g, 18, none⟩ = some (.bool false) := hSw.cell 18
    have c4 : wz.cell? ⟨g, 19, none⟩ = some (.bool false) := hSw.cell 19
    go_simp
    try with_reducible rfl
  simp only [Act.put, List.setIfInBounds_toArray, List.set_cons_zero, List.set_cons_succ]
  refine takeH (i := 3) (v := ?_) rfl (by kernel_rfl) (by kernel_rfl) (by kernel_rfl) (fun _ _ _ h => h) (some 16) rfl (Or.inl ⟨by rfl, ?_⟩) (by assumption) ?_
  rotate_left 1
  · intro wz hSw
    go_simp
    try with_reducible rfl
  simp only [Act.put, List.setIfInBounds_toArray, List.set_cons_zero, List.set_cons_succ]
  refine takeH (i := 4) (v := ?_) rfl (by kernel_rfl) (by kernel_rfl) (by kernel_rfl) (fun _ _ _ h => h) (some 17) rfl (Or.inl ⟨by rfl, ?_⟩) (by assumption) ?_
  rotate_left 1
  · intro wz hSw
    go_simp
    try with_reducible rfl
  simp only [Act.put, List.setIfInBounds_toArray, List.set_cons_zero, List.set_cons_succ]
  refine takeH (i := 5) (v := ?_) rfl (by kernel_rfl) (by kernel_rfl) (by kernel_rfl) (fun _ _ _ h => h) (some 18) rfl (Or.inl ⟨by rfl, ?_⟩) (by assumption) ?_
  rotate_left 1
  · intro wz hSw
    go_simp
    try with_reducible rfl
  simp only [Act.put, List.setIfInBounds_toArray, List.set_cons_zero, List.set_cons_succ]
  refine takeH (i := 6) (v := ?_) rfl (by kernel_rfl) (by kernel_rfl) (by kernel_rfl) (fun _ _ _ h => h) (some 19) rfl (Or.inl ⟨by rfl, ?_⟩) (by assumption) ?_
  rotate_left 1
  · intro wz hSw
    have c0 : wz.cell? ⟨g, 15, none⟩ = some (.int .i64 11) := hSw.cell 15
    go_simp
    try with_reducible rfl
  simp only [Act.put, List.setIfInBounds_toArray, List.set_cons_zero, List.set_cons_succ]
  refine takeH (i := 7) (v := ?_) rfl (by kernel_rfl) (by kernel_rfl) (by kernel_rfl) (fun _ _ _ h => h) (some 20) rfl (Or.inl ⟨by rfl, ?_⟩) (by assumption) ?_
  rotate_left 1
  · intro wz hSw
    go_simp
    try with_reducible rfl
  simp only [Act.put, List.setIfInBounds_toArray, List.set_cons_zero, List.set_cons_succ]
  refine wpAnyH_ready (rs := [8]) (by kernel_rfl) (by simp) ?_
  refine AllReadyH.cons rfl (fun KK hKK => ?_) AllReadyH.nil
  refine step_store (by rfl) 61 (.tmp 2) (.tmp 15) rfl p (kdC (kd 3)) rfl rfl 61 (kdC zKd) HR.out kd_info rfl (kdC_one _) rfl ?_
  refine hKK.out _ _ ((setRow_other _ p g _ (by have := HLT.out; omega)).trans hHeld) (fun hHeld => ?_)
  clear hKK KK
  refine wpAnyH_ready (rs := [9]) (by kernel_rfl) (by simp) ?_
  refine AllReadyH.cons rfl (fun KK hKK => ?_) AllReadyH.nil
  refine step_value (by rfl) (.bool true) _ (by rfl) (some 3) rfl ?_
  refine hKK.out _ _ (by assumption) (fun hHeld => ?_)
  clear hKK KK
  simp only [Act.put, List.setIfInBounds_toArray, List.set_cons_zero, List.set_cons_succ]
  refine wpAnyH_done (by kernel_rfl) ?_ _
  go_wp2_with (fail)
  refine bodyPost_ret_by (results_kd rfl _ _ p (kd 3) rfl (setRow_blk HR.out)) rfl ?_
  exact ⟨rfl, below_setRow HB.out (Nat.le_of_eq HP.out.symm) _⟩
set_option maxRecDepth 100000 in
set_option maxHeartbeats 4000000 in
theorem kindOf_4 (w : World) : Calls Tryd.prog 21 #[.int .i64 4] w fun e w' => e = .returned (.tuple #[kdV (kd 4), .bool true]) ∧ Below w.heap.size w w' := by
  have HK := Lib.hid (kinds_any)
  have HR0 := Lib.hid (Blk.new w 61 (kdC zKd))
  have HB0 := Lib.hid ((Below.refl w.heap.size w).alloc (Nat.le_refl _) (.cells (kdC zKd) 61))
  go_enter Tryd.func21, Tryd.ntmps21
  go_upto_region 1 with (fail)
  change Code.wp _ _ _ _ (w.alloc (.cells (kdC zKd) 61))
  generalize w.alloc (.cells (kdC zKd) 61) = v0 at *
  obtain ⟨p, hp⟩ : ∃ p, p = w.heap.size := ⟨_, rfl⟩
  have HP := Lib.hid hp
  rw [← hp] at HR0 ⊢
  clear hp
  refine wp_region_lit ?_
  refine wpList_calls rfl (some 5) rfl 17 #[] (by unfold execOp; simp [resolve, invoke, go_sem]) _ (HK.out v0) ?_
  rintro e v1 ⟨rfl, hb⟩
  refine ⟨_, rfl, ?_⟩
  have HR1 := Lib.hid (HR0.out.below hb HR0.out.lt)
  have HB1 := Lib.hid (HB0.out.trans (hb.mono HB0.out.size))
  clear hb
  simp only [Act.put, List.setIfInBounds_toArray, List.set_cons_zero, List.set_cons_succ]
  refine wpList_runs rfl (some 4) rfl (.pointer (some ⟨v1.heap.size, 0, none⟩)) (v1.alloc (.cells kdsZ 62)) (by kernel_rfl) ?_
  simp only [Act.put, List.setIfInBounds_toArray, List.set_cons_zero, List.set_cons_succ]
  have hal := (Below.refl v1.heap.size v1).alloc (Nat.le_refl _) (.cells kdsZ 62)
  have HQ := Lib.hid (Blk.new v1 62 kdsZ)
  have HR2 := Lib.hid (HR1.out.below hal HR1.out.lt)
  have HB2 := Lib.hid (HB1.out.trans (hal.mono HB1.out.size))
  have HLT := Lib.hid (HR1.out.lt)
  have HGW := Lib.hid (HB1.out.size)
  clear hal
  generalize v1.alloc (.cells kdsZ 62) = v2 at *
  obtain ⟨g, hg⟩ : ∃ g, g = v1.heap.size := ⟨_, rfl⟩
  rw [← hg] at HQ HLT HGW ⊢
  clear hg
  refine wpList_store_row rfl 62 (.tmp 4) (.tmp 5) rfl g kdsC rfl rfl 62 kdsZ HQ.out kds_info rfl (by kernel_rfl) ?_
  have HR3 := Lib.hid (show Blk (v2.setRow g kdsC) p 61 (kdC zKd) from (setRow_other v2 g p kdsC (by have := HLT.out; omega)).trans HR2.out)
  have HB3 := Lib.hid (below_only HB2.out (setRow_only v2 g kdsC) HGW.out)
  have HQ3 := Lib.hid (setRow_blk (cs' := kdsC) HQ.out)
  generalize v2.setRow g kdsC = v3 at *
  simp only [Act.put]
  go_upto_region 4 with (fail)
  refine wp_region_held_drew (S := fun v => Blk v g 62 kdsC) (by kernel_rfl) ?_ (fun hHeld => ?_)
  · exact HQ3.out.drew
  have HR := Lib.hid HR3.out.drew; have HB := Lib.hid HB3.out.drew
  generalize v3.drew = v4 at *
  refine takeH (i := 0) (v := ?_) rfl (by kernel_rfl) (by kernel_rfl) (by kernel_rfl) (fun _ _ _ h => h) (some 13) rfl (Or.inl ⟨by rfl, ?_⟩) (by assumption) ?_
  rotate_left 1
  · intro wz hSw
    go_simp
    try with_reducible rfl
  simp only [Act.put, List.setIfInBounds_toArray, List.set_cons_zero, List.set_cons_succ]
  refine takeH (i := 1) (v := ?_) rfl (by kernel_rfl) (by kernel_rfl) (by kernel_rfl) (fun _ _ _ h => h) (some 14) rfl (Or.inl ⟨by rfl, ?_⟩) (by assumption) ?_
  rotate_left 1
  · intro wz hSw
    go_simp
    try with_reducible rfl
  simp only [Act.put, List.setIfInBounds_toArray, List.set_cons_zero, List.set_cons_succ]
  refine takeH (i := 2) (v := ?_) rfl (by kernel_rfl) (by kernel_rfl) (by kernel_rfl) (fun _ _ _ h => h) (some 15) rfl (Or.inl ⟨by rfl, ?_⟩) (by assumption) ?_
  rotate_left 1
  · intro wz hSw
    have c0 : wz.cell? ⟨g, 20, none⟩ = some (.int .i64 12) := hSw.cell 20
    have c1 : wz.cell? ⟨g, 21, none⟩ = some (.int .i64 2) := hSw.cell 21
    have c2 : wz.cell? ⟨g, 22, none⟩ = some (.bool true) := hSw.cell 22
    have c3 : wz.cell? ⟨g, 23, none⟩ = some (.bool false) := hSw.cell 23
    have c4 : wz.cell? ⟨g, 24, none⟩ = some (.bool false) := hSw.cell 24
    go_simp
    try with_reducible rfl
  simp only [Act.put, List.setIfInBounds_toArray, List.set_cons_zero, List.set_cons_succ]
  refine takeH (i := 3) (v := ?_) rfl (by kernel_rfl) (by kernel_rfl) (by kernel_rfl) (fun _ _ _ h => h) (some 16) rfl (Or.inl ⟨by rfl, ?_⟩) (by assumption) ?_
  rotate_left 1
  · intro wz hSw
    go_simp
    try with_reducible rfl
  simp only [Act.put, List.setIfInBounds_toArray, List.set_cons_zero, List.set_cons_succ]
  refine takeH (i := 4) (v := ?_) rfl (by kernel_rfl) (by kernel_rfl) (by kernel_rfl) (fun _ _ _ h => h) (some 17) rfl (Or.inl ⟨by rfl, ?_⟩) (by assumption) ?_
  rotate_left 1
  · intro wz hSw
    go_simp
    try with_reducible rfl
  simp only [Act.put, List.setIfInBounds_toArray, List.set_cons_zero, List.set_cons_succ]
  refine takeH (i := 5) (v := ?_) rfl (by kernel_rfl) (by kernel_rfl) (by kernel_rfl) (fun _ _ _ h => h) (some 18) rfl (Or.inl ⟨by rfl, ?_⟩) (by assumption) ?_
  rotate_left 1
  · intro wz hSw
    go_simp
    try with_reducible rfl
  simp only [Act.put, List.setIfInBounds_toArray, List.set_cons_zero, List.set_cons_succ]
  refine takeH (i := 6) (v := ?_) rfl (by kernel_rfl) (by kernel_rfl) (by kernel_rfl) (fun _ _ _ h => h) (some 19) rfl (Or.inl ⟨by rfl, ?_⟩) (by assumption) ?_
  rotate_left 1
  · intro wz hSw
    have c0 : wz.cell? ⟨g, 20, none⟩ = some (.int .i64 12) := hSw.cell 20
    go_simp
    try with_reducible rfl
  simp only [Act.put, List.setIfInBounds_toArray, List.set_cons_zero, List.set_cons_succ]
  refine takeH (i := 7) (v := ?_) rfl (by kernel_rfl) (by kernel_rfl) (by kernel_rfl) (fun _ _ _ h => h) (some 20) rfl (Or.inl ⟨by rfl, ?_⟩) (by assumption) ?_
  rotate_left 1
  · intro wz hSw
    go_simp
    try with_reducible rfl
  simp only [Act.put, List.setIfInBounds_toArray, List.set_cons_zero, List.set_cons_succ]
  refine wpAnyH_ready (rs := [8]) (by kernel_rfl) (by simp) ?_
  refine AllReadyH.cons rfl (fun KK hKK => ?_) AllReadyH.nil
  refine step_store (by rfl) 61 (.tmp 2) (.tmp 15) rfl p (kdC (kd 4)) rfl rfl 61 (kdC zKd) HR.out kd_info rfl (kdC_one _) rfl ?_
  refine hKK.out _ _ ((setRow_other _ p g _ (by have := HLT.out; omega)).trans hHeld) (fun hHeld => ?_)
  clear hKK KK
  refine wpAnyH_ready (rs := [9]) (by kernel_rfl) (by simp) ?_
  refine AllReadyH.cons rfl (fun KK hKK => ?_) AllReadyH.nil
  refine step_value (by rfl) (.bool true) _ (by rfl) (some 3) rfl ?_
  refine hKK.out _ _ (by assumption) (fun hHeld => ?_)
  clear hKK KK
  simp only [Act.put, List.setIfInBounds_toArray, List.set_cons_zero, List.set_cons_succ]
  refine wpAnyH_done (by kernel_rfl) ?_ _
  go_wp2_with (fail)
  refine bodyPost_ret_by (results_kd rfl _ _ p (kd 4) rfl (setRow_blk HR.out)) rfl ?_
  exact ⟨rfl, below_setRow HB.out (Nat.le_of_eq HP.out.symm) _⟩
set_option maxRecDepth 100000 in
set_option maxHeartbeats 4000000 in
theorem kindOf_5 (w : World) : Calls Tryd.prog 21 #[.int .i64 5] w fun e w' => e = .returned (.tuple #[kdV (kd 5), .bool false]) ∧ Below w.heap.size w w' := by
  have HK := Lib.hid (kinds_any)
  have HR0 := Lib.hid (Blk.new w 61 (kdC zKd))
  have HB0 := Lib.hid ((Below.refl w.heap.size w).alloc (Nat.le_refl _) (.cells (kdC zKd) 61))
  go_enter Tryd.func21, Tryd.ntmps21
  go_upto_region 1 with (fail)
  change Code.wp _ _ _ _ (w.alloc (.cells (kdC zKd) 61))
  generalize w.alloc (.cells (kdC zKd) 61) = v0 at *
  obtain ⟨p, hp⟩ : ∃ p, p = w.heap.size := ⟨_, rfl⟩
  have HP := Lib.hid hp
  rw [← hp] at HR0 ⊢
  clear hp
  refine wp_region_lit ?_
  refine wpList_calls rfl (some 5) rfl 17 #[] (by unfold execOp; simp [resolve, invoke, go_sem]) _ (HK.out v0) ?_
  rintro e v1 ⟨rfl, hb⟩
  refine ⟨_, rfl, ?_⟩
  have HR1 := Lib.hid (HR0.out.below hb HR0.out.lt)
  have HB1 := Lib.hid (HB0.out.trans (hb.mono HB0.out.size))
  clear hb
  simp only [Act.put, List.setIfInBounds_toArray, List.set_cons_zero, List.set_cons_succ]
  refine wpList_runs rfl (some 4) rfl (.pointer (some ⟨v1.heap.size, 0, none⟩)) (v1.alloc (.cells kdsZ 62)) (by kernel_rfl) ?_
  simp only [Act.put, List.setIfInBounds_toArray, List.set_cons_zero, List.set_cons_succ]
  have hal := (Below.refl v1.heap.size v1).alloc (Nat.le_refl _) (.cells kdsZ 62)
  have HQ := Lib.hid (Blk.new v1 62 kdsZ)
  have HR2 := Lib.hid (HR1.out.below hal HR1.out.lt)
  have HB2 := Lib.hid (HB1.out.trans (hal.mono HB1.out.size))
  have HLT := Lib.hid (HR1.out.lt)
  have HGW := Lib.hid (HB1.out.size)
  clear hal
  generalize v1.alloc (.cells kdsZ 62) = v2 at *
  obtain ⟨g, hg⟩ : ∃ g, g = v1.heap.size := ⟨_, rfl⟩
  rw [← hg] at HQ HLT HGW ⊢
  clear hg
  refine wpList_store_row rfl 62 (.tmp 4) (.tmp 5) rfl g kdsC rfl rfl 62 kdsZ HQ.out kds_info rfl (by kernel_rfl) ?_
  have HR3 := Lib.hid (show Blk (v2.setRow g kdsC) p 61 (kdC zKd) from (setRow_other v2 g p kdsC (by have := HLT.out; omega)).trans HR2.out)
  have HB3 := Lib.hid (below_only HB2.out (setRow_only v2 g kdsC) HGW.out)
  have HQ3 := Lib.hid (setRow_blk (cs' := kdsC) HQ.out)
  generalize v2.setRow g kdsC = v3 at *
  simp only [Act.put]
  go_upto_region 4 with (fail)
  refine wp_region_held_drew (S := fun v => Blk v g 62 kdsC) (by kernel_rfl) ?_ (fun hHeld => ?_)
  · exact HQ3.out.drew
  have HR := Lib.hid HR3.out.drew; have HB := Lib.hid HB3.out.drew
  generalize v3.drew = v4 at *
  refine takeH (i := 0) (v := ?_) rfl (by kernel_rfl) (by kernel_rfl) (by kernel_rfl) (fun _ _ _ h => h) (some 13) rfl (Or.inl ⟨by rfl, ?_⟩) (by assumption) ?_
  rotate_left 1
  · intro wz hSw
    go_simp
    try with_reducible rfl
  simp only [Act.put, List.setIfInBounds_toArray, List.set_cons_zero, List.set_cons_succ]
  refine takeH (i := 1) (v := ?_) rfl (by kernel_rfl) (by kernel_rfl) (by kernel_rfl) (fun _ _ _ h => h) (some 14) rfl (Or.inl ⟨by rfl, ?_⟩) (by assumption) ?_
  rotate_left 1
  · intro wz hSw
    go_simp
    try with_reducible rfl
  simp only [Act.put, List.setIfInBounds_toArray, List.set_cons_zero, List.set_cons_succ]
  refine takeH (i := 2) (v := ?_) rfl (by kernel_rfl) (by kernel_rfl) (by kernel_rfl) (fun _ _ _ h => h) (some 15) rfl (Or.inl ⟨by rfl, ?_⟩) (by assumption) ?_
  rotate_left 1
  · intro wz hSw
    have c0 : wz.cell? ⟨g, 25, none⟩ = some (.int .i64 0) := hSw.cell 25
    have c1 : wz.cell? ⟨g, 26, none⟩ = some (.int .i64 0) := hSw.cell 26
    have c2 : wz.cell? ⟨g, 27, none⟩ = some (.bool false) := hSw.cell 27
    have c3 : wz.cell? ⟨g, 28, none⟩ = some (.bool false) := hSw.cell 28
    have c4 : wz.cell? ⟨g, 29, none⟩ = some (.bool false) := hSw.cell 29
    go_simp
    try with_reducible rfl
  simp only [Act.put, List.setIfInBounds_toArray, List.set_cons_zero, List.set_cons_succ]
  refine takeH (i := 3) (v := ?_) rfl (by kernel_rfl) (by kernel_rfl) (by kernel_rfl) (fun _ _ _ h => h) (some 16) rfl (Or.inl ⟨by rfl, ?_⟩) (by assumption) ?_
  rotate_left 1
  · intro wz hSw
    go_simp
    try with_reducible rfl
  simp only [Act.put, List.setIfInBounds_toArray, List.set_cons_zero, List.set_cons_succ]
  refine takeH (i := 4) (v := ?_) rfl (by kernel_rfl) (by kernel_rfl) (by kernel_rfl) (fun _ _ _ h => h) (some 17) rfl (Or.inl ⟨by rfl, ?_⟩) (by assumption) ?_
  rotate_left 1
  · intro wz hSw
    go_simp
    try with_reducible rfl
  simp only [Act.put, List.setIfInBounds_toArray, List.set_cons_zero, List.set_cons_succ]
  refine takeH (i := 5) (v := ?_) rfl (by kernel_rfl) (by kernel_rfl) (by kernel_rfl) (fun _ _ _ h => h) (some 18) rfl (Or.inl ⟨by rfl, ?_⟩) (by assumption) ?_
  rotate_left 1
  · intro wz hSw
    go_simp
    try with_reducible rfl
  simp only [Act.put, List.setIfInBounds_toArray, List.set_cons_zero, List.set_cons_succ]
  refine takeH (i := 6) (v := ?_) rfl (by kernel_rfl) (by kernel_rfl) (by kernel_rfl) (fun _ _ _ h => h) (some 19) rfl (Or.inl ⟨by rfl, ?_⟩) (by assumption) ?_
  rotate_left 1
  · intro wz hSw
    have c0 : wz.cell? ⟨g, 25, none⟩ = some (.int .i64 0) := hSw.cell 25
    go_simp
    try with_reducible rfl
  simp only [Act.put, List.setIfInBounds_toArray, List.set_cons_zero, List.set_cons_succ]
  refine takeH (i := 7) (v := ?_) rfl (by kernel_rfl) (by kernel_rfl) (by kernel_rfl) (fun _ _ _ h => h) (some 20) rfl (Or.inl ⟨by rfl, ?_⟩) (by assumption) ?_
  rotate_left 1
  · intro wz hSw
    go_simp
    try with_reducible rfl
  simp only [Act.put, List.setIfInBounds_toArray, List.set_cons_zero, List.set_cons_succ]
  refine wpAnyH_ready (rs := [8]) (by kernel_rfl) (by simp) ?_
  refine AllReadyH.cons rfl (fun KK hKK => ?_) AllReadyH.nil
  refine step_store (by rfl) 61 (.tmp 2) (.tmp 15) rfl p (kdC (kd 5)) rfl rfl 61 (kdC zKd) HR.out kd_info rfl (kdC_one _) rfl ?_
  refine hKK.out _ _ ((setRow_other _ p g _ (by have := HLT.out; omega)).trans hHeld) (fun hHeld => ?_)
  clear hKK KK
  refine wpAnyH_ready (rs := [9]) (by kernel_rfl) (by simp) ?_
  refine AllReadyH.cons rfl (fun KK hKK => ?_) AllReadyH.nil
  refine step_value (by rfl) (.bool false) _ (by rfl) (some 3) rfl ?_
  refine hKK.out _ _ (by assumption) (fun hHeld => ?_)
  clear hKK KK
  simp only [Act.put, List.setIfInBounds_toArray, List.set_cons_zero, List.set_cons_succ]
  refine wpAnyH_done (by kernel_rfl) ?_ _
  go_wp2_with (fail)
  refine bodyPost_ret_by (results_kd rfl _ _ p (kd 5) rfl (setRow_blk HR.out)) rfl ?_
  exact ⟨rfl, below_setRow HB.out (Nat.le_of_eq HP.out.symm) _⟩
set_option maxRecDepth 100000 in
set_option maxHeartbeats 4000000 in
theorem kindOf_6 (w : World) : Calls Tryd.prog 21 #[.int .i64 6] w fun e w' => e = .returned (.tuple #[kdV (kd 6), .bool true]) ∧ Below w.heap.size w w' := by
  have HK := Lib.hid (kinds_any)
  have HR0 := Lib.hid (Blk.new w 61 (kdC zKd))
  have HB0 := Lib.hid ((Below.refl w.heap.size w).alloc (Nat.le_refl _) (.cells (kdC zKd) 61))
  go_enter Tryd.func21, Tryd.ntmps21
  go_upto_region 1 with (fail)
  change Code.wp _ _ _ _ (w.alloc (.cells (kdC zKd) 61))
  generalize w.alloc (.cells (kdC zKd) 61) = v0 at *
  obtain ⟨p, hp⟩ : ∃ p, p = w.heap.size := ⟨_, rfl⟩
  have HP := Lib.hid hp
  rw [← hp] at HR0 ⊢
  clear hp
  refine wp_region_lit ?_
  refine wpList_calls rfl (some 5) rfl 17 #[] (by unfold execOp; simp [resolve, invoke, go_sem]) _ (HK.out v0) ?_
  rintro e v1 ⟨rfl, hb⟩
  refine ⟨_, rfl, ?_⟩
  have HR1 := Lib.hid (HR0.out.below hb HR0.out.lt)
  have HB1 := Lib.hid (HB0.out.trans (hb.mono HB0.out.size))
  clear hb
  simp only [Act.put, List.setIfInBounds_toArray, List.set_cons_zero, List.set_cons_succ]
  refine wpList_runs rfl (some 4) rfl (.pointer (some ⟨v1.heap.size, 0, none⟩)) (v1.alloc (.cells kdsZ 62)) (by kernel_rfl) ?_
  simp only [Act.put, List.setIfInBounds_toArray, List.set_cons_zero, List.set_cons_succ]
  have hal := (Below.refl v1.heap.size v1).alloc (Nat.le_refl _) (.cells kdsZ 62)
  have HQ := Lib.hid (Blk.new v1 62 kdsZ)
  have HR2 := Lib.hid (HR1.out.below hal HR1.out.lt)
  have HB2 := Lib.hid (HB1.out.trans (hal.mono HB1.out.size))
  have HLT := Lib.hid (HR1.out.lt)
  have HGW := Lib.hid (HB1.out.size)
  clear hal
  generalize v1.alloc (.cells kdsZ 62) = v2 at *
  obtain ⟨g, hg⟩ : ∃ g, g = v1.heap.size := ⟨_, rfl⟩
  rw [← hg] at HQ HLT HGW ⊢
  clear hg
  refine wpList_store_row rfl 62 (.tmp 4) (.tmp 5) rfl g kdsC rfl rfl 62 kdsZ HQ.out kds_info rfl (by kernel_rfl) ?_
  have HR3 := Lib.hid (show Blk (v2.setRow g kdsC) p 61 (kdC zKd) from (setRow_other v2 g p kdsC (by have := HLT.out; omega)).trans HR2.out)
  have HB3 := Lib.hid (below_only HB2.out (setRow_only v2 g kdsC) HGW.out)
  have HQ3 := Lib.hid (setRow_blk (cs' := kdsC) HQ.out)
  generalize v2.setRow g kdsC = v3 at *
  simp only [Act.put]
  go_upto_region 4 with (fail)
  refine wp_region_held_drew (S := fun v => Blk v g 62 kdsC) (by kernel_rfl) ?_ (fun hHeld => ?_)
  · exact HQ3.out.drew
  have HR := Lib.hid HR3.out.drew; have HB := Lib.hid HB3.out.drew
  generalize v3.drew = v4 at *
  refine takeH (i := 0) (v := ?_) rfl (by kernel_rfl) (by kernel_rfl) (by kernel_rfl) (fun _ _ _ h => h) (some 13) rfl (Or.inl ⟨by rfl, ?_⟩) (by assumption) ?_
  rotate_left 1
  · intro wz hSw
    go_simp
    try with_reducible rfl
  simp only [Act.put, List.setIfInBounds_toArray, List.set_cons_zero, List.set_cons_succ]
  refine takeH (i := 1) (v := ?_) rfl (by kernel_rfl) (by kernel_rfl) (by kernel_rfl) (fun _ _ _ h => h) (some 14) rfl (Or.inl ⟨by rfl, ?_⟩) (by assumption) ?_
  rotate_left 1
  · intro wz hSw
    go_simp
    try with_reducible rfl
  simp only [Act.put, List.setIfInBounds_toArray, List.set_cons_zero, List.set_cons_succ]
  refine takeH (i := 2) (v := ?_) rfl (by kernel_rfl) (by kernel_rfl) (by kernel_rfl) (fun _ _ _ h => h) (some 15) rfl (Or.inl ⟨by rfl, ?_⟩) (by assumption) ?_
  rotate_left 1
  · intro wz hSw
    have c0 : wz.cell? ⟨g, 30, none⟩ = some (.int .i64 8) := hSw.cell 30
    have c1 : wz.cell? ⟨g, 31, none⟩ = some (.int .i64 1) := hSw.cell 31
    have c2 : wz.cell? ⟨g, 32, none⟩ = some (.bool false) := hSw.cell 32
    have c3 : wz.cell? ⟨g, 33, none⟩ = some (.bool true) := hSw.cell 33
    have c4 : wz.cell? ⟨g, 34, none⟩ = some (.bool true) := hSw.cell 34
    go_simp
    try with_reducible rfl
  simp only [Act.put, List.setIfInBounds_toArray, List.set_cons_zero, List.set_cons_succ]
  refine takeH (i := 3) (v := ?_) rfl (by kernel_rfl) (by kernel_rfl) (by kernel_rfl) (fun _ _ _ h => h) (some 16) rfl (Or.inl ⟨by rfl, ?_⟩) (by assumption) ?_
  rotate_left 1
  · intro wz hSw
    go_simp
    try with_reducible rfl
  simp only [Act.put, List.setIfInBounds_toArray, List.set_cons_zero, List.set_cons_succ]
  refine takeH (i := 4) (v := ?_) rfl (by kernel_rfl) (by kernel_rfl) (by kernel_rfl) (fun _ _ _ h => h) (some 17) rfl (Or.inl ⟨by rfl, ?_⟩) (by assumption) ?_
  rotate_left 1
  · intro wz hSw
    go_simp
    try with_reducible rfl
  simp only [Act.put, List.setIfInBounds_toArray, List.set_cons_zero, List.set_cons_succ]
  refine takeH (i := 5) (v := ?_) rfl (by kernel_rfl) (by kernel_rfl) (by kernel_rfl) (fun _ _ _ h => h) (some 18) rfl (Or.inl ⟨by rfl, ?_⟩) (by assumption) ?_
  rotate_left 1
  · intro wz hSw
    go_simp
    try with_reducible rfl
  simp only [Act.put, List.setIfInBounds_toArray, List.set_cons_zero, List.set_cons_succ]
  refine takeH (i := 6) (v := ?_) rfl (by kernel_rfl) (by kernel_rfl) (by kernel_rfl) (fun _ _ _ h => h) (some 19) rfl (Or.inl ⟨by rfl, ?_⟩) (by assumption) ?_
  rotate_left 1
  · intro wz hSw
    have c0 : wz.cell? ⟨g, 30, none⟩ = some (.int .i64 8) := hSw.cell 30
    go_simp
    try with_reducible rfl
  simp only [Act.put, List.setIfInBounds_toArray, List.set_cons_zero, List.set_cons_succ]
  refine takeH (i := 7) (v := ?_) rfl (by kernel_rfl) (by kernel_rfl) (by kernel_rfl) (fun _ _ _ h => h) (some 20) rfl (Or.inl ⟨by rfl, ?_⟩) (by assumption) ?_
  rotate_left 1
  · intro wz hSw
    go_simp
    try with_reducible rfl
  simp only [Act.put, List.setIfInBounds_toArray, List.set_cons_zero, List.set_cons_succ]
  refine wpAnyH_ready (rs := [8]) (by kernel_rfl) (by simp) ?_
  refine AllReadyH.cons rfl (fun KK hKK => ?_) AllReadyH.nil
  refine step_store (by rfl) 61 (.tmp 2) (.tmp 15) rfl p (kdC (kd 6)) rfl rfl 61 (kdC zKd) HR.out kd_info rfl (kdC_one _) rfl ?_
  refine hKK.out _ _ ((setRow_other _ p g _ (by have := HLT.out; omega)).trans hHeld) (fun hHeld => ?_)
  clear hKK KK
  refine wpAnyH_ready (rs := [9]) (by kernel_rfl) (by simp) ?_
  refine AllReadyH.cons rfl (fun KK hKK => ?_) AllReadyH.nil
  refine step_value (by rfl) (.bool true) _ (by rfl) (some 3) rfl ?_
  refine hKK.out _ _ (by assumption) (fun hHeld => ?_)
  clear hKK KK
  simp only [Act.put, List.setIfInBounds_toArray, List.set_cons_zero, List.set_cons_succ]
  refine wpAnyH_done (by kernel_rfl) ?_ _
  go_wp2_with (fail)
  refine bodyPost_ret_by (results_kd rfl _ _ p (kd 6) rfl (setRow_blk HR.out)) rfl ?_
  exact ⟨rfl, below_setRow HB.out (Nat.le_of_eq HP.out.symm) _⟩
theorem kindOf_any (a : Int) (w : World) : Calls Tryd.prog 21 #[.int .i64 a] w fun e w' => e = .returned (.tuple #[kdV (kdOf a), .bool ((kdOf a).op != 0)]) ∧ Below w.heap.size w w' := by
  by_cases h : 0 ≤ a ∧ a < 7
  · have ha : a = 0 ∨ a = 1 ∨ a = 2 ∨ a = 3 ∨ a = 4 ∨ a = 5 ∨ a = 6 := by omega
    rcases ha with rfl | rfl | rfl | rfl | rfl | rfl | rfl
    · exact kindOf_0 w
    · exact kindOf_1 w
    · exact kindOf_2 w
    · exact kindOf_3 w
    · exact kindOf_4 w
    · exact kindOf_5 w
    · exact kindOf_6 w
  · exact kindOf_no a h w
end Go.Proofs.YtdggipgieanpeaaDoor.Pc
