/- The code's tables, as values, and what the small functions over them come to. -/
import Derived.Test.YtaachlijpgmjeaaDoorCdS
import Derived.Test.YtaachlijpgmjeaaDoorCdF
import Derived.Test.YtaachlijpgmjeaaDoorBits
import Derived.Laws.Rows
import Derived.BigQuiet
import Derived.Deep.RegionHeld3
import Derived.Laws.CopyOwn
import Derived.Deep.Cut
namespace Go.Proofs.YtaachlijpgmjeaaDoor
open Go.RowKit
abbrev fmC (f : Fm) : Array Value := #[.int .i64 (f.first : Int), .int .i64 (f.size : Int), .int .i64 (f.la : Int), .int .i64 (f.ln : Int), .int .i64 (f.ba : Int), .int .i64 (f.bn : Int), .int .i64 (f.wa : Int), .int .i64 (f.wn : Int), .bool f.nar, .int .u8 (f.must : Int), .int .u8 (f.fua : Int), .int .u8 (f.page : Int), .int .u64 (f.acts : Int), .int .u64 (f.typ : Int), .int .u8 (f.emp : Int), .int .i64 (f.lst : Int)]
abbrev fmV (f : Fm) : Value := .agg (fmC f)
def formsA : Array Value := (fmT.flatMap fun f => (fmC f).toList).toArray
def nuT (i : Nat) : Nat := [0, 1, 3, 5, 6, 7, 8].getD i 0
def numbersA : Array Value := #[.int .i64 0, .int .i64 1, .int .i64 3, .int .i64 5, .int .i64 6, .int .i64 7, .int .i64 8]
/-- The tables in their variables. -/
structure FT (w : World) : Prop where
  lt : 1 < w.heap.size
  lt0 : 0 < w.heap.size
  forms : ∀ (j : Nat) (v : Value), formsA[j]? = some v → w.cell? ⟨1, j, none⟩ = some v
  nums : ∀ (j : Nat) (v : Value), numbersA[j]? = some v → w.cell? ⟨0, j, none⟩ = some v
theorem FT.below {w w' : World} (h : FT w) (hb : Below w.heap.size w w') : FT w' :=
  ⟨Nat.lt_of_lt_of_le h.lt hb.size, Nat.lt_of_lt_of_le h.lt0 hb.size, fun j v hj => (hb.cell (p := ⟨1, j, none⟩) h.lt).trans (h.forms j v hj), fun j v hj => (hb.cell (p := ⟨0, j, none⟩) h.lt0).trans (h.nums j v hj)⟩
theorem ft {w v : World} (h : Hid (FT w)) (hb : Hid (Below w.heap.size w v)) : FT v := h.out.below hb.out
theorem ft2 {w v v' : World} (h : Hid (FT w)) (hb : Hid (Below w.heap.size w v)) (hc : Below v.heap.size v v') : FT v' := (h.out.below hb.out).below hc
theorem forms_size : formsA.size = 224 := by kernel_rfl
section
variable {P : Program} {ops : Array Oper} {o : Oper} {a : Act} {w : World} {K : Act → World → Prop} {Q : Exit → Act → World → Prop}
theorem wp_load_cells (ty : TypeId) (x : Operand) (ho : o.op = .load ty x)
    (b i : Nat) (hx : a.eval x = .pointer (some ⟨b, i, none⟩)) (cs : Array Value) (hc : ∀ (j : Nat) (v : Value), cs[j]? = some v → w.cell? ⟨b, i + j, none⟩ = some v) (d : TypeDesc)
    (hu : P.underlying ty = some d) (hd : (match d with | .struct _ | .array _ _ => true | _ => false) = true) (hi : (P.info? ty).map (·.size) = some cs.size)
    (h : K (a.put o.dst (.agg cs)) w) : o.wp P a w K Q := by
  have hl : (loadCells ⟨b, i, none⟩ cs.toList.length).run P w = .ok cs.toList.toArray w :=
    run_loadCells_list (P := P) w ⟨b, i, none⟩ cs.toList (fun j v hv => by
      have hadd : (⟨b, i, none⟩ : Addr).add j = ⟨b, i + j, none⟩ := by unfold Addr.add; split <;> simp_all
      rw [hadd]
      exact hc j v (by simpa using hv))
  simp only [Array.length_toList, Array.toArray_toList] at hl
  have hr : (loadVar ty ⟨b, i, none⟩).run P w = .ok (.agg cs) w := by
    cases hq : P.info? ty with
    | none => simp [hq] at hi
    | some z =>
      have hs : z.size = cs.size := by simpa [hq] using hi
      have hagg : (isAgg ty).run P w = .ok true w := by
        unfold isAgg
        rw [Sem.run_bind, run_underlying hu w]
        cases d <;> simp_all
      simp [loadVar, Sem.run_bind, hagg, sizeOf, typeInfo, hq, hs, hl]
  unfold Oper.wp execOp
  simp only [ho, hx, Instr.loadAt, Instr.sureAddr, Sem.run_bind, Sem.run_pure, Result.andThen_ok, hr]
  exact h
theorem wpList_load_cells {rest : List Oper} (hgd : o.guard = none) (ty : TypeId) (x : Operand) (ho : o.op = .load ty x)
    (b i : Nat) (hx : a.eval x = .pointer (some ⟨b, i, none⟩)) (cs : Array Value) (hc : ∀ (j : Nat) (v : Value), cs[j]? = some v → w.cell? ⟨b, i + j, none⟩ = some v) (d : TypeDesc)
    (hu : P.underlying ty = some d) (hd : (match d with | .struct _ | .array _ _ => true | _ => false) = true) (hi : (P.info? ty).map (·.size) = some cs.size)
    (h : wpList P ops Q rest (a.put o.dst (.agg cs)) w) : wpList P ops Q (o :: rest) a w :=
  wpList_plain hgd fun _ hK => wp_load_cells ty x ho b i hx cs hc d hu hd hi (hK _ _ h)
end
theorem setRow_blk {w : World} {g : Nat} {T : TypeId} {cs cs' : Array Value} (h : Blk w g T cs) : Blk (w.setRow g cs') g T cs' := setRow_heap w g cs cs' T (0, 0) h
theorem setRow_only (w : World) (g : Nat) (cs : Array Value) : Only (fun k => k = g) w (w.setRow g cs) :=
  ⟨rfl, rfl, rfl, by simp [World.setRow], fun k _ hk => setRow_other w g k cs hk⟩
theorem akC_one (x : Ak) : (akC x).all (·.oneCell') = true := by simp [akC, Value.oneCell']
theorem share3 {T : Prop} {G : World → Nat → Nat → Prop} (F : World → Nat → Nat → Prop) (main : (∀ v p g, F v p g → G v p g) → T) (pf : ∀ v p g, F v p g → G v p g) : T := main pf
section
variable {P : Program} {ops : Array Oper} {o : Oper} {a : Act} {w : World} {K : Act → World → Prop} {Q : Exit → Act → World → Prop} {E : Prop}
theorem step_load (hw : Region.wanted o (yielded ops a.tmps) = true) (ty : TypeId) (x : Operand) (ho : o.op = .load ty x)
    (g : Nat) (hx : a.eval x = .pointer (some ⟨g, 0, none⟩)) (t : TypeId) (cs : Array Value) (hg : Blk w g t cs) (d : TypeDesc)
    (hu : P.underlying ty = some d) (hd : (match d with | .struct _ | .array _ _ => true | _ => false) = true) (hi : (P.info? ty).map (·.size) = some cs.size)
    (d0 : Option Tmp) (hd0 : o.dst = d0) (h : K (a.put d0 (.agg cs)) w) : if Region.wanted o (yielded ops a.tmps) = true then Oper.wp P o a w K Q else E := by
  subst hd0
  rw [if_pos hw]
  exact wp_load_row ty x ho g hx t cs (0, 0) d hg hu hd hi h
theorem step_store (hw : Region.wanted o (yielded ops a.tmps) = true) (ty : TypeId) (x y : Operand) (ho : o.op = .store ty x y)
    (g : Nat) (cells : Array Value) (hx : a.eval x = .pointer (some ⟨g, 0, none⟩)) (hy : a.eval y = .agg cells)
    (t : TypeId) (old : Array Value) (hg : Blk w g t old) (hi : (P.info? ty).map (·.size) = some cells.size)
    (hold : old.size = cells.size) (h1 : cells.all (·.oneCell') = true)
    (d0 : Option Tmp) (hd0 : o.dst = d0) (h : ∀ v, Blk v g t cells → Only (fun k => k = g) w v → K (a.put d0 undef) v) : if Region.wanted o (yielded ops a.tmps) = true then Oper.wp P o a w K Q else E := by
  subst hd0
  rw [if_pos hw]
  exact wp_store_row ty x y ho g cells hx hy t old hg hi hold h1 (h _ (setRow_blk hg) (setRow_only w g cells))
theorem step_call0 (hw : Region.wanted o (yielded ops a.tmps) = true) (f : Nat) (ty : Array TypeId) (ho : o.op = .call { callee := .value (.func f), args := #[], argTypes := ty })
    (hcf : ∀ args v, (callFunc f args).run P v = .ok (.enter f args) v) (post : Ending → World → Prop) (hc : Calls P f #[] w post) (d0 : Option Tmp) (hd0 : o.dst = d0) (h : ∀ e w', post e w' → ∃ v, e = .returned v ∧ K (a.put d0 v) w') :
    if Region.wanted o (yielded ops a.tmps) = true then Oper.wp P o a w K Q else E := by
  subst hd0
  rw [if_pos hw]
  have hr : (execOp a.eval o).run P w = .ok (.enter f #[]) w := by
    unfold execOp
    simp [ho, resolve, invoke, go_sem, hcf]
  unfold Oper.wp
  rw [hr, Oper.upon_enter]
  refine hc.mono ?_
  intro e w' hp
  obtain ⟨v, rfl, hk⟩ := h e w' hp
  exact hk
theorem step_call1 (hw : Region.wanted o (yielded ops a.tmps) = true) (f : Nat) (x : Operand) (ty : Array TypeId) (ho : o.op = .call { callee := .value (.func f), args := #[x], argTypes := ty })
    (u : Value) (hx : a.eval x = u) (hcf : ∀ args v, (callFunc f args).run P v = .ok (.enter f args) v) (post : Ending → World → Prop) (hc : Calls P f #[u] w post) (d0 : Option Tmp) (hd0 : o.dst = d0) (h : ∀ e w', post e w' → ∃ v, e = .returned v ∧ K (a.put d0 v) w') :
    if Region.wanted o (yielded ops a.tmps) = true then Oper.wp P o a w K Q else E := by
  subst hd0
  rw [if_pos hw]
  have hr : (execOp a.eval o).run P w = .ok (.enter f #[u]) w := by
    unfold execOp
    simp only [ho, resolve, invoke, Sem.run_bind, List.map_toArray, List.map_cons, List.map_nil, hx]
    simp [go_sem, hcf]
  unfold Oper.wp
  rw [hr, Oper.upon_enter]
  refine hc.mono ?_
  intro e w' hp
  obtain ⟨v, rfl, hk⟩ := h e w' hp
  exact hk
theorem step_call2 (hw : Region.wanted o (yielded ops a.tmps) = true) (f : Nat) (x y : Operand) (ty : Array TypeId) (ho : o.op = .call { callee := .value (.func f), args := #[x, y], argTypes := ty })
    (u v : Value) (hx : a.eval x = u) (hy : a.eval y = v) (hcf : ∀ args v, (callFunc f args).run P v = .ok (.enter f args) v) (post : Ending → World → Prop) (hc : Calls P f #[u, v] w post) (d0 : Option Tmp) (hd0 : o.dst = d0) (h : ∀ e w', post e w' → ∃ v, e = .returned v ∧ K (a.put d0 v) w') :
    if Region.wanted o (yielded ops a.tmps) = true then Oper.wp P o a w K Q else E := by
  subst hd0
  rw [if_pos hw]
  have hr : (execOp a.eval o).run P w = .ok (.enter f #[u, v]) w := by
    unfold execOp
    simp only [ho, resolve, invoke, Sem.run_bind, List.map_toArray, List.map_cons, List.map_nil, hx, hy]
    simp [go_sem, hcf]
  unfold Oper.wp
  rw [hr, Oper.upon_enter]
  refine hc.mono ?_
  intro e w' hp
  obtain ⟨v, rfl, hk⟩ := h e w' hp
  exact hk
theorem take_at {md : Region.Mode} {i : Nat} {oi : Oper} {v : Value} {fuel : Nat} {listed : Array Bool} (hi : ops[i]? = some oi)
    (hs : Region.noSelect ops = true) (hf : Region.free md ops listed i = true) (hr : (Region.ready md ops listed).contains i = true)
    (hQ : ∀ c a w, Q (.panic c) (a.put oi.dst v) w → Q (.panic c) a w) (d0 : Option Tmp) (hd0 : oi.dst = d0) (hy : Yields P ops oi v a)
    (h : wpAny P md ops Q fuel (listed.setIfInBounds i true) (a.put d0 v) w) : wpAny P md ops Q (fuel + 1) listed a w := by
  subst hd0
  exact wpAny_take hi hs hf hr hQ hy h
end
section
variable {P : Program} {ops : Array Oper} {S : World → Prop} {o : Oper} {a : Act} {w : World} {K : Act → World → Prop} {Q : Exit → Act → World → Prop} {E : Prop}
theorem takeH {md : Region.Mode} {i : Nat} {oi : Oper} {v : Value} {fuel : Nat} {listed : Array Bool} (hi : ops[i]? = some oi)
    (hs : Region.noSelect ops = true) (hf : Region.free md ops listed i = true) (hr : (Region.ready md ops listed).contains i = true)
    (hQ : ∀ c a w, Q (.panic c) (a.put oi.dst v) w → Q (.panic c) a w) (d0 : Option Tmp) (hd0 : oi.dst = d0) (hy : YieldsIf P ops S oi v a) (hS : S w)
    (h : wpAnyH P md ops Q S fuel (listed.setIfInBounds i true) (a.put d0 v) w) : wpAnyH P md ops Q S (fuel + 1) listed a w := by
  subst hd0
  exact wpAnyH_take hi hs hf hr hQ hy hS h
theorem step_alloc (hw : Region.wanted o (yielded ops a.tmps) = true) (v : Value) (w' : World) (hr : (execOp a.eval o).run P w = .ok (.value v) w') (d0 : Option Tmp) (hd0 : o.dst = d0) (h : K (a.put d0 v) w') :
    if Region.wanted o (yielded ops a.tmps) = true then Oper.wp P o a w K Q else E := by
  subst hd0
  rw [if_pos hw]
  unfold Oper.wp
  rw [hr, Oper.upon_value]
  exact h
end
theorem index_form (w : World) : ∀ k : Nat, k < 14 → (Instr.index 63 (.agg formsA) (.int .i64 (k : Int))).run Tryd.prog w = .ok (fmV (fm k)) w := by
  intro k hk
  match k, hk with
  | 0, _ => exact (show (Instr.index 63 (.agg formsA) (.int .i64 ((0 : Nat) : Int))).run Tryd.prog w = .ok (fmV (fm 0)) w by kernel_rfl)
  | 1, _ => exact (show (Instr.index 63 (.agg formsA) (.int .i64 ((1 : Nat) : Int))).run Tryd.prog w = .ok (fmV (fm 1)) w by kernel_rfl)
  | 2, _ => exact (show (Instr.index 63 (.agg formsA) (.int .i64 ((2 : Nat) : Int))).run Tryd.prog w = .ok (fmV (fm 2)) w by kernel_rfl)
  | 3, _ => exact (show (Instr.index 63 (.agg formsA) (.int .i64 ((3 : Nat) : Int))).run Tryd.prog w = .ok (fmV (fm 3)) w by kernel_rfl)
  | 4, _ => exact (show (Instr.index 63 (.agg formsA) (.int .i64 ((4 : Nat) : Int))).run Tryd.prog w = .ok (fmV (fm 4)) w by kernel_rfl)
  | 5, _ => exact (show (Instr.index 63 (.agg formsA) (.int .i64 ((5 : Nat) : Int))).run Tryd.prog w = .ok (fmV (fm 5)) w by kernel_rfl)
  | 6, _ => exact (show (Instr.index 63 (.agg formsA) (.int .i64 ((6 : Nat) : Int))).run Tryd.prog w = .ok (fmV (fm 6)) w by kernel_rfl)
  | 7, _ => exact (show (Instr.index 63 (.agg formsA) (.int .i64 ((7 : Nat) : Int))).run Tryd.prog w = .ok (fmV (fm 7)) w by kernel_rfl)
  | 8, _ => exact (show (Instr.index 63 (.agg formsA) (.int .i64 ((8 : Nat) : Int))).run Tryd.prog w = .ok (fmV (fm 8)) w by kernel_rfl)
  | 9, _ => exact (show (Instr.index 63 (.agg formsA) (.int .i64 ((9 : Nat) : Int))).run Tryd.prog w = .ok (fmV (fm 9)) w by kernel_rfl)
  | 10, _ => exact (show (Instr.index 63 (.agg formsA) (.int .i64 ((10 : Nat) : Int))).run Tryd.prog w = .ok (fmV (fm 10)) w by kernel_rfl)
  | 11, _ => exact (show (Instr.index 63 (.agg formsA) (.int .i64 ((11 : Nat) : Int))).run Tryd.prog w = .ok (fmV (fm 11)) w by kernel_rfl)
  | 12, _ => exact (show (Instr.index 63 (.agg formsA) (.int .i64 ((12 : Nat) : Int))).run Tryd.prog w = .ok (fmV (fm 12)) w by kernel_rfl)
  | 13, _ => exact (show (Instr.index 63 (.agg formsA) (.int .i64 ((13 : Nat) : Int))).run Tryd.prog w = .ok (fmV (fm 13)) w by kernel_rfl)
theorem index_num (w : World) : ∀ k : Nat, k < 7 → (Instr.index 62 (.agg numbersA) (.int .i64 (k : Int))).run Tryd.prog w = .ok (.int .i64 (nuT k : Int)) w := by
  intro k hk
  match k, hk with
  | 0, _ => exact (show (Instr.index 62 (.agg numbersA) (.int .i64 ((0 : Nat) : Int))).run Tryd.prog w = .ok (.int .i64 (nuT 0 : Int)) w by kernel_rfl)
  | 1, _ => exact (show (Instr.index 62 (.agg numbersA) (.int .i64 ((1 : Nat) : Int))).run Tryd.prog w = .ok (.int .i64 (nuT 1 : Int)) w by kernel_rfl)
  | 2, _ => exact (show (Instr.index 62 (.agg numbersA) (.int .i64 ((2 : Nat) : Int))).run Tryd.prog w = .ok (.int .i64 (nuT 2 : Int)) w by kernel_rfl)
  | 3, _ => exact (show (Instr.index 62 (.agg numbersA) (.int .i64 ((3 : Nat) : Int))).run Tryd.prog w = .ok (.int .i64 (nuT 3 : Int)) w by kernel_rfl)
  | 4, _ => exact (show (Instr.index 62 (.agg numbersA) (.int .i64 ((4 : Nat) : Int))).run Tryd.prog w = .ok (.int .i64 (nuT 4 : Int)) w by kernel_rfl)
  | 5, _ => exact (show (Instr.index 62 (.agg numbersA) (.int .i64 ((5 : Nat) : Int))).run Tryd.prog w = .ok (.int .i64 (nuT 5 : Int)) w by kernel_rfl)
  | 6, _ => exact (show (Instr.index 62 (.agg numbersA) (.int .i64 ((6 : Nat) : Int))).run Tryd.prog w = .ok (.int .i64 (nuT 6 : Int)) w by kernel_rfl)
end Go.Proofs.YtaachlijpgmjeaaDoor
