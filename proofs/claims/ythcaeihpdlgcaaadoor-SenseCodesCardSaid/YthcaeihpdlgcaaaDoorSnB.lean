/- The small functions over a sense: the document's. -/
import Derived.Test.YthcaeihpdlgcaaaDoorSnA
import Derived.Test.YthcaeihpdlgcaaaDoorDevMem
import Derived.Test.YthcaeihpdlgcaaaDoorAsk
import Derived.Test.YthcaeihpdlgcaaaDoorRefs
import Derived.Test.YthcaeihpdlgcaaaDoorPutRefs
import Derived.Laws.Rows
import Derived.Laws.CopyOwn
import Derived.Deep.RegionHeld3
import Derived.Deep.Cut
namespace Go.Proofs.YthcaeihpdlgcaaaDoor
open Go.RowKit
abbrev snC (x : Sn) : Array Value := #[.int .i64 x.k, .int .i64 x.a, .int .i64 x.q, .int .i64 x.t]
abbrev snV (x : Sn) : Value := .agg (snC x)
abbrev rpC (n : Int) (x : Sn) : Array Value := #[.int .i64 n, .int .i64 x.k, .int .i64 x.a, .int .i64 x.q, .int .i64 x.t]
abbrev rpV (n : Int) (x : Sn) : Value := .agg (rpC n x)
/-- What an outcome has besides. -/
structure Rs where
  d : ByteArray
  g : Value
  n : Int
  ht : Int
  hh : ByteArray
  m : Int
def zR : Rs := ⟨⟨#[]⟩, .slice none 0 0, 0, 0, ⟨#[]⟩, 0⟩
abbrev ouC (c t w : Int) (r : Rs) : Array Value := #[.int .i64 c, .string r.d, .int .i64 t, .int .i64 w, r.g, .int .u32 r.n, .int .i64 r.ht, .string r.hh, .int .i64 r.m]
abbrev ouV (c t w : Int) (r : Rs) : Value := .agg (ouC c t w r)
theorem sn_info : (Tryd.prog.info? 23).map (·.size) = some 4 := by kernel_rfl
theorem rp_info : (Tryd.prog.info? 45).map (·.size) = some 5 := by kernel_rfl
theorem ou_info : (Tryd.prog.info? 41).map (·.size) = some 9 := by kernel_rfl
theorem setRow_blk {w : World} {g : Nat} {T : TypeId} {cs cs' : Array Value} (h : Blk w g T cs) : Blk (w.setRow g cs') g T cs' := setRow_heap w g cs cs' T (0, 0) h
theorem wpList_runs {P : Program} {ops : Array Oper} {rest : List Oper} {o : Oper} {a : Act} {w : World} {Q : Exit → Act → World → Prop} (hg : o.guard = none) (dst : Option Tmp) (hdst : o.dst = dst)
    (v : Value) (w' : World) (hrun : (execOp a.eval o).run P w = .ok (.value v) w')
    (h : wpList P ops Q rest (a.put dst v) w') : wpList P ops Q (o :: rest) a w :=
  wpList_plain hg fun K hK => by
    subst hdst
    unfold Oper.wp
    rw [hrun, Oper.upon_value]
    exact hK _ _ h
theorem wpList_calls {P : Program} {ops : Array Oper} {rest : List Oper} {o : Oper} {a : Act} {w : World} {Q : Exit → Act → World → Prop} (hg : o.guard = none) (dst : Option Tmp) (hdst : o.dst = dst)
    (f : Nat) (args : Array Value) (hrun : (execOp a.eval o).run P w = .ok (.enter f args) w) (post : Ending → World → Prop) (hc : Calls P f args w post)
    (h : ∀ e w', post e w' → ∃ v, e = .returned v ∧ wpList P ops Q rest (a.put dst v) w') : wpList P ops Q (o :: rest) a w :=
  wpList_plain hg fun K hK => by
    subst hdst
    unfold Oper.wp
    rw [hrun, Oper.upon_enter]
    refine hc.mono ?_
    intro e w' hp
    obtain ⟨v, rfl, hk⟩ := h e w' hp
    exact hK _ _ hk
theorem snC_one (x : Sn) : (snC x).all (·.oneCell') = true := by simp [snC, Value.oneCell']
theorem rpC_one (n : Int) (x : Sn) : (rpC n x).all (·.oneCell') = true := by simp [rpC, Value.oneCell']
set_option maxRecDepth 100000 in
set_option maxHeartbeats 4000000 in
theorem two_any (k a q t : Int) (w : World) : Calls Tryd.prog 26 #[.int .i64 k, .int .i64 a, .int .i64 q, .int .i64 t] w fun e w' => e = .returned (rpV 2 ⟨k, a, q, t⟩) ∧ Below w.heap.size w w' := by
  have HR0 := Lib.hid (Blk.new w 45 (rpC 0 zN))
  have HB0 := Lib.hid ((Below.refl w.heap.size w).alloc (Nat.le_refl _) (.cells (rpC 0 zN) 45))
  go_enter Tryd.func26, Tryd.ntmps26
  go_upto_region 1 with (fail)
  change Code.wp _ _ _ _ (w.alloc (.cells (rpC 0 zN) 45))
  generalize w.alloc (.cells (rpC 0 zN) 45) = v0 at *
  obtain ⟨p, hp⟩ : ∃ p, p = w.heap.size := ⟨_, rfl⟩
  have HP := Lib.hid hp
  rw [← hp] at HR0 ⊢
  clear hp
  refine wp_region_lit ?_
  refine wpList_runs rfl (some 9) rfl (.int .i64 k) v0 (by rfl) ?_
  refine wpList_runs rfl (some 10) rfl (.int .i64 a) v0 (by rfl) ?_
  refine wpList_runs rfl (some 11) rfl (.int .i64 q) v0 (by rfl) ?_
  refine wpList_runs rfl (some 12) rfl (.int .i64 t) v0 (by rfl) ?_
  refine wpList_runs rfl (some 13) rfl (snV ⟨k, a, q, t⟩) v0 (by kernel_rfl) ?_
  refine wpList_runs rfl (some 14) rfl (rpV 2 ⟨k, a, q, t⟩) v0 (by kernel_rfl) ?_
  refine wpList_store_row rfl 45 (.tmp 8) (.tmp 14) rfl p (rpC 2 ⟨k, a, q, t⟩) rfl rfl 45 (rpC 0 zN) HR0.out rp_info rfl (rpC_one _ _) ?_
  go_wp2_with (fail)
  refine bodyPost_ret_by (results_cell_row Tryd.results26 _ _ p 45 (rpC 2 ⟨k, a, q, t⟩) (0, 0) _ rfl (setRow_blk HR0.out) Tryd.underlying45 rfl rp_info) rfl ?_
  exact ⟨rfl, below_setRow HB0.out (Nat.le_of_eq HP.out.symm) _⟩
set_option maxRecDepth 100000 in
set_option maxHeartbeats 4000000 in
theorem refMay_any (x : Sn) (w : World) : Calls Tryd.prog 19 #[snV x] w fun e w' => e = .returned (.bool (mayX x)) ∧ Below w.heap.size w w' := by
  have HR0 := Lib.hid (Blk.new w 23 (snC x))
  have HB0 := Lib.hid ((Below.refl w.heap.size w).alloc (Nat.le_refl _) (.cells (snC x) 23))
  obtain ⟨r, hr⟩ : ∃ r, r = mayX x := ⟨_, rfl⟩
  have HV := Lib.hid (show r = decide (0 ≤ x.k ∧ x.k ≤ 15 ∧ 0 ≤ x.a ∧ x.a ≤ 255 ∧ 0 ≤ x.q ∧ x.q ≤ 255 ∧ -1 ≤ x.t ∧ x.t < 4294967296) from hr)
  rw [← hr]
  clear hr
  go_enter Tryd.func19, Tryd.ntmps19
  go_upto_region 1 with (fail)
  change Code.wp _ _ _ _ (w.alloc (.cells (snC x) 23))
  generalize w.alloc (.cells (snC x) 23) = v0 at *
  obtain ⟨p, hp⟩ : ∃ p, p = w.heap.size := ⟨_, rfl⟩
  rw [← hp] at HR0 ⊢
  clear hp
  have c0 : v0.cell? ⟨p, 0, none⟩ = some (.int .i64 x.k) := HR0.out.cell 0
  have c1 : v0.cell? ⟨p, 1, none⟩ = some (.int .i64 x.a) := HR0.out.cell 1
  have c2 : v0.cell? ⟨p, 2, none⟩ = some (.int .i64 x.q) := HR0.out.cell 2
  have c3 : v0.cell? ⟨p, 3, none⟩ = some (.int .i64 x.t) := HR0.out.cell 3
  by_cases h0 : 0 ≤ x.k
  · skip
    by_cases h1 : x.k ≤ 15
    · skip
      by_cases h2 : 0 ≤ x.a
      · skip
        by_cases h3 : x.a ≤ 255
        · skip
          by_cases h4 : 0 ≤ x.q
          · skip
            by_cases h5 : x.q ≤ 255
            · skip
              by_cases h6 : -1 ≤ x.t
              · skip
                by_cases h7 : x.t < 4294967296
                · skip
                  go_wp2_with (fail)
                  go_ret
                  exact ⟨by rw [HV.out, decide_eq_true ⟨h0, h1, h2, h3, h4, h5, h6, h7⟩]; rfl, HB0.out⟩
                · skip
                  go_wp2_with (fail)
                  go_ret
                  exact ⟨by rw [HV.out, decide_eq_false (by omega)]; rfl, HB0.out⟩
              · skip
                go_wp2_with (fail)
                go_ret
                exact ⟨by rw [HV.out, decide_eq_false (by omega)]; rfl, HB0.out⟩
            · skip
              go_wp2_with (fail)
              go_ret
              exact ⟨by rw [HV.out, decide_eq_false (by omega)]; rfl, HB0.out⟩
          · skip
            go_wp2_with (fail)
            go_ret
            exact ⟨by rw [HV.out, decide_eq_false (by omega)]; rfl, HB0.out⟩
        · skip
          go_wp2_with (fail)
          go_ret
          exact ⟨by rw [HV.out, decide_eq_false (by omega)]; rfl, HB0.out⟩
      · skip
        go_wp2_with (fail)
        go_ret
        exact ⟨by rw [HV.out, decide_eq_false (by omega)]; rfl, HB0.out⟩
    · skip
      go_wp2_with (fail)
      go_ret
      exact ⟨by rw [HV.out, decide_eq_false (by omega)]; rfl, HB0.out⟩
  · skip
    go_wp2_with (fail)
    go_ret
    exact ⟨by rw [HV.out, decide_eq_false (by omega)]; rfl, HB0.out⟩
set_option maxRecDepth 100000 in
set_option maxHeartbeats 4000000 in
theorem senses_any (x y : Sn) (w : World) : Calls Tryd.prog 12 #[snV x, snV y] w fun e w' => e = .returned (.bool (decide (x = y))) ∧ Below w.heap.size w w' := by
  have HR0 := Lib.hid ((Blk.new w 23 (snC x)).alloc (.cells (snC y) 23))
  have HY0 := Lib.hid (show Blk ((w.alloc (.cells (snC x) 23)).alloc (.cells (snC y) 23)) (w.heap.size + 1) 23 (snC y) by
    have := Blk.new (w.alloc (.cells (snC x) 23)) 23 (snC y)
    rwa [show (w.alloc (.cells (snC x) 23)).heap.size = w.heap.size + 1 by simp] at this)
  have HB0 := Lib.hid (((Below.refl w.heap.size w).alloc (Nat.le_refl _) (.cells (snC x) 23)).alloc (by simp) (.cells (snC y) 23))
  obtain ⟨r, hr⟩ : ∃ r, r = decide (x = y) := ⟨_, rfl⟩
  have HV := Lib.hid hr
  rw [← hr]
  clear hr
  go_enter Tryd.func12, Tryd.ntmps12
  go_upto_region 1 with (fail)
  change Code.wp _ _ _ _ ((w.alloc (.cells (snC x) 23)).alloc (.cells (snC y) 23))
  have hsz : (w.alloc (.cells (snC x) 23)).heap.size = w.heap.size + 1 := by simp
  generalize (w.alloc (.cells (snC x) 23)).alloc (.cells (snC y) 23) = v0 at *
  try rw [hsz]
  clear hsz
  obtain ⟨p, hp⟩ : ∃ p, p = w.heap.size := ⟨_, rfl⟩
  rw [← hp] at HR0 HY0 ⊢
  clear hp
  have c0 : v0.cell? ⟨p, 0, none⟩ = some (.int .i64 x.k) := HR0.out.cell 0
  have d0 : v0.cell? ⟨p + 1, 0, none⟩ = some (.int .i64 y.k) := HY0.out.cell 0
  have c1 : v0.cell? ⟨p, 1, none⟩ = some (.int .i64 x.a) := HR0.out.cell 1
  have d1 : v0.cell? ⟨p + 1, 1, none⟩ = some (.int .i64 y.a) := HY0.out.cell 1
  have c2 : v0.cell? ⟨p, 2, none⟩ = some (.int .i64 x.q) := HR0.out.cell 2
  have d2 : v0.cell? ⟨p + 1, 2, none⟩ = some (.int .i64 y.q) := HY0.out.cell 2
  have c3 : v0.cell? ⟨p, 3, none⟩ = some (.int .i64 x.t) := HR0.out.cell 3
  have d3 : v0.cell? ⟨p + 1, 3, none⟩ = some (.int .i64 y.t) := HY0.out.cell 3
  cases q0 : (x.k == y.k) with
  | true =>
    cases q1 : (x.a == y.a) with
    | true =>
      cases q2 : (x.q == y.q) with
      | true =>
        cases q3 : (x.t == y.t) with
        | true =>
          go_wp2_with (fail)
          go_ret
          exact ⟨by rw [HV.out, decide_eq_true (by obtain ⟨a0, a1, a2, a3⟩ := x; obtain ⟨b0, b1, b2, b3⟩ := y; simp at q0 q1 q2 q3; rw [q0, q1, q2, q3])]; rfl, HB0.out⟩
        | false =>
          go_wp2_with (fail)
          go_ret
          exact ⟨by rw [HV.out, decide_eq_false (fun h => by rw [h] at q3; simp at q3)]; rfl, HB0.out⟩
      | false =>
        go_wp2_with (fail)
        go_ret
        exact ⟨by rw [HV.out, decide_eq_false (fun h => by rw [h] at q2; simp at q2)]; rfl, HB0.out⟩
    | false =>
      go_wp2_with (fail)
      go_ret
      exact ⟨by rw [HV.out, decide_eq_false (fun h => by rw [h] at q1; simp at q1)]; rfl, HB0.out⟩
  | false =>
    go_wp2_with (fail)
    go_ret
    exact ⟨by rw [HV.out, decide_eq_false (fun h => by rw [h] at q0; simp at q0)]; rfl, HB0.out⟩
end Go.Proofs.YthcaeihpdlgcaaaDoor
