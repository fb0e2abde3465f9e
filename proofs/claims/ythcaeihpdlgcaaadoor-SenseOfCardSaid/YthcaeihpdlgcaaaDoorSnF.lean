/- The outcome of a status and a sense: the document's Code. -/
import Derived.Test.YthcaeihpdlgcaaaDoorSnC
import Derived.Test.YthcaeihpdlgcaaaDoorSnE
namespace Go.Proofs.YthcaeihpdlgcaaaDoor
open Go.RowKit
/-- The cells of the eleven outcomes. -/
def candC (t : Int) : Array Value := ((cands t).flatMap fun o => (ouC o.c o.t o.w zR).toList).toArray
theorem candC_at (t : Int) (k : Nat) (hk : k < 11) : ∃ o, (cands t)[k]? = some o ∧ ∀ (j : Nat) (u : Value), (ouC o.c o.t o.w zR)[j]? = some u → (candC t)[k * 9 + j]? = some u := by
  match k, hk with
  | 0, _ => exact ⟨_, rfl, fun j u h => by
      match j, h with
      | 0, h => exact h
      | 1, h => exact h
      | 2, h => exact h
      | 3, h => exact h
      | 4, h => exact h
      | 5, h => exact h
      | 6, h => exact h
      | 7, h => exact h
      | 8, h => exact h
      | j + 9, h => simp at h⟩
  | 1, _ => exact ⟨_, rfl, fun j u h => by
      match j, h with
      | 0, h => exact h
      | 1, h => exact h
      | 2, h => exact h
      | 3, h => exact h
      | 4, h => exact h
      | 5, h => exact h
      | 6, h => exact h
      | 7, h => exact h
      | 8, h => exact h
      | j + 9, h => simp at h⟩
  | 2, _ => exact ⟨_, rfl, fun j u h => by
      match j, h with
      | 0, h => exact h
      | 1, h => exact h
      | 2, h => exact h
      | 3, h => exact h
      | 4, h => exact h
      | 5, h => exact h
      | 6, h => exact h
      | 7, h => exact h
      | 8, h => exact h
      | j + 9, h => simp at h⟩
  | 3, _ => exact ⟨_, rfl, fun j u h => by
      match j, h with
      | 0, h => exact h
      | 1, h => exact h
      | 2, h => exact h
      | 3, h => exact h
      | 4, h => exact h
      | 5, h => exact h
      | 6, h => exact h
      | 7, h => exact h
      | 8, h => exact h
      | j + 9, h => simp at h⟩
  | 4, _ => exact ⟨_, rfl, fun j u h => by
      match j, h with
      | 0, h => exact h
      | 1, h => exact h
      | 2, h => exact h
      | 3, h => exact h
      | 4, h => exact h
      | 5, h => exact h
      | 6, h => exact h
      | 7, h => exact h
      | 8, h => exact h
      | j + 9, h => simp at h⟩
  | 5, _ => exact ⟨_, rfl, fun j u h => by
      match j, h with
      | 0, h => exact h
      | 1, h => exact h
      | 2, h => exact h
      | 3, h => exact h
      | 4, h => exact h
      | 5, h => exact h
      | 6, h => exact h
      | 7, h => exact h
      | 8, h => exact h
      | j + 9, h => simp at h⟩
  | 6, _ => exact ⟨_, rfl, fun j u h => by
      match j, h with
      | 0, h => exact h
      | 1, h => exact h
      | 2, h => exact h
      | 3, h => exact h
      | 4, h => exact h
      | 5, h => exact h
      | 6, h => exact h
      | 7, h => exact h
      | 8, h => exact h
      | j + 9, h => simp at h⟩
  | 7, _ => exact ⟨_, rfl, fun j u h => by
      match j, h with
      | 0, h => exact h
      | 1, h => exact h
      | 2, h => exact h
      | 3, h => exact h
      | 4, h => exact h
      | 5, h => exact h
      | 6, h => exact h
      | 7, h => exact h
      | 8, h => exact h
      | j + 9, h => simp at h⟩
  | 8, _ => exact ⟨_, rfl, fun j u h => by
      match j, h with
      | 0, h => exact h
      | 1, h => exact h
      | 2, h => exact h
      | 3, h => exact h
      | 4, h => exact h
      | 5, h => exact h
      | 6, h => exact h
      | 7, h => exact h
      | 8, h => exact h
      | j + 9, h => simp at h⟩
  | 9, _ => exact ⟨_, rfl, fun j u h => by
      match j, h with
      | 0, h => exact h
      | 1, h => exact h
      | 2, h => exact h
      | 3, h => exact h
      | 4, h => exact h
      | 5, h => exact h
      | 6, h => exact h
      | 7, h => exact h
      | 8, h => exact h
      | j + 9, h => simp at h⟩
  | 10, _ => exact ⟨_, rfl, fun j u h => by
      match j, h with
      | 0, h => exact h
      | 1, h => exact h
      | 2, h => exact h
      | 3, h => exact h
      | 4, h => exact h
      | 5, h => exact h
      | 6, h => exact h
      | 7, h => exact h
      | 8, h => exact h
      | j + 9, h => simp at h⟩
/-- What Code answers. -/
def codV (o : Option Oc) : Value := match o with
  | some o => .tuple #[ouV o.c o.t o.w zR, .bool true]
  | none => .tuple #[ouV 0 0 0 zR, .bool false]
theorem results_ou {fn : Func} {p u : Tmp} (h : fn.results = #[.cell p 41, .tmp u]) (tmps : Array Value) (w : World) (g : Nat) (o : Oc) (hp : tmps.getD p undef = .pointer (some ⟨g, 0, none⟩)) (hg : Blk w g 41 (ouC o.c o.t o.w zR)) :
    (results fn tmps).run Tryd.prog w = .ok (.tuple #[ouV o.c o.t o.w zR, tmps.getD u undef]) w := by
  rw [results_cell_tmp h, hp]
  have := run_loadVar_row (P := Tryd.prog) w g 41 41 (ouC o.c o.t o.w zR) (0, 0) _ hg Tryd.underlying41 rfl ou_info
  simp [asAddr, this, Result.andThen]
theorem ouC_one (c t w : Int) : (ouC c t w zR).all (·.oneCell') = true := by simp [ouC, zR, Value.oneCell']
section
variable {P : Program} {ops : Array Oper} {o : Oper} {a : Act} {w : World} {K : Act → World → Prop} {Q : Exit → Act → World → Prop}
theorem wp_load_cells (ty : TypeId) (x : Operand) (ho : o.op = .load ty x)
    (b i : Nat) (hx : a.eval x = .pointer (some ⟨b, i, none⟩)) (cs : Array Value) (hc : ∀ (j : Nat) (v : Value), cs[j]? = some v → w.cell? ⟨b, i + j, none⟩ = some v) (d : TypeDesc)
    (hu : P.underlying ty = some d) (hd : (match d with | .struct _ | .array _ _ => true | _ => false) = true) (hi : (P.info? ty).map (·.size) = some cs.size)
    (h : K (a.put o.dst (.agg cs)) w) : o.wp P a w K Q := by
  have hl : (loadCells ⟨b, i, none⟩ cs.toList.length).run P w = .ok cs.toList.toArray w :=
    run_loadCells_list (P := P) w ⟨b, i, none⟩ cs.toList (fun j v hv => by
      have hadd : (⟨b, i, none⟩ : Addr).add j = ⟨b, i + j, none⟩ := by unfold Addr.add; split <;> simp_all
      rw [hadd]
      exact hc j v (by simpa using hv))
  simp only [Array.length_toList, Array.toArray_toList] at hl
  have hr : (loadVar ty ⟨b, i, none⟩).run P w = .ok (.agg cs) w := by
    cases hq : P.info? ty with
    | none => simp [hq] at hi
    | some z =>
      have hs : z.size = cs.size := by simpa [hq] using hi
      have hagg : (isAgg ty).run P w = .ok true w := by
        unfold isAgg
        rw [Sem.run_bind, run_underlying hu w]
        cases d <;> simp_all
      simp [loadVar, Sem.run_bind, hagg, sizeOf, typeInfo, hq, hs, hl]
  unfold Oper.wp execOp
  simp only [ho, hx, Instr.loadAt, Instr.sureAddr, Sem.run_bind, Sem.run_pure, Result.andThen_ok, hr]
  exact h
theorem wpList_load_cells {rest : List Oper} (hgd : o.guard = none) (ty : TypeId) (x : Operand) (ho : o.op = .load ty x)
    (b i : Nat) (hx : a.eval x = .pointer (some ⟨b, i, none⟩)) (cs : Array Value) (hc : ∀ (j : Nat) (v : Value), cs[j]? = some v → w.cell? ⟨b, i + j, none⟩ = some v) (d : TypeDesc)
    (hu : P.underlying ty = some d) (hd : (match d with | .struct _ | .array _ _ => true | _ => false) = true) (hi : (P.info? ty).map (·.size) = some cs.size)
    (h : wpList P ops Q rest (a.put o.dst (.agg cs)) w) : wpList P ops Q (o :: rest) a w :=
  wpList_plain hgd fun _ hK => wp_load_cells ty x ho b i hx cs hc d hu hd hi (hK _ _ h)
end
theorem find_hit {l : List Oc} {f : Oc → Bool} {k : Nat} {o : Oc} (hk : l[k]? = some o) (hf : f o = true) (hb : ∀ j, j < k → ∀ q, l[j]? = some q → f q = false) : l.find? f = some o := by
  induction l generalizing k with
  | nil => simp at hk
  | cons x l ih =>
    cases k with
    | zero =>
      simp at hk; subst hk
      simp [hf]
    | succ k =>
      have h0 := hb 0 (by omega) x rfl
      rw [List.find?_cons, h0]
      exact ih (k := k) (by simpa using hk) (fun j hj q hq => hb (j + 1) (by omega) q (by simpa using hq))
theorem find_miss {l : List Oc} {f : Oc → Bool} (hb : ∀ j, j < l.length → ∀ q, l[j]? = some q → f q = false) : l.find? f = none := by
  rw [List.find?_eq_none]
  intro x hx
  obtain ⟨j, hj⟩ := List.getElem?_of_mem hx
  rw [hb j (List.getElem?_eq_some_iff.1 hj).1 x hj]
  decide
set_option maxRecDepth 100000 in
set_option maxHeartbeats 16000000 in
theorem refCode_any (n : Int) (x : Sn) (w : World) : Calls Tryd.prog 16 #[.int .i64 n, snV x] w fun e w' => e = .returned (codV (codX n x)) ∧ Below w.heap.size w w' := by
  have HX0 := Lib.hid ((Blk.new w 23 (snC x)).alloc (.cells (ouC 0 0 0 zR) 41))
  have HR0 := Lib.hid (show Blk ((w.alloc (.cells (snC x) 23)).alloc (.cells (ouC 0 0 0 zR) 41)) (w.heap.size + 1) 41 (ouC 0 0 0 zR) by
    have := Blk.new (w.alloc (.cells (snC x) 23)) 41 (ouC 0 0 0 zR)
    rwa [show (w.alloc (.cells (snC x) 23)).heap.size = w.heap.size + 1 by simp] at this)
  have HB0 := Lib.hid (((Below.refl w.heap.size w).alloc (Nat.le_refl _) (.cells (snC x) 23)).alloc (by simp) (.cells (ouC 0 0 0 zR) 41))
  have HOF := Lib.hid (fun (c t u : Int) v => refOf_any c t u zR v)
  have HSE := Lib.hid (fun (y : Sn) v => senses_any y x v)
  have HHIT := Lib.hid (fun k o => find_hit (l := cands x.t) (f := fun o => decide (ofX o.c o.t o.w = (n, x))) (k := k) (o := o))
  have HMISS := Lib.hid (find_miss (l := cands x.t) (f := fun o => decide (ofX o.c o.t o.w = (n, x))))
  obtain ⟨O, hO⟩ : ∃ O, O = codX n x := ⟨_, rfl⟩
  have HO := Lib.hid (show O = (cands x.t).find? fun o => decide (ofX o.c o.t o.w = (n, x)) from hO)
  rw [← hO]
  clear hO
  go_enter Tryd.func16, Tryd.ntmps16
  go_upto_region 1 with (fail)
  change Code.wp _ _ _ _ ((w.alloc (.cells (snC x) 23)).alloc (.cells (ouC 0 0 0 zR) 41))
  have hsz : (w.alloc (.cells (snC x) 23)).heap.size = w.heap.size + 1 := by simp
  generalize (w.alloc (.cells (snC x) 23)).alloc (.cells (ouC 0 0 0 zR) 41) = v0 at *
  try rw [hsz]
  clear hsz
  obtain ⟨p, hp⟩ : ∃ p, p = w.heap.size := ⟨_, rfl⟩
  have HP := Lib.hid hp
  rw [← hp] at HX0 HR0 ⊢
  clear hp
  refine wp_region_lit ?_
  refine wpList_runs rfl (some 9) rfl (ouV 1 0 0 zR) v0 (by kernel_rfl) ?_
  refine wpList_runs rfl (some 10) rfl (ouV 2 0 0 zR) v0 (by kernel_rfl) ?_
  refine wpList_runs rfl (some 11) rfl (ouV 4 0 0 zR) v0 (by kernel_rfl) ?_
  refine wpList_runs rfl (some 12) rfl (ouV 5 0 0 zR) v0 (by kernel_rfl) ?_
  refine wpList_runs rfl (some 13) rfl (ouV 6 0 0 zR) v0 (by kernel_rfl) ?_
  refine wpList_runs rfl (some 14) rfl (ouV 8 0 0 zR) v0 (by kernel_rfl) ?_
  refine wpList_runs rfl (some 15) rfl (ouV 7 0 1 zR) v0 (by kernel_rfl) ?_
  refine wpList_runs rfl (some 16) rfl (ouV 7 0 2 zR) v0 (by kernel_rfl) ?_
  refine wpList_runs rfl (some 17) rfl (ouV 7 0 3 zR) v0 (by kernel_rfl) ?_
  refine wpList_runs rfl (some 18) rfl (ouV 7 0 4 zR) v0 (by kernel_rfl) ?_
  refine wpList_runs rfl (some 19) rfl (.pointer (some ⟨p, 3, none⟩)) v0 (by go_simp) ?_
  have c3 : v0.cell? ⟨p, 3, none⟩ = some (.int .i64 x.t) := HX0.out.cell 3
  refine wpList_runs rfl (some 20) rfl (.int .i64 x.t) v0 (by go_simp) ?_
  clear c3
  refine wpList_runs rfl (some 21) rfl (ouV 3 x.t 0 zR) v0 (by kernel_rfl) ?_
  refine wpList_runs rfl (some 22) rfl (.slice (some ⟨v0.heap.size, 0, none⟩) 11 11) (v0.alloc (.cells (candC x.t) 41)) (by kernel_rfl) ?_
  have hal := (Below.refl v0.heap.size v0).alloc (Nat.le_refl _) (.cells (candC x.t) 41)
  have HX := Lib.hid (HX0.out.below hal HX0.out.lt); have HR := Lib.hid (HR0.out.below hal HR0.out.lt); have HB := Lib.hid (HB0.out.trans (hal.mono HB0.out.size))
  have HL := Lib.hid (Blk.new v0 41 (candC x.t))
  obtain ⟨g, hg⟩ : ∃ g, g = v0.heap.size := ⟨_, rfl⟩
  rw [← hg] at HL ⊢
  clear hal hg HX0 HR0 HB0
  generalize v0.alloc (.cells (candC x.t) 41) = v1 at *
  go_wp2_with (fail)
  go_loopw [7] (fun i wr => ∃ k : Nat, k ≤ 11 ∧ i = .int .i64 k ∧ Hid (Below w.heap.size w wr) ∧ Hid (Blk wr p 23 (snC x)) ∧ Hid (Blk wr (p + 1) 41 (ouC 0 0 0 zR)) ∧ Hid (Blk wr g 41 (candC x.t)) ∧ Hid (∀ j, j < k → ∀ q, (cands x.t)[j]? = some q → decide (ofX q.c q.t q.w = (n, x)) = false)) (fun i _ => 11 - (intOf i).toNat)
  case atStart => exact ⟨0, by decide, rfl, HB, HX, HR, HL, Lib.hid (fun j h => by omega)⟩
  case round =>
    clear HB HX HR HL
    obtain ⟨k, hk, rfl, HB, HX, HR, HL, HJ⟩ := hrel
    by_cases hk11 : (k : Int) < 11
    · obtain ⟨o, ho, hc⟩ := candC_at x.t k (by omega)
      have HOK := Lib.hid ho
      have HLC := Lib.hid (fun (v : World) (hb : Blk v g 41 (candC x.t)) => show ∀ (j : Nat) (u : Value), (ouC o.c o.t o.w zR)[j]? = some u → v.cell? ⟨g, k * 9 + j, none⟩ = some u from fun j u hj => (hb.cell (k * 9 + j)).trans (hc j u hj))
      obtain ⟨st, hst⟩ : ∃ st, st = (ofX o.c o.t o.w).1 := ⟨_, rfl⟩
      obtain ⟨y, hy⟩ : ∃ y, y = (ofX o.c o.t o.w).2 := ⟨_, rfl⟩
      have HOO : Hid (∀ v, Calls Tryd.prog 14 #[ouV o.c o.t o.w zR] v fun e v' => e = .returned (rpV st y) ∧ Below v.heap.size v v') := Lib.hid (fun v => by rw [hst, hy]; exact HOF.out _ _ _ v)
      have HEQ := Lib.hid (show ofX o.c o.t o.w = (st, y) by rw [hst, hy])
      have hkn : (0 : Int) ≤ (k : Int) := by omega
      clear ho hc hst hy
      go_upto_region 5 with (fail)
      refine wp_region_lit ?_
      refine wpList_runs rfl (some 29) rfl (.slice (some ⟨g, 0, none⟩) 11 11) wr (by rfl) ?_
      refine wpList_runs rfl (some 30) rfl (.int .i64 (k : Int)) wr (by rfl) ?_
      refine wpList_runs rfl (some 31) rfl (.pointer (some ⟨g, k * 9, none⟩)) wr (by go_simp) ?_
      refine wpList_load_cells rfl 41 (.tmp 31) rfl g (k * 9) rfl (ouC o.c o.t o.w zR) (HLC.out wr HL.out) _ Tryd.underlying41 rfl ou_info ?_
      go_wp2_with (fail)
      refine (HOO.out wr).mono ?_; rintro e v2 ⟨rfl, hb⟩
      replace HB := Lib.hid (HB.out.trans (hb.mono HB.out.size)); replace HX := Lib.hid (HX.out.below hb HX.out.lt); replace HR := Lib.hid (HR.out.below hb HR.out.lt); replace HL := Lib.hid (HL.out.below hb HL.out.lt)
      clear hb
      go_upto_region 6 with (fail)
      change Code.wp _ _ _ _ (v2.alloc (.cells (rpC st y) 45))
      have hal := (Below.refl v2.heap.size v2).alloc (Nat.le_refl _) (.cells (rpC st y) 45)
      replace HB := Lib.hid (HB.out.trans (hal.mono HB.out.size)); replace HX := Lib.hid (HX.out.below hal HX.out.lt); replace HR := Lib.hid (HR.out.below hal HR.out.lt); replace HL := Lib.hid (HL.out.below hal HL.out.lt)
      have HY := Lib.hid (Blk.new v2 45 (rpC st y))
      obtain ⟨r, hr⟩ : ∃ r, r = v2.heap.size := ⟨_, rfl⟩
      rw [← hr] at HY ⊢
      clear hal hr
      generalize v2.alloc (.cells (rpC st y) 45) = v3 at *
      have d0 : v3.cell? ⟨r, 0, none⟩ = some (.int .i64 st) := HY.out.cell 0
      have d1 : v3.cell? ⟨r, 1, none⟩ = some (.int .i64 y.k) := HY.out.cell 1
      have d2 : v3.cell? ⟨r, 2, none⟩ = some (.int .i64 y.a) := HY.out.cell 2
      have d3 : v3.cell? ⟨r, 3, none⟩ = some (.int .i64 y.q) := HY.out.cell 3
      have d4 : v3.cell? ⟨r, 4, none⟩ = some (.int .i64 y.t) := HY.out.cell 4
      have c0 : v3.cell? ⟨p, 0, none⟩ = some (.int .i64 x.k) := HX.out.cell 0
      have c1 : v3.cell? ⟨p, 1, none⟩ = some (.int .i64 x.a) := HX.out.cell 1
      have c2 : v3.cell? ⟨p, 2, none⟩ = some (.int .i64 x.q) := HX.out.cell 2
      have c3 : v3.cell? ⟨p, 3, none⟩ = some (.int .i64 x.t) := HX.out.cell 3
      cases q : (st == n) with
      | false =>
        have HJ1 := Lib.hid (show ∀ j, j < k + 1 → ∀ q, (cands x.t)[j]? = some q → decide (ofX q.c q.t q.w = (n, x)) = false from fun j hj z hz => by
          by_cases h : j = k
          · subst h
            obtain rfl := Option.some.inj (HOK.out.symm.trans hz)
            exact decide_eq_false (fun h => by rw [HEQ.out] at h; have := (Prod.mk.inj h).1; rw [this] at q; simp at q)
          · exact HJ.out j (by omega) z hz)
        go_wp2_with (fail)
        go_roundw
        case rel => exact ⟨k + 1, by omega, by go_num, HB, HX, HR, HL, HJ1⟩
        case measure => simp [intOf]; omega
      | true =>
        have HST := Lib.hid (show st = n by simpa using q)
        go_wp2_with (fail)
        refine (HSE.out y v3).mono ?_; rintro e v4 ⟨rfl, hb⟩
        replace HB := Lib.hid (HB.out.trans (hb.mono HB.out.size)); replace HX := Lib.hid (HX.out.below hb HX.out.lt); replace HR := Lib.hid (HR.out.below hb HR.out.lt); replace HL := Lib.hid (HL.out.below hb HL.out.lt)
        clear hb d0 d1 d2 d3 d4 c0 c1 c2 c3
        by_cases hyx : y = x
        · rw [decide_eq_true hyx]
          have HF := Lib.hid (show O = some o by rw [HO.out]; exact HHIT.out k o HOK.out (decide_eq_true (by rw [HEQ.out, HST.out, hyx])) HJ.out)
          clear hyx q
          go_upto_region 7 with (fail)
          refine wp_region_lit ?_
          refine wpList_runs rfl (some 44) rfl (.slice (some ⟨g, 0, none⟩) 11 11) v4 (by rfl) ?_
          refine wpList_runs rfl (some 45) rfl (.int .i64 (k : Int)) v4 (by rfl) ?_
          refine wpList_runs rfl (some 46) rfl (.pointer (some ⟨g, k * 9, none⟩)) v4 (by go_simp) ?_
          refine wpList_load_cells rfl 41 (.tmp 46) rfl g (k * 9) rfl (ouC o.c o.t o.w zR) (HLC.out v4 HL.out) _ Tryd.underlying41 rfl ou_info ?_
          refine wpList_store_row rfl 41 (.tmp 4) (.tmp 47) rfl (p + 1) (ouC o.c o.t o.w zR) rfl rfl 41 (ouC 0 0 0 zR) HR.out ou_info rfl (ouC_one _ _ _) ?_
          have HZ := Lib.hid (setRow_blk (cs' := ouC o.c o.t o.w zR) HR.out)
          have HBZ := Lib.hid (below_setRow HB.out (by have := HP.out; omega) (ouC o.c o.t o.w zR) (g := p + 1))
          generalize v4.setRow (p + 1) (ouC o.c o.t o.w zR) = vz at *
          go_wp2_with (fail)
          refine bodyPost_ret_by (results_ou Tryd.results16 _ _ (p + 1) o rfl HZ.out) rfl ?_
          exact ⟨by rw [HF.out]; rfl, HBZ.out⟩
        · rw [decide_eq_false hyx]
          have HJ1 := Lib.hid (show ∀ j, j < k + 1 → ∀ q, (cands x.t)[j]? = some q → decide (ofX q.c q.t q.w = (n, x)) = false from fun j hj z hz => by
            by_cases h : j = k
            · subst h
              obtain rfl := Option.some.inj (HOK.out.symm.trans hz)
              exact decide_eq_false (fun h => by rw [HEQ.out] at h; exact hyx (Prod.mk.inj h).2)
            · exact HJ.out j (by omega) z hz)
          clear hyx q
          go_wp2_with (fail)
          go_roundw
          case rel => exact ⟨k + 1, by omega, by go_num, HB, HX, HR, HL, HJ1⟩
          case measure => simp [intOf]; omega
    · have HF := Lib.hid (show O = none by rw [HO.out]; exact HMISS.out (fun j hj => HJ.out j (by have h11 : (cands x.t).length = 11 := rfl; omega)))
      go_upto_region 8 with (fail)
      refine wp_region_lit ?_
      refine wpList_runs rfl (some 48) rfl (ouV 0 0 0 zR) wr (by kernel_rfl) ?_
      refine wpList_store_row rfl 41 (.tmp 4) (.tmp 48) rfl (p + 1) (ouC 0 0 0 zR) rfl rfl 41 (ouC 0 0 0 zR) HR.out ou_info rfl (ouC_one _ _ _) ?_
      have HZ := Lib.hid (setRow_blk (cs' := ouC 0 0 0 zR) HR.out)
      have HBZ := Lib.hid (below_setRow HB.out (by have := HP.out; omega) (ouC 0 0 0 zR) (g := p + 1))
      generalize wr.setRow (p + 1) (ouC 0 0 0 zR) = vz at *
      go_wp2_with (fail)
      refine bodyPost_ret_by (results_ou Tryd.results16 _ _ (p + 1) ⟨0, 0, 0⟩ rfl HZ.out) rfl ?_
      exact ⟨by rw [HF.out]; rfl, HBZ.out⟩
end Go.Proofs.YthcaeihpdlgcaaaDoor
