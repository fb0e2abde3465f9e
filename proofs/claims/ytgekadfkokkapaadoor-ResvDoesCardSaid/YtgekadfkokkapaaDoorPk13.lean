/- A table copied, with memory of its own; the effects by number. Steps of a region that draws its order: loads, stores and calls by their contracts; what follows is proved once. What stays when the power goes, by the program and by the document. -/
import Derived.Test.YtgekadfkokkapaaDoorPk06
import Derived.Carry
import Derived.Test.YtgekadfkokkapaaDoorPk11
namespace Go.Proofs.YtgekadfkokkapaaDoor
open Go.RowKit
open Go.ChangeMaps (setBlock)
abbrev effE (n : Int) (f ck : Nat) : MapEntry := { key := .int .i64 n, val := .func (.func f) #[] #[], born := ck }
/-- The map of the effects. -/
def effM : Array MapEntry := #[effE 8 55 0, effE 9 56 1, effE 10 57 2, effE 11 58 3, effE 12 59 4]
theorem run_up (w : World) (b : Nat) (hb0 : b = w.heap.size) (es : Array MapEntry) (ck : Nat) (n : Int) (f : Nat) (hf : Instr.findNow (.int .i64) (.int .i64 n) es.toList 0 = some none) :
    (Instr.mapUpdate 67 (.map (some b)) (.int .i64 n) (.func (.func f) #[] #[])).run Tryd.prog (w.alloc (.map es ck)) = .ok () (w.alloc (.map (es.push (effE n f ck)) (ck + 1))) := by
  subst hb0
  have hb : (w.alloc (.map es ck)).heap[w.heap.size]? = some (.map es ck) := by show (w.heap.push _)[w.heap.size]? = _; simp
  have hck := MapKept.run_checkKey (P := Tryd.prog) (w := w.alloc (.map es ck)) (k := .int .i64 n) Tryd.underlying3 (by simp [MapKept.IsKey]) false 9999
  have hfk : (Instr.findKey 3 (.int .i64 n) es.toList).run Tryd.prog (w.alloc (.map es ck)) = .ok none (w.alloc (.map es ck)) := by
    unfold Instr.findKey
    simp only [Sem.run_bind, run_underlying Tryd.underlying3, Result.andThen, hf]
    rfl
  have hset := MapKept.run_setObj_map (P := Tryd.prog) (.map (es.push (effE n f ck)) (ck + 1)) hb
  have hw : ({ (w.alloc (.map es ck)) with heap := (w.alloc (.map es ck)).heap.setIfInBounds w.heap.size (.map (es.push (effE n f ck)) (ck + 1)) } : World) = w.alloc (.map (es.push (effE n f ck)) (ck + 1)) := by
    show ({ w with heap := (w.heap.push _).setIfInBounds w.heap.size _ } : World) = { w with heap := w.heap.push _ }
    congr 1
    apply Array.ext_getElem?
    intro i
    rw [Array.getElem?_setIfInBounds, Array.getElem?_push, Array.getElem?_push, Array.size_push]
    by_cases h : i = w.heap.size
    · subst h; simp
    · simp [h, Ne.symm h]
  rw [hw] at hset
  unfold Instr.mapUpdate
  simp only [Sem.run_bind, run_underlying Tryd.underlying67, Result.andThen, MapKept.run_getObj_map hb, hck, hfk]
  exact hset
theorem run_look (w : World) (b : Nat) (hb : w.heap[b]? = some (.map effM 5)) (n : Int) (r : Option (Nat × Value)) (hf : Instr.findNow (.int .i64) (.int .i64 n) effM.toList 0 = some r) :
    (Instr.lookup 67 (.map (some b)) (.int .i64 n) true).run Tryd.prog w = .ok (.tuple #[match r with | some (_, v) => v | none => .nilFunc, .bool r.isSome]) w := by
  have hck := MapKept.run_checkKey (P := Tryd.prog) (w := w) (k := .int .i64 n) Tryd.underlying3 (by simp [MapKept.IsKey]) false 9999
  have hfk : (Instr.findKey 3 (.int .i64 n) effM.toList).run Tryd.prog w = .ok r w := by
    unfold Instr.findKey
    simp only [Sem.run_bind, run_underlying Tryd.underlying3, Result.andThen, hf]
    rfl
  have hz : (zeroValue 65).run Tryd.prog w = .ok .nilFunc w := by kernel_rfl
  unfold Instr.lookup
  cases r with
  | none =>
    simp only [Sem.run_bind, run_underlying Tryd.underlying67, Result.andThen, MapKept.run_getObj_map hb]
    simp only [show effM.isEmpty = false from rfl, Sem.run_pure, hck, hfk, Sem.run_bind, hz, Result.andThen]
    rfl
  | some x =>
    obtain ⟨i, v⟩ := x
    simp only [Sem.run_bind, run_underlying Tryd.underlying67, Result.andThen, MapKept.run_getObj_map hb]
    simp only [show effM.isEmpty = false from rfl, Sem.run_pure, hck, hfk, Sem.run_bind, Result.andThen]
    rfl
theorem effects_any (w : World) : Calls Tryd.prog 37 #[] w fun e w' => e = .returned (.map (some w.heap.size)) ∧ w' = w.alloc (.map effM 5) := by
  have hmm := @run_makeMap Tryd.prog
  have h0 := run_up w _ rfl #[] 0 8 55 rfl
  have h1 := run_up w _ rfl #[effE 8 55 0] 1 9 56 rfl
  have h2 := run_up w _ rfl #[effE 8 55 0, effE 9 56 1] 2 10 57 rfl
  have h3 := run_up w _ rfl #[effE 8 55 0, effE 9 56 1, effE 10 57 2] 3 11 58 rfl
  have h4 := run_up w _ rfl #[effE 8 55 0, effE 9 56 1, effE 10 57 2, effE 11 58 3] 4 12 59 rfl
  simp only [List.push_toArray, List.cons_append, List.nil_append] at h0 h1 h2 h3 h4
  go_enter Tryd.func37, Tryd.ntmps37
  go_wp2
  go_ret
  exact ⟨rfl, rfl⟩
theorem setCell_noop {w : World} {b i : Nat} {v : Value} (h : w.cell? ⟨b, i, none⟩ = some v) : w.setCell ⟨b, i, none⟩ v = w := by
  have hh : w.heap.modify b (fun | .cells c elem frozen => .cells (if (none : Option Nat).isSome then c else c.setIfInBounds i v) elem frozen | o => o) = w.heap := by
    apply Array.ext_getElem?
    intro j
    rw [Array.getElem?_modify]
    by_cases hj : b = j
    · subst hj
      rw [if_pos rfl]
      unfold World.cell? at h
      simp only at h
      cases ho : w.heap[b]? with
      | none => rfl
      | some o =>
        rw [ho] at h
        cases o with
        | cells c e f =>
          simp at h
          simp
          apply Array.ext_getElem?
          intro q
          rw [Array.getElem?_setIfInBounds]
          by_cases hq : i = q
          · subst hq; have hlt := (Array.getElem?_eq_some_iff.1 h).1; rw [if_pos rfl, if_pos hlt, h]
          · rw [if_neg hq]
        | _ => rfl
    · rw [if_neg hj]
  exact congrArg (fun h => ({ w with heap := h } : World)) hh
set_option maxHeartbeats 1000000 in
theorem sClone_any (A : Option Addr) (c : Nat) (l : List Rg) (w : World) (hl : Rgs w A l) (hm : l.length ≤ 1000) :
    Calls Tryd.prog 53 #[.slice A l.length c] w fun e w' => ∃ A' c', e = .returned (.slice A' l.length c') ∧ Own w' w.heap.size A' c' l ∧ Below w.heap.size w w' := by
  cases A with
  | none =>
    have h0 : l = [] := by
      cases l with
      | nil => rfl
      | cons k ks => obtain ⟨b, o, e, _⟩ := hl (by simp); cases e
    subst h0
    clear hm
    have hq : (binOp BinOp.eql 22 (.slice none 0 c) (.slice none 0 0)).run Tryd.prog w = .ok (.bool true) w := by kernel_rfl
    go_enter Tryd.func53, Tryd.ntmps53
    go_wp2_with (fail)
    go_ret
    exact ⟨none, 0, rfl, Own.nil _ _, Below.refl _ _⟩
  | some ad =>
    have HL := Lib.hid (hl.below ((Below.refl w.heap.size w).alloc (Nat.le_refl _) (.cells #[] 57)))
    have HM := Lib.hid hm
    clear hl hm
    have hq : (binOp BinOp.eql 22 (.slice (some ad) l.length c) (.slice none 0 0)).run Tryd.prog w = .ok (.bool false) w := by kernel_rfl
    go_enter Tryd.func53, Tryd.ntmps53
    go_wp2_with (at_builtin; refine wpList_append_rgs rfl (.tmp 5) (.tmp 6) rfl w.heap.size (some ⟨w.heap.size, 0, none⟩) 0 [] rfl (own_none w) (some ad) c l rfl HL.out (by have := HM.out; simp; omega) (by simp) ?_; intro A3 cc w3 hn3 hg3; have H3 := Lib.hid hn3; have HG3 := Lib.hid hg3; clear hn3 hg3)
    go_ret
    refine ⟨A3, cc, rfl, H3.out, ?_⟩
    exact ((Below.refl w.heap.size w).alloc (Nat.le_refl _) (.cells #[] 57)).grown HG3.out (by simp) (fun k hk => by rw [← Option.some.inj hk]; exact Nat.le_refl _)
/-- How far a copy of a table is: its box, the result's box, its registrations. -/
structure CpAt (w v : World) (A : Option Addr) (c : Nat) (t : Tl) : Prop where
  box : Blk v w.heap.size 27 (tlC A c t)
  res : Blk v (w.heap.size + 1) 27 tlZ
  own : Own v w.heap.size A c t.rs
  bel : Below w.heap.size w v
theorem CpAt.below {w v v' : World} {A : Option Addr} {c : Nat} {t : Tl} (h : CpAt w v A c t) (hb : Below v.heap.size v v') : CpAt w v' A c t :=
  ⟨h.box.below hb h.box.lt, h.res.below hb h.res.lt, h.own.below hb, h.bel.trans (hb.mono h.bel.size)⟩
set_option maxRecDepth 100000 in
set_option maxHeartbeats 4000000 in
theorem copyOf_any (A : Option Addr) (c : Nat) (t : Tl) (w : World) (hl : Rgs w A t.rs) (hm : t.rs.length ≤ 1000) (hx : ∀ x ∈ t.rs, x.h.size ≤ 1000) (hh : t.ho.size ≤ 1000) :
    Calls Tryd.prog 36 #[tlV A c t] w fun e w' => ∃ A' c', e = .returned (tlV A' c' t) ∧ Own w' w.heap.size A' c' t.rs ∧ Below w.heap.size w w' := by
  obtain ⟨h1, h2, h3, h4⟩ := copy_box w A c t tlZ _ rfl
  have HT := Lib.hid h1; have HZ := Lib.hid h2; have HB := Lib.hid h3; have HS := Lib.hid h4
  have HL := Lib.hid (hl.below h3)
  have HM := Lib.hid hm; have HX := Lib.hid hx; have HH := Lib.hid hh
  clear h1 h2 h3 h4 hl hm hx hh
  go_enter Tryd.func36, Tryd.ntmps36
  go_upto_region 1 with (fail)
  change Code.wp _ _ _ _ ((w.alloc (.cells (tlC A c t) 27)).alloc (.cells tlZ 27))
  generalize (w.alloc (.cells (tlC A c t) 27)).alloc (.cells tlZ 27) = w0 at *
  have c0 : w0.cell? ⟨w.heap.size, 0, none⟩ = some (.slice A t.rs.length c) := HT.out.cell 0
  go_wp2_with (fail)
  refine (sClone_any A c t.rs w0 HL.out HM.out).mono ?_; rintro e w1 ⟨A1, c1, rfl, ho1, hb1⟩
  have hT1 := HT.out.below hb1 HT.out.lt
  have hZ1 := HZ.out.below hb1 HZ.out.lt
  have hap : (Value.slice A1 t.rs.length c1).ownBlock ≠ some w.heap.size := own_apart ho1.1 hT1 (by decide)
  have hC : CpAt w (w1.setCell ⟨w.heap.size, 0, none⟩ (.slice A1 t.rs.length c1)) A1 c1 t := by
    refine ⟨hT1.put 0 _, hZ1.far (p := ⟨w.heap.size, 0, none⟩) (by simp) _, ⟨?_, ho1.2⟩, ?_⟩
    · exact own_base (own_keep ho1.1 fun g hg => Below.heap_setCell w1 _ _ g (fun e => hap (hg.trans (congrArg some e)))) (fun g hg => by have := (ho1.1.lt g hg).1; rw [HS.out] at this; omega)
    · exact (HB.out.trans (hb1.mono HB.out.size)).trans (((Only.refl (fun k => k = w.heap.size) w1).setCell (.inl rfl) _).toBelow (Nat.le_trans HB.out.size hb1.size) (fun k hk => by rw [hk]; exact Nat.le_refl _))
  have f0 := hT1.free 0
  have HC := Lib.hid hC
  have c0 : w1.cell? ⟨w.heap.size, 0, none⟩ = some (.slice A t.rs.length c) := hT1.cell 0
  clear hT1 hZ1 hap ho1 hb1 hC
  go_upto_region 2 with (fail)
  clear f0 c0
  generalize w1.setCell ⟨w.heap.size, 0, none⟩ (.slice A1 t.rs.length c1) = w2 at *
  have c0 : w2.cell? ⟨w.heap.size, 0, none⟩ = some (.slice A1 t.rs.length c1) := HC.out.box.cell 0
  go_wp2_with (fail)
  clear c0
  go_loopw [11] (fun i wr => ∃ k : Nat, k ≤ t.rs.length ∧ i = .int .i64 k ∧ Hid (CpAt w wr A1 c1 t)) (fun i _ => t.rs.length - (intOf i).toNat)
  case atStart => exact ⟨0, Nat.zero_le _, rfl, HC⟩
  case round =>
    obtain ⟨k, hk, rfl, HR⟩ := hrel
    by_cases hlt : k < t.rs.length
    · obtain ⟨b, o, x, rfl, hx, hz, d0, d1⟩ := (HR.out.own.rgs.at_ hlt)
      have c0 : wr.cell? ⟨w.heap.size, 0, none⟩ = some (.slice (some ⟨b, o, none⟩) t.rs.length c1) := HR.out.box.cell 0
      have HXS := Lib.hid (HX.out x (List.mem_of_getElem? hx))
      obtain ⟨g, eg, _, hrow⟩ := RowR.of HR.out.own (by omega)
      obtain ⟨rfl, rfl⟩ : b = g ∧ o = 0 := by
        have := Option.some.inj eg
        injection this with e1 e2
        exact ⟨e1, e2⟩
      have HRow := Lib.hid hrow
      have HK := Lib.hid hx
      have hf := hrow.free (k * 2)
      clear hx eg hrow hz d1
      rw [Nat.zero_add] at d0
      have hkb : (k : Int) < t.rs.length := by omega
      go_upto_region 5 with (fail)
      go_region_law (first
        | (refine step_clone (by rfl) (.tmp 22) (by rfl) x.h (by rfl) (by have := HXS.out; omega) ?_
           intro w5 hb5
           have hbb := (Below.refl wr.heap.size wr).drew.trans hb5
           have H5 := Lib.hid (HR.out.below hbb)
           have R5 := Lib.hid (HRow.out.below hbb)
           have f5 := R5.out.free (k * 2)
           have d5 := (R5.out.cells HK.out).1
           have e5 : w5.cell? ⟨w.heap.size, 0, none⟩ = some (.slice (some ⟨b, 0, none⟩) t.rs.length c1) := H5.out.box.cell 0
           clear hb5 hbb))
      all_goals (
        rw [setCell_noop d5]
        clear f5 d5 e5
        have hmm := HM.out
        go_wp2_with (fail)
        go_roundw
        case rel => exact ⟨k + 1, by omega, by go_num, H5⟩
        case measure => simp [intOf]; omega)
    · obtain rfl : k = t.rs.length := by omega
      have c2 : wr.cell? ⟨w.heap.size, 2, none⟩ = some (.string t.ho) := HR.out.box.cell 2
      go_wp2_with (fail)
      clear c2
      refine (clone_any t.ho wr (by have := HH.out; omega)).mono ?_; rintro e w3 ⟨rfl, hb3⟩
      have H3 := Lib.hid (HR.out.below hb3)
      have f2 := H3.out.box.free 2
      have c2 : w3.cell? ⟨w.heap.size, 2, none⟩ = some (.string t.ho) := H3.out.box.cell 2
      have C2 := Lib.hid c2
      clear hb3
      go_upto_region 8 with (fail)
      rw [setCell_noop C2.out]
      clear c2 f2
      have c0 : w3.cell? ⟨w.heap.size, 0, none⟩ = some (.slice A1 t.rs.length c1) := H3.out.box.cell 0
      have c1' : w3.cell? ⟨w.heap.size, 1, none⟩ = some (.int .i64 t.ty) := H3.out.box.cell 1
      have c2 : w3.cell? ⟨w.heap.size, 2, none⟩ = some (.string t.ho) := H3.out.box.cell 2
      have c3 : w3.cell? ⟨w.heap.size, 3, none⟩ = some (.int .u32 t.ge) := H3.out.box.cell 3
      have c4 : w3.cell? ⟨w.heap.size, 4, none⟩ = some (.bool t.ap) := H3.out.box.cell 4
      have d0 := H3.out.res.cell 0; have d1 := H3.out.res.cell 1; have d2 := H3.out.res.cell 2; have d3 := H3.out.res.cell 3; have d4 := H3.out.res.cell 4
      have g0 := H3.out.res.free 0; have g1 := H3.out.res.free 1; have g2 := H3.out.res.free 2; have g3 := H3.out.res.free 3; have g4 := H3.out.res.free 4
      go_wp2_with (fail)
      have hV : ∀ V, V = (((((w3.setCell ⟨w.heap.size + 1, 0, none⟩ (.slice A1 t.rs.length c1)).setCell ⟨w.heap.size + 1, 1, none⟩ (.int .i64 t.ty)).setCell ⟨w.heap.size + 1, 2, none⟩ (.string t.ho)).setCell ⟨w.heap.size + 1, 3, none⟩ (.int .u32 t.ge)).setCell ⟨w.heap.size + 1, 4, none⟩ (.bool t.ap)) → Blk V (w.heap.size + 1) 27 (tlC A1 c1 t) ∧ Only (fun k => k = w.heap.size + 1) w3 V := by
        rintro V rfl
        refine ⟨(((((H3.out.res.put 0 _).put 1 _).put 2 _).put 3 _).put 4 _), ?_⟩
        exact ((((((Only.refl (fun k => k = w.heap.size + 1) w3).setCell (.inl rfl) _).setCell (.inl rfl) _).setCell (.inl rfl) _).setCell (.inl rfl) _).setCell (.inl rfl) _)
      obtain ⟨hK, hO⟩ := hV _ rfl
      have hap : (Value.slice A1 t.rs.length c1).ownBlock ≠ some (w.heap.size + 1) := own_apart H3.out.own.1 H3.out.res (by decide)
      have hO3 : Own _ w.heap.size A1 c1 t.rs := ⟨own_keep H3.out.own.1 fun g hg => hO.block g (H3.out.own.1.lt g hg).2 (fun e => hap (hg.trans (congrArg some e))), H3.out.own.2⟩
      have hB : Below w.heap.size w _ := H3.out.bel.trans (hO.toBelow H3.out.bel.size (fun k hk => by omega))
      refine bodyPost_ret_by (results_cell_row rfl _ _ (w.heap.size + 1) 27 (tlC A1 c1 t) (0, 0) _ rfl hK Tryd.underlying27 rfl size27) rfl ?_
      exact ⟨A1, c1, rfl, hO3, hB⟩
open Go.RowKit
theorem share1 {T : Prop} {G : World → Prop} (F : World → Prop) (main : (∀ v, F v → G v) → T) (pf : ∀ v, F v → G v) : T := main pf
section
variable {P : Program} {ops : Array Oper} {o : Oper} {a : Act} {w : World} {K : Act → World → Prop} {Q : Exit → Act → World → Prop} {E : Prop}
theorem step_load (hw : Region.wanted o (yielded ops a.tmps) = true) (ty : TypeId) (x : Operand) (ho : o.op = .load ty x)
    (g : Nat) (hx : a.eval x = .pointer (some ⟨g, 0, none⟩)) (t : TypeId) (cs : Array Value) (hg : Blk w g t cs) (d : TypeDesc)
    (hu : P.underlying ty = some d) (hd : (match d with | .struct _ | .array _ _ => true | _ => false) = true) (hi : (P.info? ty).map (·.size) = some cs.size)
    (d0 : Option Tmp) (hd0 : o.dst = d0) (h : K (a.put d0 (.agg cs)) w) : if Region.wanted o (yielded ops a.tmps) = true then Oper.wp P o a w K Q else E := by
  subst hd0
  rw [if_pos hw]
  exact wp_load_row ty x ho g hx t cs (0, 0) d hg hu hd hi h
theorem step_store (hw : Region.wanted o (yielded ops a.tmps) = true) (ty : TypeId) (x y : Operand) (ho : o.op = .store ty x y)
    (g : Nat) (cells : Array Value) (hx : a.eval x = .pointer (some ⟨g, 0, none⟩)) (hy : a.eval y = .agg cells)
    (t : TypeId) (old : Array Value) (hg : Blk w g t old) (hi : (P.info? ty).map (·.size) = some cells.size)
    (hold : old.size = cells.size) (h1 : cells.all (·.oneCell') = true)
    (d0 : Option Tmp) (hd0 : o.dst = d0) (h : ∀ v, Blk v g t cells → Only (fun k => k = g) w v → K (a.put d0 undef) v) : if Region.wanted o (yielded ops a.tmps) = true then Oper.wp P o a w K Q else E := by
  subst hd0
  rw [if_pos hw]
  exact wp_store_row ty x y ho g cells hx hy t old hg hi hold h1 (h _ (setRow_blk hg) (setRow_only w g cells))
theorem step_call2 (hw : Region.wanted o (yielded ops a.tmps) = true) (f : Nat) (x y : Operand) (ty : Array TypeId) (ho : o.op = .call { callee := .value (.func f), args := #[x, y], argTypes := ty })
    (u v : Value) (hx : a.eval x = u) (hy : a.eval y = v) (hcf : ∀ args v, (callFunc f args).run P v = .ok (.enter f args) v) (post : Ending → World → Prop) (hc : Calls P f #[u, v] w post) (d0 : Option Tmp) (hd0 : o.dst = d0) (h : ∀ e w', post e w' → ∃ v, e = .returned v ∧ K (a.put d0 v) w') :
    if Region.wanted o (yielded ops a.tmps) = true then Oper.wp P o a w K Q else E := by
  subst hd0
  rw [if_pos hw]
  have hr : (execOp a.eval o).run P w = .ok (.enter f #[u, v]) w := by
    unfold execOp
    simp only [ho, resolve, invoke, Sem.run_bind, List.map_toArray, List.map_cons, List.map_nil, hx, hy]
    simp [go_sem, hcf]
  unfold Oper.wp
  rw [hr, Oper.upon_enter]
  refine hc.mono ?_
  intro e w' hp
  obtain ⟨v, rfl, hk⟩ := h e w' hp
  exact hk
theorem take_at {md : Region.Mode} {i : Nat} {oi : Oper} {v : Value} {fuel : Nat} {listed : Array Bool} (hi : ops[i]? = some oi)
    (hs : Region.noSelect ops = true) (hf : Region.free md ops listed i = true) (hr : (Region.ready md ops listed).contains i = true)
    (hQ : ∀ c a w, Q (.panic c) (a.put oi.dst v) w → Q (.panic c) a w) (d0 : Option Tmp) (hd0 : oi.dst = d0) (hy : Yields P ops oi v a)
    (h : wpAny P md ops Q fuel (listed.setIfInBounds i true) (a.put d0 v) w) : wpAny P md ops Q (fuel + 1) listed a w := by
  subst hd0
  exact wpAny_take hi hs hf hr hQ hy h
end
open Go.RowKit
theorem Own.base' {w : World} {n0 n : Nat} {A : Option Addr} {c : Nat} {l : List Rg} (h : Own w n A c l) (hn : n0 ≤ n) : Own w n0 A c l :=
  ⟨own_base h.1 (fun g hg => Nat.le_trans hn (h.1.lt g hg).1), h.2⟩
def zT : Tl := ⟨[], 0, ⟨#[]⟩, 0, false⟩
end Go.Proofs.YtgekadfkokkapaaDoor
