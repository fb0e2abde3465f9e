/- The list of any command: the document's List. -/
import Derived.Test.YtdggipgieanpeaaPrC
import Derived.Test.YtdggipgieanpeaaPutRefs
import Derived.Lib.ConvBytes
import Derived.Deep.DeepCutAuto
import Derived.Deep.CutBlock
import Derived.Deep.RegionHeld3
namespace Go.Proofs.Ytdggipgieanpeaa
open Go.RowKit
section
variable {P : Program} {ops : Array Oper} {S : World → Prop} {o : Oper} {a : Act} {w : World} {K : Act → World → Prop} {Q : Exit → Act → World → Prop} {E : Prop}
theorem takeH {md : Region.Mode} {i : Nat} {oi : Oper} {v : Value} {fuel : Nat} {listed : Array Bool} (hi : ops[i]? = some oi)
    (hs : Region.noSelect ops = true) (hf : Region.free md ops listed i = true) (hr : (Region.ready md ops listed).contains i = true)
    (hQ : ∀ c a w, Q (.panic c) (a.put oi.dst v) w → Q (.panic c) a w) (d0 : Option Tmp) (hd0 : oi.dst = d0) (hy : YieldsIf P ops S oi v a) (hS : S w)
    (h : wpAnyH P md ops Q S fuel (listed.setIfInBounds i true) (a.put d0 v) w) : wpAnyH P md ops Q S (fuel + 1) listed a w := by
  subst hd0
  exact wpAnyH_take hi hs hf hr hQ hy hS h
theorem step_alloc (hw : Region.wanted o (yielded ops a.tmps) = true) (v : Value) (w' : World) (hr : (execOp a.eval o).run P w = .ok (.value v) w') (d0 : Option Tmp) (hd0 : o.dst = d0) (h : K (a.put d0 v) w') :
    if Region.wanted o (yielded ops a.tmps) = true then Oper.wp P o a w K Q else E := by
  subst hd0
  rw [if_pos hw]
  unfold Oper.wp
  rw [hr, Oper.upon_value]
  exact h
theorem step_call2 (hw : Region.wanted o (yielded ops a.tmps) = true) (f : Nat) (x y : Operand) (ty : Array TypeId) (ho : o.op = .call { callee := .value (.func f), args := #[x, y], argTypes := ty })
    (u v : Value) (hx : a.eval x = u) (hy : a.eval y = v) (hcf : ∀ args v, (callFunc f args).run P v = .ok (.enter f args) v) (post : Ending → World → Prop) (hc : Calls P f #[u, v] w post) (d0 : Option Tmp) (hd0 : o.dst = d0) (h : ∀ e w', post e w' → ∃ v, e = .returned v ∧ K (a.put d0 v) w') :
    if Region.wanted o (yielded ops a.tmps) = true then Oper.wp P o a w K Q else E := by
  subst hd0
  rw [if_pos hw]
  have hr : (execOp a.eval o).run P w = .ok (.enter f #[u, v]) w := by
    unfold execOp
    simp only [ho, resolve, invoke, Sem.run_bind, List.map_toArray, List.map_cons, List.map_nil, hx, hy]
    simp [go_sem, hcf]
  unfold Oper.wp
  rw [hr, Oper.upon_enter]
  refine hc.mono ?_
  intro e w' hp
  obtain ⟨v, rfl, hk⟩ := h e w' hp
  exact hk
end
theorem sh2 {T : Prop} {G : World → Prop} (F : World → Prop) (main : (∀ v, F v → G v) → T) (pf : ∀ v, F v → G v) : T := main pf
theorem share3 {T : Prop} {G : World → Nat → Nat → Prop} (F : World → Nat → Nat → Prop) (main : (∀ v p g, F v p g → G v p g) → T) (pf : ∀ v p g, F v p g → G v p g) : T := main pf
section
variable {P : Program} {ops : Array Oper} {S : World → Prop} {o : Oper} {a : Act} {w : World} {K : Act → World → Prop} {Q : Exit → Act → World → Prop} {E : Prop}
theorem step_skip (hw : Region.wanted o (yielded ops a.tmps) = true) (w' : World) (hr : (execOp a.eval o).run P w = .ok .skip w') (d0 : Option Tmp) (hd0 : o.dst = d0) (h : K (a.put d0 undef) w') :
    if Region.wanted o (yielded ops a.tmps) = true then Oper.wp P o a w K Q else E := by
  subst hd0
  rw [if_pos hw]
  unfold Oper.wp
  rw [hr, Oper.upon_skip]
  exact h
end
abbrev liC (a : Int) (s : ByteArray) : Array Value := #[.int .i64 a, .string s]
theorem li_info : (Try.prog.info? 37).map (·.size) = some 2 := by kernel_rfl
theorem liC_one (a : Int) (s : ByteArray) : (liC a s).all (·.oneCell') = true := by simp [Value.oneCell']
/-- What the document's List answers. -/
def rlV (o : Option (Int × ByteArray)) : Value := .tuple #[.agg (liC (o.getD (0, ⟨#[]⟩)).1 (o.getD (0, ⟨#[]⟩)).2), .int .i64 (if o.isSome = true then 0 else 180)]
theorem results_li {fn : Func} {p u : Tmp} (h : fn.results = #[.cell p 37, .tmp u]) (tmps : Array Value) (w : World) (g : Nat) (a : Int) (s : ByteArray) (hp : tmps.getD p undef = .pointer (some ⟨g, 0, none⟩)) (hg : Blk w g 37 (liC a s)) :
    (results fn tmps).run Try.prog w = .ok (.tuple #[.agg (liC a s), tmps.getD u undef]) w := by
  rw [results_cell_tmp h, hp]
  have := run_loadVar_row (P := Try.prog) w g 37 37 (liC a s) (0, 0) _ hg Try.underlying37 rfl li_info
  simp [asAddr, this, Result.andThen]
abbrev c8 (y : UInt8) : Array Value := #[.int .u8 0, .int .u8 0, .int .u8 0, .int .u8 0, .int .u8 (y.toNat : Int), .int .u8 0, .int .u8 0, .int .u8 0]
theorem conv8 (v : World) (g : Nat) (y : UInt8) (h : Blk v g 5 (c8 y)) : (convert 66 9 (.slice (some ⟨g, 0, none⟩) 8 8)).run Try.prog v = .ok (.string ⟨#[0, 0, 0, 0, y, 0, 0, 0]⟩) v :=
  run_convert_bytes_back (P := Try.prog) v 66 9 5 ⟨g, 0, none⟩ 8 [0, 0, 0, 0, y, 0, 0, 0] Try.underlying66 Try.underlying5 Try.underlying9 (fun j hj => by
    rw [Addr.add_lit, Nat.zero_add]
    match j, hj with
    | 0, _ => rw [h.cell]; rfl
    | 1, _ => rw [h.cell]; rfl
    | 2, _ => rw [h.cell]; rfl
    | 3, _ => rw [h.cell]; rfl
    | 4, _ => rw [h.cell]; rfl
    | 5, _ => rw [h.cell]; rfl
    | 6, _ => rw [h.cell]; rfl
    | 7, _ => rw [h.cell]; rfl)
theorem li_none {c : Kc} (h : acO c = none) : liX c = none := by unfold liX; rw [h]
theorem li_chno {c : Kc} {a : Int} (h : acO c = some a) (hc : chX a c.ty (lsO c) = none) : liX c = none := by unfold liX; rw [h]; dsimp only; rw [hc]
theorem li_chyes {c d : Kc} {a : Int} (h : acO c = some a) (hc : chX a c.ty (lsO c) = some d) (b : Bool) (hb : sameK c d = b) : liX c = if b = true then some (a, lsO c) else none := by unfold liX; rw [h]; dsimp only; rw [hc]; dsimp only; rw [hb]
theorem ch_rn {a t : Int} {s : ByteArray} {d : Kc} (h : chX a t s = some d) : d.rn = 0 := (ch_li h).elim fun _ h => h.2.2.1
set_option maxRecDepth 100000 in
set_option maxHeartbeats 16000000 in
theorem refList_any (c : Kc) (w : World) (hk : c.ke < 18446744073709551616) (hn : c.nk < 18446744073709551616) (ho : c.ot < 18446744073709551616) : Calls Try.prog 10 #[kcV c] w fun e w' => e = .returned (rlV (liX c)) ∧ Below w.heap.size w w' := by
  have HC := Lib.hid (((Blk.new w 26 (kcC c)).alloc (.cells (liC 0 ⟨#[]⟩) 37)).alloc (.cells (liC 0 ⟨#[]⟩) 37))
  have HR := Lib.hid (show Blk (((w.alloc (.cells (kcC c) 26)).alloc (.cells (liC 0 ⟨#[]⟩) 37)).alloc (.cells (liC 0 ⟨#[]⟩) 37)) (w.heap.size + 1) 37 (liC 0 ⟨#[]⟩) by
    have := (Blk.new (w.alloc (.cells (kcC c) 26)) 37 (liC 0 ⟨#[]⟩)).alloc (.cells (liC 0 ⟨#[]⟩) 37)
    rwa [show (w.alloc (.cells (kcC c) 26)).heap.size = w.heap.size + 1 by simp] at this)
  have HA := Lib.hid (show Blk (((w.alloc (.cells (kcC c) 26)).alloc (.cells (liC 0 ⟨#[]⟩) 37)).alloc (.cells (liC 0 ⟨#[]⟩) 37)) (w.heap.size + 2) 37 (liC 0 ⟨#[]⟩) by
    have := Blk.new ((w.alloc (.cells (kcC c) 26)).alloc (.cells (liC 0 ⟨#[]⟩) 37)) 37 (liC 0 ⟨#[]⟩)
    rwa [show ((w.alloc (.cells (kcC c) 26)).alloc (.cells (liC 0 ⟨#[]⟩) 37)).heap.size = w.heap.size + 2 by simp] at this)
  have HB := Lib.hid ((((Below.refl w.heap.size w).alloc (Nat.le_refl _) (.cells (kcC c) 26)).alloc (by simp) (.cells (liC 0 ⟨#[]⟩) 37)).alloc (by simp; omega) (.cells (liC 0 ⟨#[]⟩) 37))
  cases hac : acO c with
  | none =>
    have HV := Lib.hid (li_none hac)
    have hn8 : ¬ c.op = 8 := fun h => by unfold acO at hac; rw [if_pos h] at hac; cases hac
    have hn9 : ¬ c.op = 9 := fun h => by unfold acO at hac; rw [if_neg hn8, if_pos h] at hac; cases hac
    have hn10 : ¬ c.op = 10 := fun h => by unfold acO at hac; rw [if_neg hn8, if_neg hn9, if_pos h] at hac; cases hac
    have hn11 : ¬ c.op = 11 := fun h => by unfold acO at hac; rw [if_neg hn8, if_neg hn9, if_neg hn10, if_pos h] at hac; cases hac
    have hn12 : ¬ c.op = 12 := fun h => by unfold acO at hac; rw [if_neg hn8, if_neg hn9, if_neg hn10, if_neg hn11, if_pos h] at hac; cases hac
    have q8 : (c.op == 8) = false := by simpa using hn8
    have q9 : (c.op == 9) = false := by simpa using hn9
    have q10 : (c.op == 10) = false := by simpa using hn10
    have q11 : (c.op == 11) = false := by simpa using hn11
    have q12 : (c.op == 12) = false := by simpa using hn12
    clear hac hn8 hn9 hn10 hn11 hn12 hk hn ho
    go_enter Try.func10, Try.ntmps10
    go_upto_region 2 with (fail)
    change Code.wp _ _ _ _ (((w.alloc (.cells (kcC c) 26)).alloc (.cells (liC 0 ⟨#[]⟩) 37)).alloc (.cells (liC 0 ⟨#[]⟩) 37))
    have hsz1 : (w.alloc (.cells (kcC c) 26)).heap.size = w.heap.size + 1 := by simp
    have hsz2 : ((w.alloc (.cells (kcC c) 26)).alloc (.cells (liC 0 ⟨#[]⟩) 37)).heap.size = w.heap.size + 2 := by simp
    generalize ((w.alloc (.cells (kcC c) 26)).alloc (.cells (liC 0 ⟨#[]⟩) 37)).alloc (.cells (liC 0 ⟨#[]⟩) 37) = v0 at *
    try rw [hsz2]
    try rw [hsz1]
    clear hsz1 hsz2
    obtain ⟨p, hp⟩ : ∃ p, p = w.heap.size := ⟨_, rfl⟩
    have HP := Lib.hid hp
    rw [← hp] at HC HR HA ⊢
    clear hp
    have c0 : v0.cell? ⟨p, 0, none⟩ = some (.int .i64 c.op) := HC.out.cell 0
    have c10 : v0.cell? ⟨p, 10, none⟩ = some (.int .u64 (c.ot : Int)) := HC.out.cell 10
    have c9 : v0.cell? ⟨p, 9, none⟩ = some (.int .u64 (c.nk : Int)) := HC.out.cell 9
    have c12 : v0.cell? ⟨p, 12, none⟩ = some (.bool c.ig) := HC.out.cell 12
    have c13 : v0.cell? ⟨p, 13, none⟩ = some (.int .i64 c.ap) := HC.out.cell 13
    have l0 : v0.cell? ⟨p + 2, 0, none⟩ = some (.int .i64 0) := HA.out.cell 0
    have f0 := HA.out.free 0
    go_upto_region 4 with (fail)
    refine wp_region_lit ?_
    refine wpList_runs rfl (some 13) rfl (.agg (liC 0 ⟨#[]⟩)) v0 (by kernel_rfl) ?_
    refine wpList_store_row rfl 37 (.tmp 2) (.tmp 13) rfl (p + 1) (liC 0 ⟨#[]⟩) rfl rfl 37 (liC 0 ⟨#[]⟩) HR.out li_info rfl (liC_one _ _) ?_
    go_wp2_with (fail)
    refine bodyPost_ret_by (results_li rfl _ _ (p + 1) 0 ⟨#[]⟩ rfl (setRow_blk HR.out)) rfl ?_
    exact ⟨by rw [HV.out]; rfl, below_setRow HB.out (by rw [← HP.out]; omega) _⟩
  | some a =>
    have HAC := Lib.hid hac
    have HCH0 := Lib.hid (fun v => refChange_any a c.ty (lsO c) v)
    have HPK := Lib.hid (fun v => refPutBig_any c.ke ((8 : Nat) : Int) v hk)
    have HPO := Lib.hid (fun v => refPutBig_any (otO c) ((8 : Nat) : Int) v (by unfold otO; split <;> assumption))
    clear hk hn ho
    go_enter Try.func10, Try.ntmps10
    go_upto_region 2 with (fail)
    change Code.wp _ _ _ _ (((w.alloc (.cells (kcC c) 26)).alloc (.cells (liC 0 ⟨#[]⟩) 37)).alloc (.cells (liC 0 ⟨#[]⟩) 37))
    have hsz1 : (w.alloc (.cells (kcC c) 26)).heap.size = w.heap.size + 1 := by simp
    have hsz2 : ((w.alloc (.cells (kcC c) 26)).alloc (.cells (liC 0 ⟨#[]⟩) 37)).heap.size = w.heap.size + 2 := by simp
    generalize ((w.alloc (.cells (kcC c) 26)).alloc (.cells (liC 0 ⟨#[]⟩) 37)).alloc (.cells (liC 0 ⟨#[]⟩) 37) = v0 at *
    try rw [hsz2]
    try rw [hsz1]
    clear hsz1 hsz2
    obtain ⟨p, hp⟩ : ∃ p, p = w.heap.size := ⟨_, rfl⟩
    have HP := Lib.hid hp
    rw [← hp] at HC HR HA ⊢
    clear hp
    have c0 : v0.cell? ⟨p, 0, none⟩ = some (.int .i64 c.op) := HC.out.cell 0
    have c10 : v0.cell? ⟨p, 10, none⟩ = some (.int .u64 (c.ot : Int)) := HC.out.cell 10
    have c9 : v0.cell? ⟨p, 9, none⟩ = some (.int .u64 (c.nk : Int)) := HC.out.cell 9
    have c12 : v0.cell? ⟨p, 12, none⟩ = some (.bool c.ig) := HC.out.cell 12
    have c13 : v0.cell? ⟨p, 13, none⟩ = some (.int .i64 c.ap) := HC.out.cell 13
    have l0 : v0.cell? ⟨p + 2, 0, none⟩ = some (.int .i64 0) := HA.out.cell 0
    have f0 := HA.out.free 0
    go_upto_block 0 with (fail)
    go_cut [5, 6] (fun s5 s6 wx => s5 = .int .u64 (otO c : Int) ∧ s6 = .int .u8 ((UInt8.ofNat (onO c)).toNat : Int) ∧ Blk wx p 26 (kcC c) ∧ Blk wx (p + 1) 37 (liC 0 ⟨#[]⟩) ∧ Blk wx (p + 2) 37 (liC a ⟨#[]⟩) ∧ Below w.heap.size w wx)
    case first =>
      clear HPK HPO HCH0
      by_cases e8 : c.op = 8
      · have q8 : (c.op == 8) = true := by simpa using e8
        cases hig : c.ig with
        | true =>
          obtain rfl : (6 : Int) = a := by have h := hac; unfold acO at h; rw [if_pos e8, hig] at h; exact Option.some.inj h
          cases hap : (c.ap == 2) with
          | true =>
            have hot : otO c = c.nk := by unfold otO; simp [e8]
            have HOT := Lib.hid hot; clear hot
            have HON := Lib.hid (show onO c = 1 by unfold onO; rw [if_pos ⟨e8, by simpa using hap⟩])
            clear hac
            go_wp2_with (fail)
            go_meet
            exact ⟨by rw [HOT.out], by rw [HON.out]; rfl, HC.out.far (p := ⟨p + 2, 0, none⟩) (by dsimp only; omega) _, HR.out.far (p := ⟨p + 2, 0, none⟩) (by dsimp only; omega) _, HA.out.put 0 (.int .i64 6), HB.out.setCell (p := ⟨p + 2, 0, none⟩) (by have := HP.out; dsimp only; omega) _⟩
          | false =>
            have hot : otO c = c.nk := by unfold otO; simp [e8]
            have HOT := Lib.hid hot; clear hot
            have HON := Lib.hid (show onO c = 0 by unfold onO; rw [if_neg (fun h => by simp [h.2] at hap)])
            clear hac
            go_wp2_with (fail)
            go_meet
            exact ⟨by rw [HOT.out], by rw [HON.out]; rfl, HC.out.far (p := ⟨p + 2, 0, none⟩) (by dsimp only; omega) _, HR.out.far (p := ⟨p + 2, 0, none⟩) (by dsimp only; omega) _, HA.out.put 0 (.int .i64 6), HB.out.setCell (p := ⟨p + 2, 0, none⟩) (by have := HP.out; dsimp only; omega) _⟩
        | false =>
          obtain rfl : (0 : Int) = a := by have h := hac; unfold acO at h; rw [if_pos e8, hig] at h; exact Option.some.inj h
          cases hap : (c.ap == 2) with
          | true =>
            have hot : otO c = c.nk := by unfold otO; simp [e8]
            have HOT := Lib.hid hot; clear hot
            have HON := Lib.hid (show onO c = 1 by unfold onO; rw [if_pos ⟨e8, by simpa using hap⟩])
            clear hac
            go_wp2_with (fail)
            go_meet
            exact ⟨by rw [HOT.out], by rw [HON.out]; rfl, HC.out, HR.out, HA.out, HB.out⟩
          | false =>
            have hot : otO c = c.nk := by unfold otO; simp [e8]
            have HOT := Lib.hid hot; clear hot
            have HON := Lib.hid (show onO c = 0 by unfold onO; rw [if_neg (fun h => by simp [h.2] at hap)])
            clear hac
            go_wp2_with (fail)
            go_meet
            exact ⟨by rw [HOT.out], by rw [HON.out]; rfl, HC.out, HR.out, HA.out, HB.out⟩
      have q8 : (c.op == 8) = false := by simpa using e8
      by_cases e9 : c.op = 9
      · have q9 : (c.op == 9) = true := by simpa using e9
        obtain rfl : (1 : Int) = a := by have h := hac; unfold acO at h; rw [if_neg e8, if_pos e9] at h; exact Option.some.inj h
        have hot : otO c = c.ot := by unfold otO; rw [if_neg e8]
        have HOT := Lib.hid hot; clear hot
        have HON := Lib.hid (show onO c = 0 by unfold onO; rw [if_neg (fun h => e8 h.1)])
        clear hac
        go_wp2_with (fail)
        go_meet
        exact ⟨by rw [HOT.out], by rw [HON.out]; rfl, HC.out.far (p := ⟨p + 2, 0, none⟩) (by dsimp only; omega) _, HR.out.far (p := ⟨p + 2, 0, none⟩) (by dsimp only; omega) _, HA.out.put 0 (.int .i64 1), HB.out.setCell (p := ⟨p + 2, 0, none⟩) (by have := HP.out; dsimp only; omega) _⟩
      have q9 : (c.op == 9) = false := by simpa using e9
      by_cases e10 : c.op = 10
      · have q10 : (c.op == 10) = true := by simpa using e10
        obtain rfl : (2 : Int) = a := by have h := hac; unfold acO at h; rw [if_neg e8, if_neg e9, if_pos e10] at h; exact Option.some.inj h
        have hot : otO c = c.ot := by unfold otO; rw [if_neg e8]
        have HOT := Lib.hid hot; clear hot
        have HON := Lib.hid (show onO c = 0 by unfold onO; rw [if_neg (fun h => e8 h.1)])
        clear hac
        go_wp2_with (fail)
        go_meet
        exact ⟨by rw [HOT.out], by rw [HON.out]; rfl, HC.out.far (p := ⟨p + 2, 0, none⟩) (by dsimp only; omega) _, HR.out.far (p := ⟨p + 2, 0, none⟩) (by dsimp only; omega) _, HA.out.put 0 (.int .i64 2), HB.out.setCell (p := ⟨p + 2, 0, none⟩) (by have := HP.out; dsimp only; omega) _⟩
      have q10 : (c.op == 10) = false := by simpa using e10
      by_cases e11 : c.op = 11
      · have q11 : (c.op == 11) = true := by simpa using e11
        obtain rfl : (3 : Int) = a := by have h := hac; unfold acO at h; rw [if_neg e8, if_neg e9, if_neg e10, if_pos e11] at h; exact Option.some.inj h
        have hot : otO c = c.ot := by unfold otO; rw [if_neg e8]
        have HOT := Lib.hid hot; clear hot
        have HON := Lib.hid (show onO c = 0 by unfold onO; rw [if_neg (fun h => e8 h.1)])
        clear hac
        go_wp2_with (fail)
        go_meet
        exact ⟨by rw [HOT.out], by rw [HON.out]; rfl, HC.out.far (p := ⟨p + 2, 0, none⟩) (by dsimp only; omega) _, HR.out.far (p := ⟨p + 2, 0, none⟩) (by dsimp only; omega) _, HA.out.put 0 (.int .i64 3), HB.out.setCell (p := ⟨p + 2, 0, none⟩) (by have := HP.out; dsimp only; omega) _⟩
      have q11 : (c.op == 11) = false := by simpa using e11
      have e12 : c.op = 12 := by
        have h := hac; unfold acO at h; rw [if_neg e8, if_neg e9, if_neg e10, if_neg e11] at h
        by_cases e : c.op = 12
        · exact e
        · rw [if_neg e] at h; cases h
      have q12 : (c.op == 12) = true := by simpa using e12
      obtain rfl : (4 : Int) = a := by have h := hac; unfold acO at h; rw [if_neg e8, if_neg e9, if_neg e10, if_neg e11, if_pos e12] at h; exact Option.some.inj h
      have hot : otO c = c.ot := by unfold otO; rw [if_neg e8]
      have HOT := Lib.hid hot; clear hot
      have HON := Lib.hid (show onO c = 0 by unfold onO; rw [if_neg (fun h => e8 h.1)])
      clear hac
      go_wp2_with (fail)
      go_meet
      exact ⟨by rw [HOT.out], by rw [HON.out]; rfl, HC.out.far (p := ⟨p + 2, 0, none⟩) (by dsimp only; omega) _, HR.out.far (p := ⟨p + 2, 0, none⟩) (by dsimp only; omega) _, HA.out.put 0 (.int .i64 4), HB.out.setCell (p := ⟨p + 2, 0, none⟩) (by have := HP.out; dsimp only; omega) _⟩
    case rest =>
      obtain ⟨rfl, rfl, hC, hR, hA, hB⟩ := hcut
      clear c0 c10 c9 c12 c13 l0 f0 hac
      replace HC := Lib.hid hC; replace HR := Lib.hid hR; replace HA := Lib.hid hA; replace HB := Lib.hid hB
      clear hC hR hA hB
      have z1 : (putHi c.ke ((8 : Nat) : Int)).size = 8 := put8 _
      have z2 : (putHi (otO c) ((8 : Nat) : Int)).size = 8 := put8 _
      obtain ⟨yo, hyo⟩ : ∃ y, y = UInt8.ofNat (onO c) := ⟨_, rfl⟩
      obtain ⟨sA, hsA⟩ : ∃ z : ByteArray, z = ⟨#[0, 0, 0, 0, yo, 0, 0, 0]⟩ := ⟨_, rfl⟩
      have HLS := Lib.hid (show putHi c.ke ((8 : Nat) : Int) ++ putHi (otO c) ((8 : Nat) : Int) ++ sA = lsO c by rw [hsA, hyo]; rfl)
      have z3 : sA.size = 8 := by rw [hsA]; rfl
      have HSA := Lib.hid hsA
      rw [← hyo]
      have HCH := Lib.hid (fun v => (HCH0.out v))
      generalize putHi c.ke ((8 : Nat) : Int) = mk at *
      generalize putHi (otO c) ((8 : Nat) : Int) = mo at *
      clear hyo hsA HCH0
      have z4 : (mk ++ mo).size = 16 := by rw [ByteArray.size_append, z1, z2]
      have hc1 : ¬ 9223372036854775807 < mk.size + mo.size := by omega
      have hc2 : ¬ 9223372036854775807 < (mk ++ mo).size + sA.size := by omega
      go_upto_region 19 with (fail)
      apply share3 (fun v _ _ => Blk v p 26 (kcC c) ∧ Blk v (p + 1) 37 (liC 0 ⟨#[]⟩) ∧ Blk v (p + 2) 37 (liC a (lsO c)) ∧ Below w.heap.size w v)
      · intro HSH
        refine wp_region_held_drew (S := fun v => Blk v p 26 (kcC c)) (by kernel_rfl) ?_ (fun hHeld => ?_)
        · exact HC.out.drew
        have HBx := Lib.hid HB.out.drew; have HX := Lib.hid HC.out.drew; have HRx := Lib.hid HR.out.drew; have HAx := Lib.hid HA.out.drew
        generalize World.drew _ = x0 at *
        refine takeH (i := 0) (v := ?_) rfl (by kernel_rfl) (by kernel_rfl) (by kernel_rfl) (fun _ _ _ h => h) (some 36) rfl (Or.inl ⟨by rfl, ?_⟩) (by assumption) ?_
        rotate_left 1
        · intro wz hSw
          go_simp
          try with_reducible rfl
        simp only [Act.put, List.setIfInBounds_toArray, List.set_cons_zero, List.set_cons_succ]
        refine takeH (i := 1) (v := ?_) rfl (by kernel_rfl) (by kernel_rfl) (by kernel_rfl) (fun _ _ _ h => h) (some 37) rfl (Or.inl ⟨by rfl, ?_⟩) (by assumption) ?_
        rotate_left 1
        · intro wz hSw
          have c8 : wz.cell? ⟨p, 8, none⟩ = some (.int .u64 (c.ke : Int)) := hSw.cell 8
          go_simp
          try with_reducible rfl
        simp only [Act.put, List.setIfInBounds_toArray, List.set_cons_zero, List.set_cons_succ]
        refine takeH (i := 3) (v := ?_) rfl (by kernel_rfl) (by kernel_rfl) (by kernel_rfl) (fun _ _ _ h => h) (some 39) rfl (Or.inl ⟨by rfl, ?_⟩) (by assumption) ?_
        rotate_left 1
        · intro wz hSw
          go_simp
          try with_reducible rfl
        simp only [Act.put, List.setIfInBounds_toArray, List.set_cons_zero, List.set_cons_succ]
        refine takeH (i := 6) (v := ?_) rfl (by kernel_rfl) (by kernel_rfl) (by kernel_rfl) (fun _ _ _ h => h) (some 42) rfl (Or.inl ⟨by rfl, ?_⟩) (by assumption) ?_
        rotate_left 1
        · intro wz hSw
          go_simp
          try with_reducible rfl
        simp only [Act.put, List.setIfInBounds_toArray, List.set_cons_zero, List.set_cons_succ]
        refine wpAnyH_ready (rs := [2, 7]) (by kernel_rfl) (by simp) ?_
        refine AllReadyH.cons rfl (fun KK hKK => ?_) ?_
        · skip
          refine step_call2 (by rfl) 22 _ _ _ (by rfl) _ _ (by rfl) (by rfl) (fun _ _ => rfl) _ (HPK.out x0) (some 38) rfl ?_
          rintro e x1 ⟨rfl, hb⟩
          refine ⟨_, rfl, ?_⟩
          have HBxx1 := Lib.hid (HBx.out.trans (hb.mono HBx.out.size))
          have HXx1 := Lib.hid (HX.out.below hb HX.out.lt)
          have HRxx1 := Lib.hid (HRx.out.below hb HRx.out.lt)
          have HAxx1 := Lib.hid (HAx.out.below hb HAx.out.lt)
          clear hb
          refine hKK.out _ _ ?_ (fun hHeld => ?_)
          · exact HXx1.out
          clear hKK KK
          simp only [Act.put, List.setIfInBounds_toArray, List.set_cons_zero, List.set_cons_succ]
          refine wpAnyH_ready (rs := [4, 7]) (by kernel_rfl) (by simp) ?_
          refine AllReadyH.cons rfl (fun KK hKK => ?_) ?_
          · skip
            refine step_call2 (by rfl) 22 _ _ _ (by rfl) _ _ (by rfl) (by rfl) (fun _ _ => rfl) _ (HPO.out x1) (some 40) rfl ?_
            rintro e x2 ⟨rfl, hb⟩
            refine ⟨_, rfl, ?_⟩
            have HBxx2 := Lib.hid (HBxx1.out.trans (hb.mono HBxx1.out.size))
            have HXx2 := Lib.hid (HXx1.out.below hb HXx1.out.lt)
            have HRxx2 := Lib.hid (HRxx1.out.below hb HRxx1.out.lt)
            have HAxx2 := Lib.hid (HAxx1.out.below hb HAxx1.out.lt)
            clear hb
            refine hKK.out _ _ ?_ (fun hHeld => ?_)
            · exact HXx2.out
            clear hKK KK
            simp only [Act.put, List.setIfInBounds_toArray, List.set_cons_zero, List.set_cons_succ]
            refine takeH (i := 5) (v := ?_) rfl (by kernel_rfl) (by kernel_rfl) (by kernel_rfl) (fun _ _ _ h => h) (some 41) rfl (Or.inl ⟨by rfl, ?_⟩) (by assumption) ?_
            rotate_left 1
            · intro wz hSw
              go_simp
              try with_reducible rfl
            simp only [Act.put, List.setIfInBounds_toArray, List.set_cons_zero, List.set_cons_succ]
            refine wpAnyH_ready (rs := [7]) (by kernel_rfl) (by simp) ?_
            refine AllReadyH.cons rfl (fun KK hKK => ?_) AllReadyH.nil
            refine step_alloc (by rfl) (.slice (some ⟨x2.heap.size, 0, none⟩) 8 8) (x2.alloc (.cells (c8 yo) 5)) (by go_simp) (some 43) rfl ?_
            skip
            refine hKK.out _ _ ?_ (fun hHeld => ?_)
            · exact (HXx2.out.alloc _)
            clear hKK KK
            simp only [Act.put, List.setIfInBounds_toArray, List.set_cons_zero, List.set_cons_succ]
            change wpAnyH _ _ _ _ _ _ _ _ (x2.alloc (.cells (c8 yo) 5))
            have hb := (Below.refl x2.heap.size x2).alloc (Nat.le_refl _) (.cells (c8 yo) 5)
            have HGx3 := Lib.hid (Blk.new x2 5 (c8 yo))
            have HBxx3 := Lib.hid (HBxx2.out.trans (hb.mono HBxx2.out.size))
            have HXx3 := Lib.hid (HXx2.out.below hb HXx2.out.lt)
            have HRxx3 := Lib.hid (HRxx2.out.below hb HRxx2.out.lt)
            have HAxx3 := Lib.hid (HAxx2.out.below hb HAxx2.out.lt)
            clear hb
            generalize x2.alloc (.cells (c8 yo) 5) = x3 at *
            obtain ⟨g1, hg⟩ : ∃ g, g = x2.heap.size := ⟨_, rfl⟩
            skip
            rw [← hg] at HGx3 ⊢; clear hg
            refine wpAnyH_ready (rs := [8]) (by kernel_rfl) (by simp) ?_
            refine AllReadyH.cons rfl (fun KK hKK => ?_) AllReadyH.nil
            have hcv := conv8 x3 g1 yo HGx3.out
            rw [← HSA.out] at hcv
            refine step_alloc (by rfl) (.string sA) x3 (by go_simp) (some 44) rfl ?_
            clear hcv
            refine hKK.out _ _ HXx3.out (fun hHeld => ?_)
            clear hKK KK
            simp only [Act.put, List.setIfInBounds_toArray, List.set_cons_zero, List.set_cons_succ]
            refine takeH (i := 9) (v := ?_) rfl (by kernel_rfl) (by kernel_rfl) (by kernel_rfl) (fun _ _ _ h => h) (some 45) rfl (Or.inl ⟨by rfl, ?_⟩) (by assumption) ?_
            rotate_left 1
            · intro wz hSw
              go_simp
              try with_reducible rfl
            simp only [Act.put, List.setIfInBounds_toArray, List.set_cons_zero, List.set_cons_succ]
            refine takeH (i := 10) (v := ?_) rfl (by kernel_rfl) (by kernel_rfl) (by kernel_rfl) (fun _ _ _ h => h) (some 46) rfl (Or.inl ⟨by rfl, ?_⟩) (by assumption) ?_
            rotate_left 1
            · intro wz hSw
              go_simp
              try with_reducible rfl
            simp only [Act.put, List.setIfInBounds_toArray, List.set_cons_zero, List.set_cons_succ]
            have hf1 := HAxx3.out.free 1
            have he1 : x3.cell? ⟨p + 2, 1, none⟩ = some (.string ⟨#[]⟩) := HAxx3.out.cell 1
            refine wpAnyH_ready (rs := [11]) (by kernel_rfl) (by simp) ?_
            refine AllReadyH.cons rfl (fun KK hKK => ?_) AllReadyH.nil
            refine step_skip (by rfl) (x3.setCell ⟨p + 2, 1, none⟩ (.string (mk ++ mo ++ sA))) (by go_simp) none rfl ?_
            have K1 := HXx3.out.far (p := ⟨p + 2, 1, none⟩) (by dsimp only; omega) (.string (mk ++ mo ++ sA))
            have K2 := HRxx3.out.far (p := ⟨p + 2, 1, none⟩) (by dsimp only; omega) (.string (mk ++ mo ++ sA))
            have K3 : Blk (x3.setCell ⟨p + 2, 1, none⟩ (.string (mk ++ mo ++ sA))) (p + 2) 37 (liC a (lsO c)) := by rw [← HLS.out]; exact HAxx3.out.put 1 (.string (mk ++ mo ++ sA))
            have K4 := HBxx3.out.setCell (p := ⟨p + 2, 1, none⟩) (by have := HP.out; dsimp only; omega) (.string (mk ++ mo ++ sA))
            clear hf1 he1
            obtain ⟨vz, hvz⟩ : ∃ vz, vz = x3.setCell ⟨p + 2, 1, none⟩ (.string (mk ++ mo ++ sA)) := ⟨_, rfl⟩
            rw [← hvz] at K1 K2 K3 K4 ⊢
            clear hvz
            refine hKK.out _ _ K1 (fun hHeld => ?_)
            clear hKK KK
            simp only [Act.put]
            refine wpAnyH_done (by kernel_rfl) ?_ _
            obtain ⟨g2, _⟩ : ∃ g : Nat, g = 0 := ⟨_, rfl⟩
            exact HSH vz g1 g2 ⟨K1, K2, K3, K4⟩
          refine AllReadyH.cons rfl (fun KK hKK => ?_) ?_
          · skip
            refine step_alloc (by rfl) (.slice (some ⟨x1.heap.size, 0, none⟩) 8 8) (x1.alloc (.cells (c8 yo) 5)) (by go_simp) (some 43) rfl ?_
            skip
            refine hKK.out _ _ ?_ (fun hHeld => ?_)
            · exact (HXx1.out.alloc _)
            clear hKK KK
            simp only [Act.put, List.setIfInBounds_toArray, List.set_cons_zero, List.set_cons_succ]
            change wpAnyH _ _ _ _ _ _ _ _ (x1.alloc (.cells (c8 yo) 5))
            have hb := (Below.refl x1.heap.size x1).alloc (Nat.le_refl _) (.cells (c8 yo) 5)
            have HGx4 := Lib.hid (Blk.new x1 5 (c8 yo))
            have HBxx4 := Lib.hid (HBxx1.out.trans (hb.mono HBxx1.out.size))
            have HXx4 := Lib.hid (HXx1.out.below hb HXx1.out.lt)
            have HRxx4 := Lib.hid (HRxx1.out.below hb HRxx1.out.lt)
            have HAxx4 := Lib.hid (HAxx1.out.below hb HAxx1.out.lt)
            clear hb
            generalize x1.alloc (.cells (c8 yo) 5) = x4 at *
            obtain ⟨g1, hg⟩ : ∃ g, g = x1.heap.size := ⟨_, rfl⟩
            skip
            rw [← hg] at HGx4 ⊢; clear hg
            refine wpAnyH_ready (rs := [4, 8]) (by kernel_rfl) (by simp) ?_
            refine AllReadyH.cons rfl (fun KK hKK => ?_) ?_
            · skip
              refine step_call2 (by rfl) 22 _ _ _ (by rfl) _ _ (by rfl) (by rfl) (fun _ _ => rfl) _ (HPO.out x4) (some 40) rfl ?_
              rintro e x5 ⟨rfl, hb⟩
              refine ⟨_, rfl, ?_⟩
              have HBxx5 := Lib.hid (HBxx4.out.trans (hb.mono HBxx4.out.size))
              have HXx5 := Lib.hid (HXx4.out.below hb HXx4.out.lt)
              have HRxx5 := Lib.hid (HRxx4.out.below hb HRxx4.out.lt)
              have HAxx5 := Lib.hid (HAxx4.out.below hb HAxx4.out.lt)
              have HGx5 := Lib.hid (HGx4.out.below hb HGx4.out.lt)
              clear hb
              refine hKK.out _ _ ?_ (fun hHeld => ?_)
              · exact HXx5.out
              clear hKK KK
              simp only [Act.put, List.setIfInBounds_toArray, List.set_cons_zero, List.set_cons_succ]
              refine takeH (i := 5) (v := ?_) rfl (by kernel_rfl) (by kernel_rfl) (by kernel_rfl) (fun _ _ _ h => h) (some 41) rfl (Or.inl ⟨by rfl, ?_⟩) (by assumption) ?_
              rotate_left 1
              · intro wz hSw
                go_simp
                try with_reducible rfl
              simp only [Act.put, List.setIfInBounds_toArray, List.set_cons_zero, List.set_cons_succ]
              refine wpAnyH_ready (rs := [8]) (by kernel_rfl) (by simp) ?_
              refine AllReadyH.cons rfl (fun KK hKK => ?_) AllReadyH.nil
              have hcv := conv8 x5 g1 yo HGx5.out
              rw [← HSA.out] at hcv
              refine step_alloc (by rfl) (.string sA) x5 (by go_simp) (some 44) rfl ?_
              clear hcv
              refine hKK.out _ _ HXx5.out (fun hHeld => ?_)
              clear hKK KK
              simp only [Act.put, List.setIfInBounds_toArray, List.set_cons_zero, List.set_cons_succ]
              refine takeH (i := 9) (v := ?_) rfl (by kernel_rfl) (by kernel_rfl) (by kernel_rfl) (fun _ _ _ h => h) (some 45) rfl (Or.inl ⟨by rfl, ?_⟩) (by assumption) ?_
              rotate_left 1
              · intro wz hSw
                go_simp
                try with_reducible rfl
              simp only [Act.put, List.setIfInBounds_toArray, List.set_cons_zero, List.set_cons_succ]
              refine takeH (i := 10) (v := ?_) rfl (by kernel_rfl) (by kernel_rfl) (by kernel_rfl) (fun _ _ _ h => h) (some 46) rfl (Or.inl ⟨by rfl, ?_⟩) (by assumption) ?_
              rotate_left 1
              · intro wz hSw
                go_simp
                try with_reducible rfl
              simp only [Act.put, List.setIfInBounds_toArray, List.set_cons_zero, List.set_cons_succ]
              have hf1 := HAxx5.out.free 1
              have he1 : x5.cell? ⟨p + 2, 1, none⟩ = some (.string ⟨#[]⟩) := HAxx5.out.cell 1
              refine wpAnyH_ready (rs := [11]) (by kernel_rfl) (by simp) ?_
              refine AllReadyH.cons rfl (fun KK hKK => ?_) AllReadyH.nil
              refine step_skip (by rfl) (x5.setCell ⟨p + 2, 1, none⟩ (.string (mk ++ mo ++ sA))) (by go_simp) none rfl ?_
              have K1 := HXx5.out.far (p := ⟨p + 2, 1, none⟩) (by dsimp only; omega) (.string (mk ++ mo ++ sA))
              have K2 := HRxx5.out.far (p := ⟨p + 2, 1, none⟩) (by dsimp only; omega) (.string (mk ++ mo ++ sA))
              have K3 : Blk (x5.setCell ⟨p + 2, 1, none⟩ (.string (mk ++ mo ++ sA))) (p + 2) 37 (liC a (lsO c)) := by rw [← HLS.out]; exact HAxx5.out.put 1 (.string (mk ++ mo ++ sA))
              have K4 := HBxx5.out.setCell (p := ⟨p + 2, 1, none⟩) (by have := HP.out; dsimp only; omega) (.string (mk ++ mo ++ sA))
              clear hf1 he1
              obtain ⟨vz, hvz⟩ : ∃ vz, vz = x5.setCell ⟨p + 2, 1, none⟩ (.string (mk ++ mo ++ sA)) := ⟨_, rfl⟩
              rw [← hvz] at K1 K2 K3 K4 ⊢
              clear hvz
              refine hKK.out _ _ K1 (fun hHeld => ?_)
              clear hKK KK
              simp only [Act.put]
              refine wpAnyH_done (by kernel_rfl) ?_ _
              obtain ⟨g2, _⟩ : ∃ g : Nat, g = 0 := ⟨_, rfl⟩
              exact HSH vz g1 g2 ⟨K1, K2, K3, K4⟩
            refine AllReadyH.cons rfl (fun KK hKK => ?_) ?_
            · skip
              have hcv := conv8 x4 g1 yo HGx4.out
              rw [← HSA.out] at hcv
              refine step_alloc (by rfl) (.string sA) x4 (by go_simp) (some 44) rfl ?_
              clear hcv
              refine hKK.out _ _ HXx4.out (fun hHeld => ?_)
              clear hKK KK
              simp only [Act.put, List.setIfInBounds_toArray, List.set_cons_zero, List.set_cons_succ]
              refine wpAnyH_ready (rs := [4]) (by kernel_rfl) (by simp) ?_
              refine AllReadyH.cons rfl (fun KK hKK => ?_) AllReadyH.nil
              refine step_call2 (by rfl) 22 _ _ _ (by rfl) _ _ (by rfl) (by rfl) (fun _ _ => rfl) _ (HPO.out x4) (some 40) rfl ?_
              rintro e x6 ⟨rfl, hb⟩
              refine ⟨_, rfl, ?_⟩
              have HBxx6 := Lib.hid (HBxx4.out.trans (hb.mono HBxx4.out.size))
              have HXx6 := Lib.hid (HXx4.out.below hb HXx4.out.lt)
              have HRxx6 := Lib.hid (HRxx4.out.below hb HRxx4.out.lt)
              have HAxx6 := Lib.hid (HAxx4.out.below hb HAxx4.out.lt)
              have HGx6 := Lib.hid (HGx4.out.below hb HGx4.out.lt)
              clear hb
              refine hKK.out _ _ ?_ (fun hHeld => ?_)
              · exact HXx6.out
              clear hKK KK
              simp only [Act.put, List.setIfInBounds_toArray, List.set_cons_zero, List.set_cons_succ]
              refine takeH (i := 5) (v := ?_) rfl (by kernel_rfl) (by kernel_rfl) (by kernel_rfl) (fun _ _ _ h => h) (some 41) rfl (Or.inl ⟨by rfl, ?_⟩) (by assumption) ?_
              rotate_left 1
              · intro wz hSw
                go_simp
                try with_reducible rfl
              simp only [Act.put, List.setIfInBounds_toArray, List.set_cons_zero, List.set_cons_succ]
              refine takeH (i := 9) (v := ?_) rfl (by kernel_rfl) (by kernel_rfl) (by kernel_rfl) (fun _ _ _ h => h) (some 45) rfl (Or.inl ⟨by rfl, ?_⟩) (by assumption) ?_
              rotate_left 1
              · intro wz hSw
                go_simp
                try with_reducible rfl
              simp only [Act.put, List.setIfInBounds_toArray, List.set_cons_zero, List.set_cons_succ]
              refine takeH (i := 10) (v := ?_) rfl (by kernel_rfl) (by kernel_rfl) (by kernel_rfl) (fun _ _ _ h => h) (some 46) rfl (Or.inl ⟨by rfl, ?_⟩) (by assumption) ?_
              rotate_left 1
              · intro wz hSw
                go_simp
                try with_reducible rfl
              simp only [Act.put, List.setIfInBounds_toArray, List.set_cons_zero, List.set_cons_succ]
              have hf1 := HAxx6.out.free 1
              have he1 : x6.cell? ⟨p + 2, 1, none⟩ = some (.string ⟨#[]⟩) := HAxx6.out.cell 1
              refine wpAnyH_ready (rs := [11]) (by kernel_rfl) (by simp) ?_
              refine AllReadyH.cons rfl (fun KK hKK => ?_) AllReadyH.nil
              refine step_skip (by rfl) (x6.setCell ⟨p + 2, 1, none⟩ (.string (mk ++ mo ++ sA))) (by go_simp) none rfl ?_
              have K1 := HXx6.out.far (p := ⟨p + 2, 1, none⟩) (by dsimp only; omega) (.string (mk ++ mo ++ sA))
              have K2 := HRxx6.out.far (p := ⟨p + 2, 1, none⟩) (by dsimp only; omega) (.string (mk ++ mo ++ sA))
              have K3 : Blk (x6.setCell ⟨p + 2, 1, none⟩ (.string (mk ++ mo ++ sA))) (p + 2) 37 (liC a (lsO c)) := by rw [← HLS.out]; exact HAxx6.out.put 1 (.string (mk ++ mo ++ sA))
              have K4 := HBxx6.out.setCell (p := ⟨p + 2, 1, none⟩) (by have := HP.out; dsimp only; omega) (.string (mk ++ mo ++ sA))
              clear hf1 he1
              obtain ⟨vz, hvz⟩ : ∃ vz, vz = x6.setCell ⟨p + 2, 1, none⟩ (.string (mk ++ mo ++ sA)) := ⟨_, rfl⟩
              rw [← hvz] at K1 K2 K3 K4 ⊢
              clear hvz
              refine hKK.out _ _ K1 (fun hHeld => ?_)
              clear hKK KK
              simp only [Act.put]
              refine wpAnyH_done (by kernel_rfl) ?_ _
              obtain ⟨g2, _⟩ : ∃ g : Nat, g = 0 := ⟨_, rfl⟩
              exact HSH vz g1 g2 ⟨K1, K2, K3, K4⟩
            exact AllReadyH.nil
          exact AllReadyH.nil
        refine AllReadyH.cons rfl (fun KK hKK => ?_) ?_
        · skip
          refine step_alloc (by rfl) (.slice (some ⟨x0.heap.size, 0, none⟩) 8 8) (x0.alloc (.cells (c8 yo) 5)) (by go_simp) (some 43) rfl ?_
          skip
          refine hKK.out _ _ ?_ (fun hHeld => ?_)
          · exact (HX.out.alloc _)
          clear hKK KK
          simp only [Act.put, List.setIfInBounds_toArray, List.set_cons_zero, List.set_cons_succ]
          change wpAnyH _ _ _ _ _ _ _ _ (x0.alloc (.cells (c8 yo) 5))
          have hb := (Below.refl x0.heap.size x0).alloc (Nat.le_refl _) (.cells (c8 yo) 5)
          have HGx7 := Lib.hid (Blk.new x0 5 (c8 yo))
          have HBxx7 := Lib.hid (HBx.out.trans (hb.mono HBx.out.size))
          have HXx7 := Lib.hid (HX.out.below hb HX.out.lt)
          have HRxx7 := Lib.hid (HRx.out.below hb HRx.out.lt)
          have HAxx7 := Lib.hid (HAx.out.below hb HAx.out.lt)
          clear hb
          generalize x0.alloc (.cells (c8 yo) 5) = x7 at *
          obtain ⟨g1, hg⟩ : ∃ g, g = x0.heap.size := ⟨_, rfl⟩
          skip
          rw [← hg] at HGx7 ⊢; clear hg
          refine wpAnyH_ready (rs := [2, 8]) (by kernel_rfl) (by simp) ?_
          refine AllReadyH.cons rfl (fun KK hKK => ?_) ?_
          · skip
            refine step_call2 (by rfl) 22 _ _ _ (by rfl) _ _ (by rfl) (by rfl) (fun _ _ => rfl) _ (HPK.out x7) (some 38) rfl ?_
            rintro e x8 ⟨rfl, hb⟩
            refine ⟨_, rfl, ?_⟩
            have HBxx8 := Lib.hid (HBxx7.out.trans (hb.mono HBxx7.out.size))
            have HXx8 := Lib.hid (HXx7.out.below hb HXx7.out.lt)
            have HRxx8 := Lib.hid (HRxx7.out.below hb HRxx7.out.lt)
            have HAxx8 := Lib.hid (HAxx7.out.below hb HAxx7.out.lt)
            have HGx8 := Lib.hid (HGx7.out.below hb HGx7.out.lt)
            clear hb
            refine hKK.out _ _ ?_ (fun hHeld => ?_)
            · exact HXx8.out
            clear hKK KK
            simp only [Act.put, List.setIfInBounds_toArray, List.set_cons_zero, List.set_cons_succ]
            refine wpAnyH_ready (rs := [4, 8]) (by kernel_rfl) (by simp) ?_
            refine AllReadyH.cons rfl (fun KK hKK => ?_) ?_
            · skip
              refine step_call2 (by rfl) 22 _ _ _ (by rfl) _ _ (by rfl) (by rfl) (fun _ _ => rfl) _ (HPO.out x8) (some 40) rfl ?_
              rintro e x9 ⟨rfl, hb⟩
              refine ⟨_, rfl, ?_⟩
              have HBxx9 := Lib.hid (HBxx8.out.trans (hb.mono HBxx8.out.size))
              have HXx9 := Lib.hid (HXx8.out.below hb HXx8.out.lt)
              have HRxx9 := Lib.hid (HRxx8.out.below hb HRxx8.out.lt)
              have HAxx9 := Lib.hid (HAxx8.out.below hb HAxx8.out.lt)
              have HGx9 := Lib.hid (HGx8.out.below hb HGx8.out.lt)
              clear hb
              refine hKK.out _ _ ?_ (fun hHeld => ?_)
              · exact HXx9.out
              clear hKK KK
              simp only [Act.put, List.setIfInBounds_toArray, List.set_cons_zero, List.set_cons_succ]
              refine takeH (i := 5) (v := ?_) rfl (by kernel_rfl) (by kernel_rfl) (by kernel_rfl) (fun _ _ _ h => h) (some 41) rfl (Or.inl ⟨by rfl, ?_⟩) (by assumption) ?_
              rotate_left 1
              · intro wz hSw
                go_simp
                try with_reducible rfl
              simp only [Act.put, List.setIfInBounds_toArray, List.set_cons_zero, List.set_cons_succ]
              refine wpAnyH_ready (rs := [8]) (by kernel_rfl) (by simp) ?_
              refine AllReadyH.cons rfl (fun KK hKK => ?_) AllReadyH.nil
              have hcv := conv8 x9 g1 yo HGx9.out
              rw [← HSA.out] at hcv
              refine step_alloc (by rfl) (.string sA) x9 (by go_simp) (some 44) rfl ?_
              clear hcv
              refine hKK.out _ _ HXx9.out (fun hHeld => ?_)
              clear hKK KK
              simp only [Act.put, List.setIfInBounds_toArray, List.set_cons_zero, List.set_cons_succ]
              refine takeH (i := 9) (v := ?_) rfl (by kernel_rfl) (by kernel_rfl) (by kernel_rfl) (fun _ _ _ h => h) (some 45) rfl (Or.inl ⟨by rfl, ?_⟩) (by assumption) ?_
              rotate_left 1
              · intro wz hSw
                go_simp
                try with_reducible rfl
              simp only [Act.put, List.setIfInBounds_toArray, List.set_cons_zero, List.set_cons_succ]
              refine takeH (i := 10) (v := ?_) rfl (by kernel_rfl) (by kernel_rfl) (by kernel_rfl) (fun _ _ _ h => h) (some 46) rfl (Or.inl ⟨by rfl, ?_⟩) (by assumption) ?_
              rotate_left 1
              · intro wz hSw
                go_simp
                try with_reducible rfl
              simp only [Act.put, List.setIfInBounds_toArray, List.set_cons_zero, List.set_cons_succ]
              have hf1 := HAxx9.out.free 1
              have he1 : x9.cell? ⟨p + 2, 1, none⟩ = some (.string ⟨#[]⟩) := HAxx9.out.cell 1
              refine wpAnyH_ready (rs := [11]) (by kernel_rfl) (by simp) ?_
              refine AllReadyH.cons rfl (fun KK hKK => ?_) AllReadyH.nil
              refine step_skip (by rfl) (x9.setCell ⟨p + 2, 1, none⟩ (.string (mk ++ mo ++ sA))) (by go_simp) none rfl ?_
              have K1 := HXx9.out.far (p := ⟨p + 2, 1, none⟩) (by dsimp only; omega) (.string (mk ++ mo ++ sA))
              have K2 := HRxx9.out.far (p := ⟨p + 2, 1, none⟩) (by dsimp only; omega) (.string (mk ++ mo ++ sA))
              have K3 : Blk (x9.setCell ⟨p + 2, 1, none⟩ (.string (mk ++ mo ++ sA))) (p + 2) 37 (liC a (lsO c)) := by rw [← HLS.out]; exact HAxx9.out.put 1 (.string (mk ++ mo ++ sA))
              have K4 := HBxx9.out.setCell (p := ⟨p + 2, 1, none⟩) (by have := HP.out; dsimp only; omega) (.string (mk ++ mo ++ sA))
              clear hf1 he1
              obtain ⟨vz, hvz⟩ : ∃ vz, vz = x9.setCell ⟨p + 2, 1, none⟩ (.string (mk ++ mo ++ sA)) := ⟨_, rfl⟩
              rw [← hvz] at K1 K2 K3 K4 ⊢
              clear hvz
              refine hKK.out _ _ K1 (fun hHeld => ?_)
              clear hKK KK
              simp only [Act.put]
              refine wpAnyH_done (by kernel_rfl) ?_ _
              obtain ⟨g2, _⟩ : ∃ g : Nat, g = 0 := ⟨_, rfl⟩
              exact HSH vz g1 g2 ⟨K1, K2, K3, K4⟩
            refine AllReadyH.cons rfl (fun KK hKK => ?_) ?_
            · skip
              have hcv := conv8 x8 g1 yo HGx8.out
              rw [← HSA.out] at hcv
              refine step_alloc (by rfl) (.string sA) x8 (by go_simp) (some 44) rfl ?_
              clear hcv
              refine hKK.out _ _ HXx8.out (fun hHeld => ?_)
              clear hKK KK
              simp only [Act.put, List.setIfInBounds_toArray, List.set_cons_zero, List.set_cons_succ]
              refine wpAnyH_ready (rs := [4]) (by kernel_rfl) (by simp) ?_
              refine AllReadyH.cons rfl (fun KK hKK => ?_) AllReadyH.nil
              refine step_call2 (by rfl) 22 _ _ _ (by rfl) _ _ (by rfl) (by rfl) (fun _ _ => rfl) _ (HPO.out x8) (some 40) rfl ?_
              rintro e x10 ⟨rfl, hb⟩
              refine ⟨_, rfl, ?_⟩
              have HBxx10 := Lib.hid (HBxx8.out.trans (hb.mono HBxx8.out.size))
              have HXx10 := Lib.hid (HXx8.out.below hb HXx8.out.lt)
              have HRxx10 := Lib.hid (HRxx8.out.below hb HRxx8.out.lt)
              have HAxx10 := Lib.hid (HAxx8.out.below hb HAxx8.out.lt)
              have HGx10 := Lib.hid (HGx8.out.below hb HGx8.out.lt)
              clear hb
              refine hKK.out _ _ ?_ (fun hHeld => ?_)
              · exact HXx10.out
              clear hKK KK
              simp only [Act.put, List.setIfInBounds_toArray, List.set_cons_zero, List.set_cons_succ]
              refine takeH (i := 5) (v := ?_) rfl (by kernel_rfl) (by kernel_rfl) (by kernel_rfl) (fun _ _ _ h => h) (some 41) rfl (Or.inl ⟨by rfl, ?_⟩) (by assumption) ?_
              rotate_left 1
              · intro wz hSw
                go_simp
                try with_reducible rfl
              simp only [Act.put, List.setIfInBounds_toArray, List.set_cons_zero, List.set_cons_succ]
              refine takeH (i := 9) (v := ?_) rfl (by kernel_rfl) (by kernel_rfl) (by kernel_rfl) (fun _ _ _ h => h) (some 45) rfl (Or.inl ⟨by rfl, ?_⟩) (by assumption) ?_
              rotate_left 1
              · intro wz hSw
                go_simp
                try with_reducible rfl
              simp only [Act.put, List.setIfInBounds_toArray, List.set_cons_zero, List.set_cons_succ]
              refine takeH (i := 10) (v := ?_) rfl (by kernel_rfl) (by kernel_rfl) (by kernel_rfl) (fun _ _ _ h => h) (some 46) rfl (Or.inl ⟨by rfl, ?_⟩) (by assumption) ?_
              rotate_left 1
              · intro wz hSw
                go_simp
                try with_reducible rfl
              simp only [Act.put, List.setIfInBounds_toArray, List.set_cons_zero, List.set_cons_succ]
              have hf1 := HAxx10.out.free 1
              have he1 : x10.cell? ⟨p + 2, 1, none⟩ = some (.string ⟨#[]⟩) := HAxx10.out.cell 1
              refine wpAnyH_ready (rs := [11]) (by kernel_rfl) (by simp) ?_
              refine AllReadyH.cons rfl (fun KK hKK => ?_) AllReadyH.nil
              refine step_skip (by rfl) (x10.setCell ⟨p + 2, 1, none⟩ (.string (mk ++ mo ++ sA))) (by go_simp) none rfl ?_
              have K1 := HXx10.out.far (p := ⟨p + 2, 1, none⟩) (by dsimp only; omega) (.string (mk ++ mo ++ sA))
              have K2 := HRxx10.out.far (p := ⟨p + 2, 1, none⟩) (by dsimp only; omega) (.string (mk ++ mo ++ sA))
              have K3 : Blk (x10.setCell ⟨p + 2, 1, none⟩ (.string (mk ++ mo ++ sA))) (p + 2) 37 (liC a (lsO c)) := by rw [← HLS.out]; exact HAxx10.out.put 1 (.string (mk ++ mo ++ sA))
              have K4 := HBxx10.out.setCell (p := ⟨p + 2, 1, none⟩) (by have := HP.out; dsimp only; omega) (.string (mk ++ mo ++ sA))
              clear hf1 he1
              obtain ⟨vz, hvz⟩ : ∃ vz, vz = x10.setCell ⟨p + 2, 1, none⟩ (.string (mk ++ mo ++ sA)) := ⟨_, rfl⟩
              rw [← hvz] at K1 K2 K3 K4 ⊢
              clear hvz
              refine hKK.out _ _ K1 (fun hHeld => ?_)
              clear hKK KK
              simp only [Act.put]
              refine wpAnyH_done (by kernel_rfl) ?_ _
              obtain ⟨g2, _⟩ : ∃ g : Nat, g = 0 := ⟨_, rfl⟩
              exact HSH vz g1 g2 ⟨K1, K2, K3, K4⟩
            exact AllReadyH.nil
          refine AllReadyH.cons rfl (fun KK hKK => ?_) ?_
          · skip
            have hcv := conv8 x7 g1 yo HGx7.out
            rw [← HSA.out] at hcv
            refine step_alloc (by rfl) (.string sA) x7 (by go_simp) (some 44) rfl ?_
            clear hcv
            refine hKK.out _ _ HXx7.out (fun hHeld => ?_)
            clear hKK KK
            simp only [Act.put, List.setIfInBounds_toArray, List.set_cons_zero, List.set_cons_succ]
            refine wpAnyH_ready (rs := [2]) (by kernel_rfl) (by simp) ?_
            refine AllReadyH.cons rfl (fun KK hKK => ?_) AllReadyH.nil
            refine step_call2 (by rfl) 22 _ _ _ (by rfl) _ _ (by rfl) (by rfl) (fun _ _ => rfl) _ (HPK.out x7) (some 38) rfl ?_
            rintro e x11 ⟨rfl, hb⟩
            refine ⟨_, rfl, ?_⟩
            have HBxx11 := Lib.hid (HBxx7.out.trans (hb.mono HBxx7.out.size))
            have HXx11 := Lib.hid (HXx7.out.below hb HXx7.out.lt)
            have HRxx11 := Lib.hid (HRxx7.out.below hb HRxx7.out.lt)
            have HAxx11 := Lib.hid (HAxx7.out.below hb HAxx7.out.lt)
            have HGx11 := Lib.hid (HGx7.out.below hb HGx7.out.lt)
            clear hb
            refine hKK.out _ _ ?_ (fun hHeld => ?_)
            · exact HXx11.out
            clear hKK KK
            simp only [Act.put, List.setIfInBounds_toArray, List.set_cons_zero, List.set_cons_succ]
            refine wpAnyH_ready (rs := [4]) (by kernel_rfl) (by simp) ?_
            refine AllReadyH.cons rfl (fun KK hKK => ?_) AllReadyH.nil
            refine step_call2 (by rfl) 22 _ _ _ (by rfl) _ _ (by rfl) (by rfl) (fun _ _ => rfl) _ (HPO.out x11) (some 40) rfl ?_
            rintro e x12 ⟨rfl, hb⟩
            refine ⟨_, rfl, ?_⟩
            have HBxx12 := Lib.hid (HBxx11.out.trans (hb.mono HBxx11.out.size))
            have HXx12 := Lib.hid (HXx11.out.below hb HXx11.out.lt)
            have HRxx12 := Lib.hid (HRxx11.out.below hb HRxx11.out.lt)
            have HAxx12 := Lib.hid (HAxx11.out.below hb HAxx11.out.lt)
            have HGx12 := Lib.hid (HGx11.out.below hb HGx11.out.lt)
            clear hb
            refine hKK.out _ _ ?_ (fun hHeld => ?_)
            · exact HXx12.out
            clear hKK KK
            simp only [Act.put, List.setIfInBounds_toArray, List.set_cons_zero, List.set_cons_succ]
            refine takeH (i := 5) (v := ?_) rfl (by kernel_rfl) (by kernel_rfl) (by kernel_rfl) (fun _ _ _ h => h) (some 41) rfl (Or.inl ⟨by rfl, ?_⟩) (by assumption) ?_
            rotate_left 1
            · intro wz hSw
              go_simp
              try with_reducible rfl
            simp only [Act.put, List.setIfInBounds_toArray, List.set_cons_zero, List.set_cons_succ]
            refine takeH (i := 9) (v := ?_) rfl (by kernel_rfl) (by kernel_rfl) (by kernel_rfl) (fun _ _ _ h => h) (some 45) rfl (Or.inl ⟨by rfl, ?_⟩) (by assumption) ?_
            rotate_left 1
            · intro wz hSw
              go_simp
              try with_reducible rfl
            simp only [Act.put, List.setIfInBounds_toArray, List.set_cons_zero, List.set_cons_succ]
            refine takeH (i := 10) (v := ?_) rfl (by kernel_rfl) (by kernel_rfl) (by kernel_rfl) (fun _ _ _ h => h) (some 46) rfl (Or.inl ⟨by rfl, ?_⟩) (by assumption) ?_
            rotate_left 1
            · intro wz hSw
              go_simp
              try with_reducible rfl
            simp only [Act.put, List.setIfInBounds_toArray, List.set_cons_zero, List.set_cons_succ]
            have hf1 := HAxx12.out.free 1
            have he1 : x12.cell? ⟨p + 2, 1, none⟩ = some (.string ⟨#[]⟩) := HAxx12.out.cell 1
            refine wpAnyH_ready (rs := [11]) (by kernel_rfl) (by simp) ?_
            refine AllReadyH.cons rfl (fun KK hKK => ?_) AllReadyH.nil
            refine step_skip (by rfl) (x12.setCell ⟨p + 2, 1, none⟩ (.string (mk ++ mo ++ sA))) (by go_simp) none rfl ?_
            have K1 := HXx12.out.far (p := ⟨p + 2, 1, none⟩) (by dsimp only; omega) (.string (mk ++ mo ++ sA))
            have K2 := HRxx12.out.far (p := ⟨p + 2, 1, none⟩) (by dsimp only; omega) (.string (mk ++ mo ++ sA))
            have K3 : Blk (x12.setCell ⟨p + 2, 1, none⟩ (.string (mk ++ mo ++ sA))) (p + 2) 37 (liC a (lsO c)) := by rw [← HLS.out]; exact HAxx12.out.put 1 (.string (mk ++ mo ++ sA))
            have K4 := HBxx12.out.setCell (p := ⟨p + 2, 1, none⟩) (by have := HP.out; dsimp only; omega) (.string (mk ++ mo ++ sA))
            clear hf1 he1
            obtain ⟨vz, hvz⟩ : ∃ vz, vz = x12.setCell ⟨p + 2, 1, none⟩ (.string (mk ++ mo ++ sA)) := ⟨_, rfl⟩
            rw [← hvz] at K1 K2 K3 K4 ⊢
            clear hvz
            refine hKK.out _ _ K1 (fun hHeld => ?_)
            clear hKK KK
            simp only [Act.put]
            refine wpAnyH_done (by kernel_rfl) ?_ _
            obtain ⟨g2, _⟩ : ∃ g : Nat, g = 0 := ⟨_, rfl⟩
            exact HSH vz g1 g2 ⟨K1, K2, K3, K4⟩
          exact AllReadyH.nil
        exact AllReadyH.nil
      rintro v2 g1 g2 ⟨hC2, hR2, hA2, hB2⟩
      replace HC := Lib.hid hC2; replace HR := Lib.hid hR2; replace HA := Lib.hid hA2; replace HB := Lib.hid hB2
      clear hC2 hR2 hA2 hB2
      clear z1 z2 z3 z4 hc1 hc2 HPK HPO HSA HLS
      cases hch : chX a c.ty (lsO c) with
      | none =>
        have HV := Lib.hid (li_chno HAC.out hch)
        rw [hch] at HCH
        replace HCH : Hid (∀ v, Calls Try.prog 8 #[.int .i64 a, .int .i64 c.ty, .string (lsO c)] v fun e w' => e = .returned (.tuple #[kcV zK, .int .i64 180]) ∧ Below v.heap.size v w') := Lib.hid (fun v => HCH.out v)
        clear hch
        have l0 : v2.cell? ⟨p + 2, 0, none⟩ = some (.int .i64 a) := HA.out.cell 0
        have l1 : v2.cell? ⟨p + 2, 1, none⟩ = some (.string (lsO c)) := HA.out.cell 1
        have c11 : v2.cell? ⟨p, 11, none⟩ = some (.int .i64 c.ty) := HC.out.cell 11
        go_wp2_with (fail)
        refine (HCH.out v2).mono ?_; rintro e v3 ⟨rfl, hb⟩
        replace HB := Lib.hid (HB.out.trans (hb.mono HB.out.size)); replace HC := Lib.hid (HC.out.below hb HC.out.lt); replace HR := Lib.hid (HR.out.below hb HR.out.lt); replace HA := Lib.hid (HA.out.below hb HA.out.lt)
        clear hb l0 l1 c11
        go_upto_region 21 with (fail)
        change Code.wp _ _ _ _ (v3.alloc (.cells (kcC zK) 26))
        have hal := (Below.refl v3.heap.size v3).alloc (Nat.le_refl _) (.cells (kcC zK) 26)
        replace HB := Lib.hid (HB.out.trans (hal.mono HB.out.size)); have HD := Lib.hid (Blk.new v3 26 (kcC zK))
        replace HC := Lib.hid (HC.out.below hal HC.out.lt); replace HR := Lib.hid (HR.out.below hal HR.out.lt); replace HA := Lib.hid (HA.out.below hal HA.out.lt)
        generalize v3.alloc (.cells (kcC zK) 26) = v4 at *
        obtain ⟨g, hg⟩ : ∃ g, g = v3.heap.size := ⟨_, rfl⟩
        rw [← hg] at HD ⊢
        clear hal hg
        go_upto_region 22 with (fail)
        refine wp_region_lit ?_
        refine wpList_runs rfl (some 65) rfl (.agg (liC 0 ⟨#[]⟩)) v4 (by kernel_rfl) ?_
        refine wpList_store_row rfl 37 (.tmp 2) (.tmp 65) rfl (p + 1) (liC 0 ⟨#[]⟩) rfl rfl 37 (liC 0 ⟨#[]⟩) HR.out li_info rfl (liC_one _ _) ?_
        go_wp2_with (fail)
        refine bodyPost_ret_by (results_li rfl _ _ (p + 1) 0 ⟨#[]⟩ rfl (setRow_blk HR.out)) rfl ?_
        exact ⟨by rw [HV.out]; rfl, below_setRow HB.out (by rw [← HP.out]; omega) _⟩
      | some d =>
        have HLY := Lib.hid (fun b hb => li_chyes HAC.out hch b hb)
        have HCM := Lib.hid (fun v => cmds_any c d (ch_rn hch) v)
        rw [hch] at HCH
        replace HCH : Hid (∀ v, Calls Try.prog 8 #[.int .i64 a, .int .i64 c.ty, .string (lsO c)] v fun e w' => e = .returned (.tuple #[kcV d, .int .i64 0]) ∧ Below v.heap.size v w') := Lib.hid (fun v => HCH.out v)
        clear hch
        have l0 : v2.cell? ⟨p + 2, 0, none⟩ = some (.int .i64 a) := HA.out.cell 0
        have l1 : v2.cell? ⟨p + 2, 1, none⟩ = some (.string (lsO c)) := HA.out.cell 1
        have c11 : v2.cell? ⟨p, 11, none⟩ = some (.int .i64 c.ty) := HC.out.cell 11
        go_wp2_with (fail)
        refine (HCH.out v2).mono ?_; rintro e v3 ⟨rfl, hb⟩
        replace HB := Lib.hid (HB.out.trans (hb.mono HB.out.size)); replace HC := Lib.hid (HC.out.below hb HC.out.lt); replace HR := Lib.hid (HR.out.below hb HR.out.lt); replace HA := Lib.hid (HA.out.below hb HA.out.lt)
        clear hb l0 l1 c11
        go_upto_region 21 with (fail)
        change Code.wp _ _ _ _ (v3.alloc (.cells (kcC d) 26))
        have hal := (Below.refl v3.heap.size v3).alloc (Nat.le_refl _) (.cells (kcC d) 26)
        replace HB := Lib.hid (HB.out.trans (hal.mono HB.out.size)); have HD := Lib.hid (Blk.new v3 26 (kcC d))
        replace HC := Lib.hid (HC.out.below hal HC.out.lt); replace HR := Lib.hid (HR.out.below hal HR.out.lt); replace HA := Lib.hid (HA.out.below hal HA.out.lt)
        generalize v3.alloc (.cells (kcC d) 26) = v4 at *
        obtain ⟨g, hg⟩ : ∃ g, g = v3.heap.size := ⟨_, rfl⟩
        rw [← hg] at HD ⊢
        clear hal hg
        have c0 : v4.cell? ⟨p, 0, none⟩ = some (.int .i64 c.op) := HC.out.cell 0
        have d0 : v4.cell? ⟨g, 0, none⟩ = some (.int .i64 d.op) := HD.out.cell 0
        have c1 : v4.cell? ⟨p, 1, none⟩ = some (.int .i64 c.lu) := HC.out.cell 1
        have d1 : v4.cell? ⟨g, 1, none⟩ = some (.int .i64 d.lu) := HD.out.cell 1
        have c2 : v4.cell? ⟨p, 2, none⟩ = some (.string c.ho) := HC.out.cell 2
        have d2 : v4.cell? ⟨g, 2, none⟩ = some (.string d.ho) := HD.out.cell 2
        have c3 : v4.cell? ⟨p, 3, none⟩ = some (.int .i64 c.lb) := HC.out.cell 3
        have d3 : v4.cell? ⟨g, 3, none⟩ = some (.int .i64 d.lb) := HD.out.cell 3
        have c4 : v4.cell? ⟨p, 4, none⟩ = some (.int .i64 c.bl) := HC.out.cell 4
        have d4 : v4.cell? ⟨g, 4, none⟩ = some (.int .i64 d.bl) := HD.out.cell 4
        have c5 : v4.cell? ⟨p, 5, none⟩ = some (.string c.da) := HC.out.cell 5
        have d5 : v4.cell? ⟨g, 5, none⟩ = some (.string d.da) := HD.out.cell 5
        have c6 : v4.cell? ⟨p, 6, none⟩ = some (.bool c.fu) := HC.out.cell 6
        have d6 : v4.cell? ⟨g, 6, none⟩ = some (.bool d.fu) := HD.out.cell 6
        have c7 : v4.cell? ⟨p, 7, none⟩ = some (.slice c.rA c.rn c.rc) := HC.out.cell 7
        have d7 : v4.cell? ⟨g, 7, none⟩ = some (.slice d.rA d.rn d.rc) := HD.out.cell 7
        have c8 : v4.cell? ⟨p, 8, none⟩ = some (.int .u64 (c.ke : Int)) := HC.out.cell 8
        have d8 : v4.cell? ⟨g, 8, none⟩ = some (.int .u64 (d.ke : Int)) := HD.out.cell 8
        have c9 : v4.cell? ⟨p, 9, none⟩ = some (.int .u64 (c.nk : Int)) := HC.out.cell 9
        have d9 : v4.cell? ⟨g, 9, none⟩ = some (.int .u64 (d.nk : Int)) := HD.out.cell 9
        have c10 : v4.cell? ⟨p, 10, none⟩ = some (.int .u64 (c.ot : Int)) := HC.out.cell 10
        have d10 : v4.cell? ⟨g, 10, none⟩ = some (.int .u64 (d.ot : Int)) := HD.out.cell 10
        have c11 : v4.cell? ⟨p, 11, none⟩ = some (.int .i64 c.ty) := HC.out.cell 11
        have d11 : v4.cell? ⟨g, 11, none⟩ = some (.int .i64 d.ty) := HD.out.cell 11
        have c12 : v4.cell? ⟨p, 12, none⟩ = some (.bool c.ig) := HC.out.cell 12
        have d12 : v4.cell? ⟨g, 12, none⟩ = some (.bool d.ig) := HD.out.cell 12
        have c13 : v4.cell? ⟨p, 13, none⟩ = some (.int .i64 c.ap) := HC.out.cell 13
        have d13 : v4.cell? ⟨g, 13, none⟩ = some (.int .i64 d.ap) := HD.out.cell 13
        go_wp2_with (fail)
        refine (HCM.out v4).mono ?_; rintro e v5 ⟨rfl, hb⟩
        replace HB := Lib.hid (HB.out.trans (hb.mono HB.out.size)); replace HR := Lib.hid (HR.out.below hb HR.out.lt); replace HA := Lib.hid (HA.out.below hb HA.out.lt)
        clear hb c0 d0 c1 d1 c2 d2 c3 d3 c4 d4 c5 d5 c6 d6 c7 d7 c8 d8 c9 d9 c10 d10 c11 d11 c12 d12 c13 d13 HC HD
        cases hsm : sameK c d with
        | false =>
          have HV := Lib.hid (HLY.out false hsm)
          clear hsm
          go_upto_region 22 with (fail)
          refine wp_region_lit ?_
          refine wpList_runs rfl (some 65) rfl (.agg (liC 0 ⟨#[]⟩)) v5 (by kernel_rfl) ?_
          refine wpList_store_row rfl 37 (.tmp 2) (.tmp 65) rfl (p + 1) (liC 0 ⟨#[]⟩) rfl rfl 37 (liC 0 ⟨#[]⟩) HR.out li_info rfl (liC_one _ _) ?_
          go_wp2_with (fail)
          refine bodyPost_ret_by (results_li rfl _ _ (p + 1) 0 ⟨#[]⟩ rfl (setRow_blk HR.out)) rfl ?_
          exact ⟨by rw [HV.out]; rfl, below_setRow HB.out (by rw [← HP.out]; omega) _⟩
        | true =>
          have HV := Lib.hid (HLY.out true hsm)
          clear hsm
          go_upto_region 23 with (fail)
          refine wp_region_lit ?_
          refine wpList_load_row rfl 37 (.tmp 4) rfl (p + 2) rfl 37 (liC a (lsO c)) (0, 0) _ HA.out Try.underlying37 rfl li_info ?_
          refine wpList_store_row rfl 37 (.tmp 2) (.tmp 66) rfl (p + 1) (liC a (lsO c)) rfl rfl 37 (liC 0 ⟨#[]⟩) HR.out li_info rfl (liC_one _ _) ?_
          go_wp2_with (fail)
          refine bodyPost_ret_by (results_li rfl _ _ (p + 1) a (lsO c) rfl (setRow_blk HR.out)) rfl ?_
          exact ⟨by rw [HV.out]; rfl, below_setRow HB.out (by rw [← HP.out]; omega) _⟩
end Go.Proofs.Ytdggipgieanpeaa
