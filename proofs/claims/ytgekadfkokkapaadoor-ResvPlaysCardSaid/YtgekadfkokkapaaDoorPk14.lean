/- A change worked on: the program's Do. -/
import Derived.Test.YtgekadfkokkapaaDoorPk11
import Derived.Test.YtgekadfkokkapaaDoorPk13
import Derived.Laws.ResultCell
namespace Go.Proofs.YtgekadfkokkapaaDoor
open Go.RowKit
theorem results_row2 {P : Program} {fn : Func} {p u u2 : Tmp} {ty : TypeId} (h : fn.results = #[.cell p ty, .tmp u, .tmp u2]) (tmps : Array Value) (w : World) (g : Nat) (t : TypeId) (cs : Array Value) (fr : Nat × Nat) (d : TypeDesc)
    (hp : tmps.getD p undef = .pointer (some ⟨g, 0, none⟩)) (hg : w.heap[g]? = some (.cells cs t fr))
    (hu : P.underlying ty = some d) (hd : (match d with | .struct _ | .array _ _ => true | _ => false) = true) (hi : (P.info? ty).map (·.size) = some cs.size) :
    (results fn tmps).run P w = .ok (.tuple #[.agg cs, tmps.getD u undef, tmps.getD u2 undef]) w := by
  have hp' : tmps[p]?.getD undef = .pointer (some ⟨g, 0, none⟩) := by simpa using hp
  simp [results, h, hp', asAddr, run_loadVar_row w g t ty cs fr d hg hu hd hi, Result.andThen]
theorem step_copy {ops : Array Oper} {o : Oper} {a : Act} {w : World} {K : Act → World → Prop} {Q : Exit → Act → World → Prop} {E : Prop} (hgd : o.guard = none) (x : Operand)
    (ho : o.op = .call { callee := .value (.func 36), args := #[x], argTypes := #[27] }) (A : Option Addr) (c : Nat) (t : Tl) (hx : a.eval x = tlV A c t)
    (hl : Rgs w A t.rs) (hm : t.rs.length ≤ 1000) (hz : ∀ x ∈ t.rs, x.h.size ≤ 1000) (hh : t.ho.size ≤ 1000)
    (h : ∀ A' c' w', Own w' w.heap.size A' c' t.rs → Below w.heap.size w w' → K (a.put o.dst (tlV A' c' t)) w') :
    if Region.wanted o (yielded ops a.tmps) = true then Oper.wp Tryd.prog o a w K Q else E := by
  have hw : Region.wanted o (yielded ops a.tmps) = true := by simp [Region.wanted, hgd]
  rw [if_pos hw]
  have hr : (execOp a.eval o).run Tryd.prog w = .ok (.enter 36 #[tlV A c t]) w := by
    unfold execOp
    simp [ho, resolve, invoke, go_sem]
    revert hx
    cases x <;> simp [Act.eval]
  unfold Oper.wp
  rw [hr, Oper.upon_enter]
  refine (copyOf_any A c t w hl hm hz hh).mono ?_
  rintro e w' ⟨A', c', rfl, h1, hb⟩
  exact h A' c' w' h1 hb
/-- The boxes of Do. -/
structure DoAt (n : Nat) (v : World) (A : Option Addr) (c : Nat) (t : Tl) (m : Cm) : Prop where
  box : Blk v n 27 (tlC A c t)
  cmd : Blk v (n + 1) 37 (cmC m)
  res : Blk v (n + 2) 27 tlZ
  rgs : Rgs v A t.rs
theorem DoAt.below {n : Nat} {v v' : World} {A : Option Addr} {c : Nat} {t : Tl} {m : Cm} (h : DoAt n v A c t m) (hb : Below v.heap.size v v') : DoAt n v' A c t m :=
  ⟨h.box.below hb h.box.lt, h.cmd.below hb h.cmd.lt, h.res.below hb h.res.lt, h.rgs.below hb⟩
theorem do_boxes (w : World) (A : Option Addr) (c : Nat) (t : Tl) (m : Cm) (hl : Rgs w A t.rs) : ∀ v, v = ((w.alloc (.cells (tlC A c t) 27)).alloc (.cells (cmC m) 37)).alloc (.cells tlZ 27) → DoAt w.heap.size v A c t m ∧ Below w.heap.size w v ∧ v.heap.size = w.heap.size + 3 := by
  rintro v rfl
  have hb := (((Below.refl w.heap.size w).alloc (Nat.le_refl _) (.cells (tlC A c t) 27)).alloc (by simp) (.cells (cmC m) 37)).alloc (by simp; omega) (.cells tlZ 27)
  refine ⟨⟨((Blk.new w _ _).alloc _).alloc _, ?_, ?_, hl.below hb⟩, hb, by simp⟩
  · have := (Blk.new (w.alloc (.cells (tlC A c t) 27)) 37 (cmC m)).alloc (.cells tlZ 27)
    simpa using this
  · have := Blk.new ((w.alloc (.cells (tlC A c t) 27)).alloc (.cells (cmC m) 37)) 27 tlZ
    simpa using this
theorem step_loadR {P : Program} {ops : Array Oper} {o : Oper} {a : Act} {w : World} {K : Act → World → Prop} {Q : Exit → Act → World → Prop} {E : Prop} (hgd : o.guard = none) (ty : TypeId) (x : Operand) (ho : o.op = .load ty x)
    (g : Nat) (hx : a.eval x = .pointer (some ⟨g, 0, none⟩)) (t : TypeId) (cs : Array Value) (hg : Blk w g t cs) (d : TypeDesc)
    (hu : P.underlying ty = some d) (hd : (match d with | .struct _ | .array _ _ => true | _ => false) = true) (hi : (P.info? ty).map (·.size) = some cs.size)
    (h : K (a.put o.dst (.agg cs)) w) : if Region.wanted o (yielded ops a.tmps) = true then Oper.wp P o a w K Q else E := by
  have hw : Region.wanted o (yielded ops a.tmps) = true := by simp [Region.wanted, hgd]
  rw [if_pos hw]
  exact wp_load_row ty x ho g hx t cs (0, 0) d hg hu hd hi h
theorem step_storeR {P : Program} {ops : Array Oper} {o : Oper} {a : Act} {w : World} {K : Act → World → Prop} {Q : Exit → Act → World → Prop} {E : Prop} (hgd : o.guard = none) (ty : TypeId) (x y : Operand) (ho : o.op = .store ty x y)
    (g : Nat) (cells : Array Value) (hx : a.eval x = .pointer (some ⟨g, 0, none⟩)) (hy : a.eval y = .agg cells)
    (t : TypeId) (old : Array Value) (hg : Blk w g t old) (hi : (P.info? ty).map (·.size) = some cells.size)
    (hold : old.size = cells.size) (h1 : cells.all (·.oneCell') = true)
    (h : ∀ v, Blk v g t cells → Only (fun k => k = g) w v → K (a.put o.dst undef) v) : if Region.wanted o (yielded ops a.tmps) = true then Oper.wp P o a w K Q else E := by
  have hw : Region.wanted o (yielded ops a.tmps) = true := by simp [Region.wanted, hgd]
  rw [if_pos hw]
  exact wp_store_row ty x y ho g cells hx hy t old hg hi hold h1 (h _ (setRow_blk hg) (setRow_only w g cells))
def chZ : Array Value := #[.slice none 0 0, .int .i64 0, .string ⟨#[]⟩, .int .u32 0, .bool false, .int .i64 0, .int .i64 0, .string ⟨#[]⟩, .int .i64 0, .int .i64 0, .string ⟨#[]⟩, .bool false, .slice none 0 0, .int .u64 0, .int .u64 0, .int .u64 0, .int .i64 0, .bool false, .int .i64 0, .slice none 0 0]
theorem size37 : (Tryd.prog.info? 37).map (·.size) = some 14 := by kernel_rfl
theorem size64 : (Tryd.prog.info? 64).map (·.size) = some 20 := by kernel_rfl
structure DoBx (n : Nat) (v : World) (A : Option Addr) (c : Nat) (t : Tl) (m : Cm) : Prop where
  box : Blk v n 27 (tlC A c t)
  cmd : Blk v (n + 1) 37 (cmC m)
  res : Blk v (n + 2) 27 tlZ
def DoOut (w : World) (t : Tl) (m : Cm) (e : Ending) (w' : World) : Prop :=
  ∃ A' c' B' e', e = .returned (.tuple #[tlV A' c' (doT t m), .slice B' (doE t m).length e', .int .i64 (doC t m)]) ∧ Own w' w.heap.size A' c' (doT t m).rs ∧ OwnE w' w.heap.size B' e' (doE t m) ∧ Below w.heap.size w w'
theorem chC_one (A : Option Addr) (c : Nat) (t : Tl) (m : Cm) (B : Option Addr) (e : Nat) (es : List Ev) : (chC A c t m B e es).all (·.oneCell') = true := by
  simp [chC, Value.oneCell']
abbrev fnV (f : Nat) : Value := .func (.func f) #[] #[]
theorem eff_find (n : Int) : ∃ fv ok, (∀ (w : World) (b : Nat), w.heap[b]? = some (.map effM 5) → (Instr.lookup 67 (.map (some b)) (.int .i64 n) true).run Tryd.prog w = .ok (.tuple #[fv, .bool ok]) w) ∧ ok = decide (8 ≤ n ∧ n ≤ 12) ∧ (n = 8 → fv = fnV 55) ∧ (n = 9 → fv = fnV 56) ∧ (n = 10 → fv = fnV 57) ∧ (n = 11 → fv = fnV 58) ∧ (n = 12 → fv = fnV 59) := by
  by_cases h8 : n = 8
  · subst h8; exact ⟨_, _, fun w b hb => run_look w b hb 8 (some (0, fnV 55)) rfl, rfl, by simp, by simp, by simp, by simp, by simp⟩
  by_cases h9 : n = 9
  · subst h9; exact ⟨_, _, fun w b hb => run_look w b hb 9 (some (1, fnV 56)) rfl, rfl, by simp, by simp, by simp, by simp, by simp⟩
  by_cases h10 : n = 10
  · subst h10; exact ⟨_, _, fun w b hb => run_look w b hb 10 (some (2, fnV 57)) rfl, rfl, by simp, by simp, by simp, by simp, by simp⟩
  by_cases h11 : n = 11
  · subst h11; exact ⟨_, _, fun w b hb => run_look w b hb 11 (some (3, fnV 58)) rfl, rfl, by simp, by simp, by simp, by simp, by simp⟩
  by_cases h12 : n = 12
  · subst h12; exact ⟨_, _, fun w b hb => run_look w b hb 12 (some (4, fnV 59)) rfl, rfl, by simp, by simp, by simp, by simp, by simp⟩
  refine ⟨_, _, fun w b hb => run_look w b hb n none ?_, ?_, fun h => absurd h h8, fun h => absurd h h9, fun h => absurd h h10, fun h => absurd h h11, fun h => absurd h h12⟩
  · have e8 : (n == 8) = false := by rw [int_beq]; exact decide_eq_false h8
    have e9 : (n == 9) = false := by rw [int_beq]; exact decide_eq_false h9
    have e10 : (n == 10) = false := by rw [int_beq]; exact decide_eq_false h10
    have e11 : (n == 11) = false := by rw [int_beq]; exact decide_eq_false h11
    have e12 : (n == 12) = false := by rw [int_beq]; exact decide_eq_false h12
    simp only [effM, effE, Instr.findNow, Instr.sameNow, ↓reduceIte, e8, e9, e10, e11, e12]
  · show false = _
    exact (decide_eq_false (by omega)).symm
theorem step_eff {ops : Array Oper} {o : Oper} {a : Act} {w : World} {K : Act → World → Prop} {Q : Exit → Act → World → Prop} {E : Prop} (hgd : o.guard = none)
    (ho : o.op = .call { callee := .value (.func 37), args := #[], argTypes := #[] })
    (h : K (a.put o.dst (.map (some w.heap.size))) (w.alloc (.map effM 5))) :
    if Region.wanted o (yielded ops a.tmps) = true then Oper.wp Tryd.prog o a w K Q else E := by
  have hw : Region.wanted o (yielded ops a.tmps) = true := by simp [Region.wanted, hgd]
  rw [if_pos hw]
  have hr : (execOp a.eval o).run Tryd.prog w = .ok (.enter 37 #[]) w := by
    unfold execOp
    simp [ho, resolve, invoke, go_sem]
  unfold Oper.wp
  rw [hr, Oper.upon_enter]
  refine (effects_any w).mono ?_
  rintro e w' ⟨rfl, rfl⟩
  exact h
theorem res22 (tmps : Array Value) (w : World) (g : Nat) (cs : Array Value) (hp : tmps.getD 4 undef = .pointer (some ⟨g, 0, none⟩)) (hg : Blk w g 27 cs) (hi : cs.size = 5) :
    (results Tryd.f22 tmps).run Tryd.prog w = .ok (.tuple #[.agg cs, tmps.getD 5 undef, tmps.getD 6 undef]) w :=
  results_row2 rfl tmps w g 27 cs (0, 0) _ hp hg Tryd.underlying27 rfl (by rw [hi]; exact size27)
theorem DoOut.wrong {w V : World} {t : Tl} {m : Cm} {A : Option Addr} {c : Nat} (hg : doG t m = false) (h : Own V w.heap.size A c t.rs) (hb : Below w.heap.size w V) : DoOut w t m (.returned (.tuple #[tlV A c t, .slice none 0 0, .int .i64 5])) V := by
  have e1 : doT t m = t := by unfold doT; rw [if_neg (by rw [hg]; decide)]
  have e2 : doE t m = [] := by unfold doE; rw [if_neg (by rw [hg]; decide)]
  have e3 : doC t m = 5 := by unfold doC; rw [if_neg (by rw [hg]; decide)]
  exact ⟨A, c, none, 0, by rw [e1, e2, e3]; rfl, by rw [e1]; exact h, by rw [e2]; exact OwnE.nil _ _, hb⟩
theorem DoOut.right {w V : World} {t : Tl} {m : Cm} {tt : Tl} {ee : List Ev} {cd : Int} {A : Option Addr} {c : Nat} {B : Option Addr} {e : Nat} (h1 : doT t m = tt) (h2 : doE t m = ee) (h3 : doC t m = cd) (h : Own V w.heap.size A c tt.rs) (he : OwnE V w.heap.size B e ee) (hb : Below w.heap.size w V) : DoOut w t m (.returned (.tuple #[tlV A c tt, .slice B ee.length e, .int .i64 cd])) V := by
  subst h1 h2 h3
  exact ⟨A, c, B, e, rfl, h, he, hb⟩
theorem res_put (w v : World) (p : Nat) (A : Option Addr) (c : Nat) (t : Tl) (m : Cm) (B : Option Addr) (e : Nat) (es : List Ev) (h : Chg v (w.heap.size + 3) p A c t m B e es) (hr : Blk v (w.heap.size + 2) 27 tlZ) (hb : Below w.heap.size w v) : ∀ V, V = (((((v.setCell ⟨w.heap.size + 1 + 1, 0, none⟩ (.slice A t.rs.length c)).setCell ⟨w.heap.size + 1 + 1, 1, none⟩ (.int .i64 t.ty)).setCell ⟨w.heap.size + 1 + 1, 2, none⟩ (.string t.ho)).setCell ⟨w.heap.size + 1 + 1, 3, none⟩ (.int .u32 t.ge)).setCell ⟨w.heap.size + 1 + 1, 4, none⟩ (.bool t.ap)) →
    Blk V (w.heap.size + 1 + 1) 27 (tlC A c t) ∧ (Own V w.heap.size A c t.rs ∧ OwnE V w.heap.size B e es) ∧ Below w.heap.size w V := by
  rintro V rfl
  have hO : Only (fun k => k = w.heap.size + 2) v _ := ((((((Only.refl (fun k => k = w.heap.size + 2) v).setCell (p := ⟨w.heap.size + 1 + 1, 0, none⟩) (.inl rfl) (.slice A t.rs.length c)).setCell (p := ⟨w.heap.size + 1 + 1, 1, none⟩) (.inl rfl) (.int .i64 t.ty)).setCell (p := ⟨w.heap.size + 1 + 1, 2, none⟩) (.inl rfl) (.string t.ho)).setCell (p := ⟨w.heap.size + 1 + 1, 3, none⟩) (.inl rfl) (.int .u32 t.ge)).setCell (p := ⟨w.heap.size + 1 + 1, 4, none⟩) (.inl rfl) (.bool t.ap))
  refine ⟨(((((hr.put 0 _).put 1 _).put 2 _).put 3 _).put 4 _), ⟨⟨own_base (own_keep h.rgs.1 fun g hg => hO.block g (h.rgs.1.lt g hg).2 (fun e => ?_)) (fun g hg => ?_), h.rgs.2⟩, own_base (own_keep h.evs fun g hg => hO.block g (h.evs.lt g hg).2 (fun e => ?_)) (fun g hg => ?_)⟩, hb.trans (hO.toBelow hb.size (fun k hk => by omega))⟩
  · have := (h.rgs.1.lt g hg).1; omega
  · have := (h.rgs.1.lt g hg).1; omega
  · have := (h.evs.lt g hg).1; omega
  · have := (h.evs.lt g hg).1; omega
theorem chg_stays {n : Nat} {v v' : World} {A : Option Addr} {c : Nat} {t : Tl} {m : Cm} (h : DoBx n v A c t m) (hb : Below (n + 3) v v') : DoBx n v' A c t m :=
  ⟨h.box.below hb (by omega), h.cmd.below hb (by omega), h.res.below hb (by omega)⟩
theorem bx_stays {n : Nat} {v v' : World} {A : Option Addr} {c : Nat} {t : Tl} {m : Cm} (h : DoBx n v A c t m) (hb : Below v.heap.size v v') : DoBx n v' A c t m :=
  ⟨h.box.below hb h.box.lt, h.cmd.below hb h.cmd.lt, h.res.below hb h.res.lt⟩
theorem Own.base {w : World} {n0 n : Nat} {A : Option Addr} {c : Nat} {l : List Rg} (h : Own w n A c l) (hn : n0 ≤ n) : Own w n0 A c l :=
  ⟨own_base h.1 (fun g hg => Nat.le_trans hn (h.1.lt g hg).1), h.2⟩
theorem DoAt.only {n p : Nat} {v v' : World} {A : Option Addr} {c : Nat} {t : Tl} {m : Cm} (h : DoAt n v A c t m) (ho : Only (fun k => k = p) v v') (hp : n + 3 ≤ p) : Blk v' n 27 (tlC A c t) ∧ Blk v' (n + 1) 37 (cmC m) ∧ Blk v' (n + 2) 27 tlZ :=
  ⟨(ho.block n h.box.lt (by omega)).trans h.box, (ho.block (n + 1) h.cmd.lt (by omega)).trans h.cmd, (ho.block (n + 2) h.res.lt (by omega)).trans h.res⟩
theorem Chg.first {v v' : World} {n0 p : Nat} {A : Option Addr} {c : Nat} {t : Tl} {m : Cm} (h : Own v n0 A c t.rs) (hz : Blk v p 64 chZ) (hb : Blk v' p 64 (chC A c t m none 0 [])) (ho : Only (fun k => k = p) v v') (hp : n0 ≤ p) (_hs : n0 ≤ v.heap.size) : Chg v' n0 p A c t m none 0 [] := by
  have hap : (Value.slice A t.rs.length c).ownBlock ≠ some p := own_apart h.1 hz (by decide)
  exact ⟨hb, ⟨own_keep h.1 fun g hg => ho.block g (h.1.lt g hg).2 (fun e => hap (hg.trans (congrArg some e))), h.2⟩, OwnE.nil _ _, hp⟩
end Go.Proofs.YtgekadfkokkapaaDoor
