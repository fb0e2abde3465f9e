/- Steps of a region that draws its order: loads, stores and calls by their contracts; what follows is proved once. -/
import Derived.Test.YtgekadfkokkapaaDoorReZ
import Derived.Test.YtgekadfkokkapaaDoorReT
namespace Go.Proofs.YtgekadfkokkapaaDoor
open Go.RowKit
theorem share8 {T : Prop} {G : World → Nat → Option Addr → Nat → Option Addr → Nat → Option Addr → Nat → Prop} (F : World → Nat → Option Addr → Nat → Option Addr → Nat → Option Addr → Nat → Prop)
    (main : (∀ v p A5 c5 A6 c6 B6 e6, F v p A5 c5 A6 c6 B6 e6 → G v p A5 c5 A6 c6 B6 e6) → T) (pf : ∀ v p A5 c5 A6 c6 B6 e6, F v p A5 c5 A6 c6 B6 e6 → G v p A5 c5 A6 c6 B6 e6) : T := main pf
theorem share1 {T : Prop} {G : World → Prop} (F : World → Prop) (main : (∀ v, F v → G v) → T) (pf : ∀ v, F v → G v) : T := main pf
theorem share5 {T : Prop} {G : World → Option Addr → Nat → Option Addr → Nat → Prop} (F : World → Option Addr → Nat → Option Addr → Nat → Prop)
    (main : (∀ v A c B e, F v A c B e → G v A c B e) → T) (pf : ∀ v A c B e, F v A c B e → G v A c B e) : T := main pf
section
variable {P : Program} {ops : Array Oper} {o : Oper} {a : Act} {w : World} {K : Act → World → Prop} {Q : Exit → Act → World → Prop} {E : Prop}
theorem step_load (hw : Region.wanted o (yielded ops a.tmps) = true) (ty : TypeId) (x : Operand) (ho : o.op = .load ty x)
    (g : Nat) (hx : a.eval x = .pointer (some ⟨g, 0, none⟩)) (t : TypeId) (cs : Array Value) (hg : Blk w g t cs) (d : TypeDesc)
    (hu : P.underlying ty = some d) (hd : (match d with | .struct _ | .array _ _ => true | _ => false) = true) (hi : (P.info? ty).map (·.size) = some cs.size)
    (d0 : Option Tmp) (hd0 : o.dst = d0) (h : K (a.put d0 (.agg cs)) w) : if Region.wanted o (yielded ops a.tmps) = true then Oper.wp P o a w K Q else E := by
  subst hd0
  rw [if_pos hw]
  exact wp_load_row ty x ho g hx t cs (0, 0) d hg hu hd hi h
theorem step_store (hw : Region.wanted o (yielded ops a.tmps) = true) (ty : TypeId) (x y : Operand) (ho : o.op = .store ty x y)
    (g : Nat) (cells : Array Value) (hx : a.eval x = .pointer (some ⟨g, 0, none⟩)) (hy : a.eval y = .agg cells)
    (t : TypeId) (old : Array Value) (hg : Blk w g t old) (hi : (P.info? ty).map (·.size) = some cells.size)
    (hold : old.size = cells.size) (h1 : cells.all (·.oneCell') = true)
    (d0 : Option Tmp) (hd0 : o.dst = d0) (h : ∀ v, Blk v g t cells → Only (fun k => k = g) w v → K (a.put d0 undef) v) : if Region.wanted o (yielded ops a.tmps) = true then Oper.wp P o a w K Q else E := by
  subst hd0
  rw [if_pos hw]
  exact wp_store_row ty x y ho g cells hx hy t old hg hi hold h1 (h _ (setRow_blk hg) (setRow_only w g cells))
theorem step_call0 (hw : Region.wanted o (yielded ops a.tmps) = true) (f : Nat) (ty : Array TypeId) (ho : o.op = .call { callee := .value (.func f), args := #[], argTypes := ty })
    (hcf : ∀ args v, (callFunc f args).run P v = .ok (.enter f args) v) (post : Ending → World → Prop) (hc : Calls P f #[] w post) (d0 : Option Tmp) (hd0 : o.dst = d0) (h : ∀ e w', post e w' → ∃ v, e = .returned v ∧ K (a.put d0 v) w') :
    if Region.wanted o (yielded ops a.tmps) = true then Oper.wp P o a w K Q else E := by
  subst hd0
  rw [if_pos hw]
  have hr : (execOp a.eval o).run P w = .ok (.enter f #[]) w := by
    unfold execOp
    simp [ho, resolve, invoke, go_sem, hcf]
  unfold Oper.wp
  rw [hr, Oper.upon_enter]
  refine hc.mono ?_
  intro e w' hp
  obtain ⟨v, rfl, hk⟩ := h e w' hp
  exact hk
theorem step_call1 (hw : Region.wanted o (yielded ops a.tmps) = true) (f : Nat) (x : Operand) (ty : Array TypeId) (ho : o.op = .call { callee := .value (.func f), args := #[x], argTypes := ty })
    (u : Value) (hx : a.eval x = u) (hcf : ∀ args v, (callFunc f args).run P v = .ok (.enter f args) v) (post : Ending → World → Prop) (hc : Calls P f #[u] w post) (d0 : Option Tmp) (hd0 : o.dst = d0) (h : ∀ e w', post e w' → ∃ v, e = .returned v ∧ K (a.put d0 v) w') :
    if Region.wanted o (yielded ops a.tmps) = true then Oper.wp P o a w K Q else E := by
  subst hd0
  rw [if_pos hw]
  have hr : (execOp a.eval o).run P w = .ok (.enter f #[u]) w := by
    unfold execOp
    simp only [ho, resolve, invoke, Sem.run_bind, List.map_toArray, List.map_cons, List.map_nil, hx]
    simp [go_sem, hcf]
  unfold Oper.wp
  rw [hr, Oper.upon_enter]
  refine hc.mono ?_
  intro e w' hp
  obtain ⟨v, rfl, hk⟩ := h e w' hp
  exact hk
theorem step_call2 (hw : Region.wanted o (yielded ops a.tmps) = true) (f : Nat) (x y : Operand) (ty : Array TypeId) (ho : o.op = .call { callee := .value (.func f), args := #[x, y], argTypes := ty })
    (u v : Value) (hx : a.eval x = u) (hy : a.eval y = v) (hcf : ∀ args v, (callFunc f args).run P v = .ok (.enter f args) v) (post : Ending → World → Prop) (hc : Calls P f #[u, v] w post) (d0 : Option Tmp) (hd0 : o.dst = d0) (h : ∀ e w', post e w' → ∃ v, e = .returned v ∧ K (a.put d0 v) w') :
    if Region.wanted o (yielded ops a.tmps) = true then Oper.wp P o a w K Q else E := by
  subst hd0
  rw [if_pos hw]
  have hr : (execOp a.eval o).run P w = .ok (.enter f #[u, v]) w := by
    unfold execOp
    simp only [ho, resolve, invoke, Sem.run_bind, List.map_toArray, List.map_cons, List.map_nil, hx, hy]
    simp [go_sem, hcf]
  unfold Oper.wp
  rw [hr, Oper.upon_enter]
  refine hc.mono ?_
  intro e w' hp
  obtain ⟨v, rfl, hk⟩ := h e w' hp
  exact hk
theorem take_at {md : Region.Mode} {i : Nat} {oi : Oper} {v : Value} {fuel : Nat} {listed : Array Bool} (hi : ops[i]? = some oi)
    (hs : Region.noSelect ops = true) (hf : Region.free md ops listed i = true) (hr : (Region.ready md ops listed).contains i = true)
    (hQ : ∀ c a w, Q (.panic c) (a.put oi.dst v) w → Q (.panic c) a w) (d0 : Option Tmp) (hd0 : oi.dst = d0) (hy : Yields P ops oi v a)
    (h : wpAny P md ops Q fuel (listed.setIfInBounds i true) (a.put d0 v) w) : wpAny P md ops Q (fuel + 1) listed a w := by
  subst hd0
  exact wpAny_take hi hs hf hr hQ hy h
end
end Go.Proofs.YtgekadfkokkapaaDoor
