/- A table read off a text: what is read of it, block by block. -/
import Derived.Test.YthedonkjnfeajaaDoorImA
namespace Go.Proofs.YthedonkjnfeajaaDoor
open Go.RowKit
theorem clone_any (s : ByteArray) (w : World) (hs : s.size ≤ 281474976710656) : Calls Tryd.prog 44 #[.string s] w fun e w' => e = .returned (.string s) ∧ Below w.heap.size w w' := by
  go_enter Tryd.func44, Tryd.ntmps44
  go_wp2_with (fail)
  refine (Tryd.stringslite_Clone s w hs).mono ?_
  rintro e w1 ⟨rfl, hb⟩
  go_wp2_with (fail)
  go_ret
  exact ⟨rfl, hb⟩
theorem run_append_rg (w : World) (ty : TypeId) (B : Nat) (A : Option Addr) (c : Nat) (l : List Rg) (hown : Own w B A c l) (b : Nat) (y : Rg) (hy : y.h.size ≤ maxLen) (hb : Blk w b 48 (regC y)) (hm : l.length ≤ 100000) (hB : B ≤ w.heap.size) :
    ∃ A' c' w', (Builtin.append_ #[22, 22] ty #[.slice A l.length c, .slice (some ⟨b, 0, none⟩) 1 1]).run Tryd.prog w = .ok (.slice A' (l.length + 1) c') w' ∧ Own w' B A' c' (l ++ [y]) ∧ w.grownBy w' (Value.slice A l.length c).ownBlock := by
  obtain ⟨i0, hi0, hz0, hz1, hz2⟩ := info_parts infoReg
  obtain ⟨v', w', h1, h2, h3, _, _⟩ := run_append_own_at (P := Tryd.prog) w B 22 ty 48 i0 _ 2 24 Tryd.underlying22 hi0 hz0 hz1 hz2 rfl (by omega) _ l.length _ hown.1 ⟨b, 0, none⟩ 1 1 (rgCells [y]) rfl (fun j u hu => by
    rw [Addr.add_lit, Nat.zero_add, hb.cell]
    match j, hu with
    | 0, hu => exact hu
    | 1, hu => exact hu) rgCells_one (by unfold maxLen; omega) (by omega) hB
  obtain ⟨A', c', rfl⟩ := own_form h2
  refine ⟨A', c', w', h1, ⟨?_, fun x hx => (List.mem_append.1 hx).elim (hown.2 x) (fun hx => by rw [List.mem_singleton.1 hx]; exact hy)⟩, h3⟩
  rw [List.length_append, rgCells_append]
  exact h2
theorem step_rg {ops : Array Oper} {o : Oper} {a : Act} {w : World} {K : Act → World → Prop} {Q : Exit → Act → World → Prop} {E : Prop} (hgd : o.guard = none) (s x : Operand)
    (ho : o.op = .call { callee := .builtin .append, args := #[s, x], argTypes := #[22, 22] }) (B : Nat) (A : Option Addr) (c : Nat) (l : List Rg) (hs : a.eval s = .slice A l.length c) (hown : Own w B A c l)
    (b : Nat) (y : Rg) (hx : a.eval x = .slice (some ⟨b, 0, none⟩) 1 1) (hy : y.h.size ≤ maxLen) (hb : Blk w b 48 (regC y)) (hm : l.length ≤ 100000) (hB : B ≤ w.heap.size)
    (h : ∀ A' c' w', Own w' B A' c' (l ++ [y]) → w.grownBy w' (Value.slice A l.length c).ownBlock → K (a.put o.dst (.slice A' (l.length + 1) c')) w') :
    if Region.wanted o (yielded ops a.tmps) = true then Oper.wp Tryd.prog o a w K Q else E := by
  have hw : Region.wanted o (yielded ops a.tmps) = true := by simp [Region.wanted, hgd]
  rw [if_pos hw]
  obtain ⟨A', c', w', hr, h2, h3⟩ := run_append_rg w o.type B A c l hown b y hy hb hm hB
  unfold Oper.wp execOp
  simp only [ho, resolve, invoke, builtin, Sem.run_bind, Sem.run_pure, Result.andThen_ok, List.map_toArray, List.map_cons, List.map_nil, hs, hx, hr]
  exact h A' c' w' h2 h3
theorem step_clone {ops : Array Oper} {o : Oper} {a : Act} {w : World} {K : Act → World → Prop} {Q : Exit → Act → World → Prop} {E : Prop} (hgd : o.guard = none) (x : Operand)
    (ho : o.op = .call { callee := .value (.func 44), args := #[x], argTypes := #[9] }) (s : ByteArray) (hx : a.eval x = .string s) (hs : s.size ≤ 281474976710656)
    (h : ∀ w', Below w.heap.size w w' → K (a.put o.dst (.string s)) w') :
    if Region.wanted o (yielded ops a.tmps) = true then Oper.wp Tryd.prog o a w K Q else E := by
  have hw : Region.wanted o (yielded ops a.tmps) = true := by simp [Region.wanted, hgd]
  rw [if_pos hw]
  have hr : (execOp a.eval o).run Tryd.prog w = .ok (.enter 44 #[.string s]) w := by
    unfold execOp
    simp [ho, resolve, invoke, go_sem]
    revert hx
    cases x <;> simp [Act.eval]
  unfold Oper.wp
  rw [hr, Oper.upon_enter]
  refine (clone_any s w hs).mono ?_
  rintro e w' ⟨rfl, hb⟩
  exact h w' hb
set_option maxHeartbeats 1000000 in
theorem pieces_any (s : ByteArray) (w : World) : Calls Tryd.prog 41 #[.string s] w fun e w' => e = .returned (.func (.func 60) #[] #[.pointer (some ⟨w.heap.size, 0, none⟩)]) ∧ w' = w.alloc (.cells #[.string s] 9) := by
  go_enter Tryd.func41, Tryd.ntmps41
  go_wp2_with (fail)
  go_ret
  exact ⟨rfl, rfl⟩
/-- What stands in memory while a table is read: the result's block, what is left, the table so far. -/
structure RdI (w0 : World) (T : Nat) (s : ByteArray) (A : Option Addr) (c : Nat) (t : Tl) (w : World) : Prop where
  rd : RdW (w0.heap.size + 1) (w0.heap.size + 1 + 1) s w
  tb : Blk w T 27 (tlC A c t)
  res : Blk w w0.heap.size 27 tlZ
  own : Own w w0.heap.size A c t.rs
  bel : Below w0.heap.size w0 w
  far : w0.heap.size + 1 + 1 < T
theorem own_took {w v : World} {n : Nat} {A : Option Addr} {c : Nat} {l : List Rg} {b : Nat} {cs : Array Value} {ty : TypeId} (h : Own w n A c l) (hb : Blk w b ty cs) (hne : 48 ≠ ty) (ho : Only (fun k => k = b) w v) : Own v n A c l :=
  ⟨own_keep h.1 fun g hg => ho.block g (h.1.lt g hg).2 (fun e => own_apart h.1 hb hne (hg.trans (congrArg some e))), h.2⟩
theorem RdI.took {w0 w v : World} {T : Nat} {s s' : ByteArray} {A : Option Addr} {c : Nat} {t : Tl} (h : RdI w0 T s A c t w) (hr : RdW (w0.heap.size + 1) (w0.heap.size + 1 + 1) s' v) (ho : Took (w0.heap.size + 1) w v) : RdI w0 T s' A c t v :=
  ⟨hr, h.tb.only ho (by have := h.far; omega), h.res.only ho (by omega), own_took h.own h.rd.left (by decide) ho, h.bel.trans (ho.toBelow h.bel.size (fun k hk => by omega)), h.far⟩
theorem RdI.below {w0 w v : World} {T : Nat} {s : ByteArray} {A : Option Addr} {c : Nat} {t : Tl} (h : RdI w0 T s A c t w) (hb : Below w.heap.size w v) : RdI w0 T s A c t v :=
  ⟨h.rd.below hb, h.tb.below hb h.tb.lt, h.res.below hb h.res.lt, h.own.below hb, h.bel.trans (hb.mono h.bel.size), h.far⟩
theorem RdI.put {w0 w : World} {T : Nat} {s : ByteArray} {A : Option Addr} {c : Nat} {t t' : Tl} (h : RdI w0 T s A c t w) (i : Nat) (u : Value) (he : (tlC A c t).setIfInBounds i u = tlC A c t') (hrs : t'.rs = t.rs) : RdI w0 T s A c t' (w.setCell ⟨T, i, none⟩ u) := by
  have hf := h.far
  refine ⟨h.rd.far (p := ⟨T, i, none⟩) (by show _ ≠ T; omega) (by show _ ≠ T; omega) u, by rw [← he]; exact h.tb.put i u, h.res.far (p := ⟨T, i, none⟩) (by show _ ≠ T; omega) u, ?_, ?_, hf⟩
  · rw [hrs]
    exact own_took h.own h.tb (by decide) (Only.setCell (p := ⟨T, i, none⟩) (Only.refl (fun k => k = T) w) (.inl rfl) u)
  · exact h.bel.trans (Only.toBelow (Only.setCell (p := ⟨T, i, none⟩) (Only.refl (fun k => k = T) w) (.inl rfl) u) h.bel.size (fun k hk => by omega))
/-- One more registration in the row of one's own, the table's cell set to it. -/
theorem RdI.more {w0 w v : World} {T : Nat} {s : ByteArray} {A A' : Option Addr} {c c' : Nat} {t t' : Tl} {l : List Rg} (h : RdI w0 T s A c t w) (hg : w.grownBy v (Value.slice A t.rs.length c).ownBlock) (ho : Own v w0.heap.size A' c' l) (ht : t' = ⟨l, t.ty, t.ho, t.ge, t.ap⟩) :
    RdI w0 T s A' c' t' (v.setCell ⟨T, 0, none⟩ (.slice A' l.length c')) := by
  subst ht
  have hf := h.far
  have ap : ∀ {b : Nat} {cs : Array Value} {ty : TypeId}, Blk w b ty cs → 48 ≠ ty → some b ≠ (Value.slice A t.rs.length c).ownBlock := fun hb hne e => own_apart h.own.1 hb hne e.symm
  have b1 := h.rd.left.grown hg (ap h.rd.left (by decide))
  have b2 := h.rd.way.grown hg (ap h.rd.way (by decide))
  have b3 := h.tb.grown hg (ap h.tb (by decide))
  have b4 := h.res.grown hg (ap h.res (by decide))
  have bel : Below w0.heap.size w0 v := h.bel.grown hg h.bel.size (fun k hk => (h.own.1.lt k hk).1)
  refine ⟨⟨b1.far (p := ⟨T, 0, none⟩) (by show _ ≠ T; omega) _, b2.far (p := ⟨T, 0, none⟩) (by show _ ≠ T; omega) _⟩, b3.put 0 _, b4.far (p := ⟨T, 0, none⟩) (by show _ ≠ T; omega) _, ?_, ?_, hf⟩
  · exact own_took ho b3 (by decide) (Only.setCell (p := ⟨T, 0, none⟩) (Only.refl (fun k => k = T) v) (.inl rfl) _)
  · exact bel.trans (Only.toBelow (Only.setCell (p := ⟨T, 0, none⟩) (Only.refl (fun k => k = T) v) (.inl rfl) _) bel.size (fun k hk => by omega))
end Go.Proofs.YthedonkjnfeajaaDoor
