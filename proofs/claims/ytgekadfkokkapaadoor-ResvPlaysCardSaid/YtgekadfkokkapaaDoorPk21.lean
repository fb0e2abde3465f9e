/- The document's changes: boxes, results. Two rows of registrations that grow beside one another: who stays, who is struck. The document's preempt: nobody may be struck so. -/
import Derived.Test.YtgekadfkokkapaaDoorPk20
import Derived.Test.YtgekadfkokkapaaDoorPk12
namespace Go.Proofs.YtgekadfkokkapaaDoor
open Go.RowKit
abbrev tdC (A : Option Addr) (c : Nat) (t : Tl) (B : Option Addr) (k : Nat) (es : List Ev) (cd : Int) : Array Value := #[.slice A t.rs.length c, .int .i64 t.ty, .string t.ho, .int .u32 t.ge, .bool t.ap, .slice B es.length k, .int .i64 cd]
abbrev tdV (A : Option Addr) (c : Nat) (t : Tl) (B : Option Addr) (k : Nat) (es : List Ev) (cd : Int) : Value := .agg (tdC A c t B k es cd)
abbrev tdZ : Array Value := #[.slice none 0 0, .int .i64 0, .string ⟨#[]⟩, .int .u32 0, .bool false, .slice none 0 0, .int .i64 0]
theorem size43 : (Tryd.prog.info? 43).map (·.size) = some 7 := by kernel_rfl
/-- The boxes of one of the document's changes. -/
structure RdAt (n0 nb : Nat) (w v : World) (A : Option Addr) (c : Nat) (t : Tl) (m : Cm) : Prop where
  box : Blk v nb 27 (tlC A c t)
  cmd : Blk v (nb + 1) 37 (cmC m)
  res : Blk v (nb + 2) 43 tdZ
  own : Own v n0 A c t.rs
  bel : Below n0 w v
  hn : n0 ≤ nb
section
variable {n0 nb : Nat} {w v v' : World} {A : Option Addr} {c : Nat} {t : Tl} {m : Cm}
theorem RdAt.below (h : RdAt n0 nb w v A c t m) (hb : Below v.heap.size v v') : RdAt n0 nb w v' A c t m :=
  ⟨h.box.below hb h.box.lt, h.cmd.below hb h.cmd.lt, h.res.below hb h.res.lt, h.own.below hb, h.bel.trans (hb.mono (Nat.le_trans h.hn (Nat.le_of_lt h.box.lt))), h.hn⟩
theorem RdAt.lt (h : RdAt n0 nb w v A c t m) : n0 ≤ v.heap.size := Nat.le_trans h.hn (Nat.le_of_lt h.box.lt)
theorem RdAt.from (w : World) (A : Option Addr) (c : Nat) (t : Tl) (m : Cm) (ho : Own w n0 A c t.rs) (hn : n0 ≤ w.heap.size) :
    RdAt n0 w.heap.size w (((w.alloc (.cells (tlC A c t) 27)).alloc (.cells (cmC m) 37)).alloc (.cells tdZ 43)) A c t m := by
  have hb := (((Below.refl w.heap.size w).alloc (Nat.le_refl _) (.cells (tlC A c t) 27)).alloc (by simp) (.cells (cmC m) 37)).alloc (by simp; omega) (.cells tdZ 43)
  refine ⟨((Blk.new w _ _).alloc _).alloc _, ?_, ?_, ho.below hb, hb.mono hn, hn⟩
  · have := (Blk.new (w.alloc (.cells (tlC A c t) 27)) 37 (cmC m)).alloc (.cells tdZ 43)
    simpa using this
  · have := Blk.new ((w.alloc (.cells (tlC A c t) 27)).alloc (.cells (cmC m) 37)) 43 tdZ
    simpa using this
/-- A cell of the table's box written. -/
theorem RdAt.put (h : RdAt n0 nb w v A c t m) (i : Nat) (u : Value) {t' : Tl} (hc : (tlC A c t).setIfInBounds i u = tlC A c t') (hr : t'.rs = t.rs) : RdAt n0 nb w (v.setCell ⟨nb, i, none⟩ u) A c t' m := by
  have hap : (Value.slice A t.rs.length c).ownBlock ≠ some nb := own_apart h.own.1 h.box (by decide)
  refine ⟨by have := h.box.put i u; rw [hc] at this; exact this, h.cmd.far (p := ⟨nb, i, none⟩) (by simp) _, h.res.far (p := ⟨nb, i, none⟩) (by simp) _, ?_, h.bel.trans (bel_put h.hn h.lt i u), h.hn⟩
  rw [hr]
  exact ⟨own_keep h.own.1 fun g hg => Below.heap_setCell v _ _ g (fun e => hap (hg.trans (congrArg some e))), h.own.2⟩
/-- Other registrations stored in it. -/
theorem RdAt.rows (h : RdAt n0 nb w v A c t m) {A' : Option Addr} {c' : Nat} {l : List Rg} (hg : v.grownBy v' (Value.slice A t.rs.length c).ownBlock ∨ Below v.heap.size v v') (ho : Own v' n0 A' c' l) :
    RdAt n0 nb w (v'.setCell ⟨nb, 0, none⟩ (.slice A' l.length c')) A' c' { t with rs := l } m := by
  have hap : (Value.slice A t.rs.length c).ownBlock ≠ some nb := own_apart h.own.1 h.box (by decide)
  have hap1 : (Value.slice A t.rs.length c).ownBlock ≠ some (nb + 1) := own_apart h.own.1 h.cmd (by decide)
  have hap2 : (Value.slice A t.rs.length c).ownBlock ≠ some (nb + 2) := own_apart h.own.1 h.res (by decide)
  obtain ⟨b1, b2, b3, b4, b5⟩ : Blk v' nb 27 (tlC A c t) ∧ Blk v' (nb + 1) 37 (cmC m) ∧ Blk v' (nb + 2) 43 tdZ ∧ Below n0 w v' ∧ n0 ≤ v'.heap.size := by
    rcases hg with hg | hb
    · exact ⟨h.box.grown hg (Ne.symm hap), h.cmd.grown hg (Ne.symm hap1), h.res.grown hg (Ne.symm hap2), h.bel.grown hg h.lt (fun g hgg => (h.own.1.lt g hgg).1), Nat.le_trans h.lt hg.size⟩
    · exact ⟨h.box.below hb h.box.lt, h.cmd.below hb h.cmd.lt, h.res.below hb h.res.lt, h.bel.trans (hb.mono h.lt), Nat.le_trans h.lt hb.size⟩
  have hap' : (Value.slice A' l.length c').ownBlock ≠ some nb := own_apart ho.1 b1 (by decide)
  exact ⟨b1.put 0 _, b2.far (p := ⟨nb, 0, none⟩) (by simp) _, b3.far (p := ⟨nb, 0, none⟩) (by simp) _, ⟨own_keep ho.1 fun g hg => Below.heap_setCell v' _ _ g (fun e => hap' (hg.trans (congrArg some e))), ho.2⟩, b4.trans (bel_put h.hn b5 0 _), h.hn⟩
end
/-- What one of the document's changes comes to. -/
def RdOut (n0 : Nat) (w : World) (t' : Tl) (es : List Ev) (cd : Int) (e : Ending) (w' : World) : Prop :=
  ∃ A' c' B' e', e = .returned (tdV A' c' t' B' e' es cd) ∧ Own w' n0 A' c' t'.rs ∧ OwnE w' n0 B' e' es ∧ Below n0 w w'
theorem td_put {n0 nb : Nat} {w v : World} {A : Option Addr} {c : Nat} {t : Tl} {m : Cm} (h : RdAt n0 nb w v A c t m) {B : Option Addr} {k : Nat} {es : List Ev} (he : OwnE v n0 B k es) (cd : Int) : ∀ V, V = (((((((v.setCell ⟨nb + 1 + 1, 0, none⟩ (.slice A t.rs.length c)).setCell ⟨nb + 1 + 1, 1, none⟩ (.int .i64 t.ty)).setCell ⟨nb + 1 + 1, 2, none⟩ (.string t.ho)).setCell ⟨nb + 1 + 1, 3, none⟩ (.int .u32 t.ge)).setCell ⟨nb + 1 + 1, 4, none⟩ (.bool t.ap)).setCell ⟨nb + 1 + 1, 5, none⟩ (.slice B es.length k)).setCell ⟨nb + 1 + 1, 6, none⟩ (.int .i64 cd)) →
    Blk V (nb + 1 + 1) 43 (tdC A c t B k es cd) ∧ (Own V n0 A c t.rs ∧ OwnE V n0 B k es) ∧ Below n0 w V := by
  rintro V rfl
  have hO : Only (fun k => k = nb + 2) v _ := ((((((((Only.refl (fun k => k = nb + 2) v).setCell (p := ⟨nb + 1 + 1, 0, none⟩) (.inl rfl) (.slice A t.rs.length c)).setCell (p := ⟨nb + 1 + 1, 1, none⟩) (.inl rfl) (.int .i64 t.ty)).setCell (p := ⟨nb + 1 + 1, 2, none⟩) (.inl rfl) (.string t.ho)).setCell (p := ⟨nb + 1 + 1, 3, none⟩) (.inl rfl) (.int .u32 t.ge)).setCell (p := ⟨nb + 1 + 1, 4, none⟩) (.inl rfl) (.bool t.ap)).setCell (p := ⟨nb + 1 + 1, 5, none⟩) (.inl rfl) (.slice B es.length k)).setCell (p := ⟨nb + 1 + 1, 6, none⟩) (.inl rfl) (.int .i64 cd))
  have hap : (Value.slice A t.rs.length c).ownBlock ≠ some (nb + 2) := own_apart h.own.1 h.res (by decide)
  have hae : (Value.slice B es.length k).ownBlock ≠ some (nb + 2) := own_apart he h.res (by decide)
  exact ⟨(((((((h.res.put 0 _).put 1 _).put 2 _).put 3 _).put 4 _).put 5 _).put 6 _), ⟨⟨own_keep h.own.1 fun g hg => hO.block g (h.own.1.lt g hg).2 (fun e => hap (hg.trans (congrArg some e))), h.own.2⟩, own_keep he fun g hg => hO.block g (he.lt g hg).2 (fun e => hae (hg.trans (congrArg some e)))⟩, h.bel.trans (hO.toBelow h.lt (fun k hk => by have := h.hn; omega))⟩
theorem size24 : (Tryd.prog.info? 24).map (·.size) = some 2 := by kernel_rfl
abbrev hoV (ty : Int) (ho : ByteArray) : Value := .agg #[.int .i64 ty, .string ho]
/-- Who holds, by the document. -/
theorem refHold_any (ty : Int) (hh : ByteArray) (w : World) (ht : typeB ty = true) :
    Calls Tryd.prog 62 #[.int .i64 ty, .string hh] w fun e w' => e = .returned (hoV ty (if shB ty then ⟨#[]⟩ else hh)) ∧ Below w.heap.size w w' := by
  have hal : aloB ty = !shB ty := by
    have h1 := type_iff.1 ht
    unfold aloB shB
    by_cases hs : ty = 5 ∨ ty = 6
    · rw [decide_eq_true hs, decide_eq_false (by omega)]; rfl
    · rw [decide_eq_false hs, decide_eq_true (by omega)]; rfl
  have HA := Lib.hid (fun v => alone_any ty v)
  have HO := Lib.hid (fun (ho : ByteArray) => And.intro (Blk.new w 24 #[.int .i64 ty, .string ho]) ((Below.refl w.heap.size w).alloc (Nat.le_refl _) (.cells #[.int .i64 ty, .string ho] 24)))
  clear ht
  cases hs : shB ty with
  | true =>
    rw [show aloB ty = false by rw [hal, hs]; rfl] at HA
    clear hal hs
    go_enter Tryd.func62, Tryd.ntmps62
    go_wp2_with (fail)
    refine (HA.out _).mono ?_; rintro e w1 ⟨rfl, rfl⟩
    go_wp2_with (fail)
    obtain ⟨hK, hB⟩ := HO.out ⟨#[]⟩
    refine bodyPost_ret_by (results_cell_row rfl _ _ w.heap.size 24 #[.int .i64 ty, .string ⟨#[]⟩] (0, 0) _ rfl hK Tryd.underlying24 rfl size24) rfl ?_
    exact ⟨rfl, hB⟩
  | false =>
    rw [show aloB ty = true by rw [hal, hs]; rfl] at HA
    clear hal hs
    go_enter Tryd.func62, Tryd.ntmps62
    go_wp2_with (fail)
    refine (HA.out _).mono ?_; rintro e w1 ⟨rfl, rfl⟩
    go_wp2_with (fail)
    obtain ⟨hK, hB⟩ := HO.out hh
    refine bodyPost_ret_by (results_cell_row rfl _ _ w.heap.size 24 #[.int .i64 ty, .string hh] (0, 0) _ rfl hK Tryd.underlying24 rfl size24) rfl ?_
    exact ⟨rfl, hB⟩
open Go.RowKit
theorem wpList_append_one {ops : Array Oper} {rest : List Oper} {o : Oper} {a : Act} {w : World} {Q : Exit → Act → World → Prop} (hgd : o.guard = none) (s x : Operand)
    (ho : o.op = .call { callee := .builtin .append, args := #[s, x], argTypes := #[22, 22] }) (B : Nat) (A0 : Option Addr) (c0 : Nat) (l0 : List Rg) (hs : a.eval s = .slice A0 l0.length c0) (hown : Own w B A0 c0 l0)
    (b : Nat) (y : Rg) (hx : a.eval x = .slice (some ⟨b, 0, none⟩) 1 1) (hy : y.h.size ≤ maxLen) (hb : Blk w b 57 (regC y)) (hm : l0.length ≤ 100000) (hB : B ≤ w.heap.size)
    (h : ∀ A' c' w', Own w' B A' c' (l0 ++ [y]) → w.grownBy w' (Value.slice A0 l0.length c0).ownBlock → ((Value.slice A' (l0.length + 1) c').ownBlock = (Value.slice A0 l0.length c0).ownBlock ∨ (Value.slice A' (l0.length + 1) c').ownBlock = some w.heap.size) →
      wpList Tryd.prog ops Q rest (a.put o.dst (.slice A' (l0.length + 1) c')) w') : wpList Tryd.prog ops Q (o :: rest) a w := by
  obtain ⟨i0, hi0, hz0, hz1, hz2⟩ := info_parts infoReg
  obtain ⟨v', w', h1, h2, h3, _, h5⟩ := run_append_own_at (P := Tryd.prog) w B 22 o.type 57 i0 _ 2 24 Tryd.underlying22 hi0 hz0 hz1 hz2 rfl (by omega) _ l0.length _ hown.1 ⟨b, 0, none⟩ 1 1 (rgCells [y]) rfl (fun j u hu => by
    rw [Addr.add_lit, Nat.zero_add, hb.cell]
    match j, hu with
    | 0, hu => exact hu
    | 1, hu => exact hu) rgCells_one (by unfold maxLen; omega) (by omega) hB
  obtain ⟨A', c', rfl⟩ := own_form h2
  have hO : Own w' B A' c' (l0 ++ [y]) := ⟨by rw [List.length_append, rgCells_append]; exact h2, fun x hx => (List.mem_append.1 hx).elim (hown.2 x) (fun hx => by rw [List.mem_singleton.1 hx]; exact hy)⟩
  refine wpList_plain hgd fun K hK => ?_
  unfold Oper.wp execOp
  simp only [ho, resolve, invoke, builtin, Sem.run_bind, Sem.run_pure, Result.andThen_ok, List.map_toArray, List.map_cons, List.map_nil, hs, hx, h1]
  exact hK _ _ (h A' c' w' hO h3 h5)
/-- The boxes of the document's preempt, and the two rows that it makes. -/
structure PrI (n0 nb : Nat) (w v : World) (A : Option Addr) (c : Nat) (t : Tl) (m : Cm) (Sa : Option Addr) (Sk : Nat) (S : List Rg) (Ua : Option Addr) (Uk : Nat) (U : List Rg) : Prop where
  r : RdAt n0 nb w v A c t m
  s : Own v n0 Sa Sk S
  u : Own v n0 Ua Uk U
  su : ∀ g, (Value.slice Sa S.length Sk).ownBlock = some g → (Value.slice Ua U.length Uk).ownBlock ≠ some g
  st : ∀ g, (Value.slice Sa S.length Sk).ownBlock = some g → (Value.slice A t.rs.length c).ownBlock ≠ some g
  ut : ∀ g, (Value.slice Ua U.length Uk).ownBlock = some g → (Value.slice A t.rs.length c).ownBlock ≠ some g
section
variable {n0 nb : Nat} {w v v' : World} {A : Option Addr} {c : Nat} {t : Tl} {m : Cm} {Sa Ua : Option Addr} {Sk Uk : Nat} {S U : List Rg}
theorem PrI.first (h : RdAt n0 nb w v A c t m) : PrI n0 nb w v A c t m none 0 [] none 0 [] :=
  ⟨h, Own.nil _ _, Own.nil _ _, fun g hg => by simp [Value.ownBlock] at hg, fun g hg => by simp [Value.ownBlock] at hg, fun g hg => by simp [Value.ownBlock] at hg⟩
theorem PrI.below (h : PrI n0 nb w v A c t m Sa Sk S Ua Uk U) (hb : Below v.heap.size v v') : PrI n0 nb w v' A c t m Sa Sk S Ua Uk U :=
  ⟨h.r.below hb, h.s.below hb, h.u.below hb, h.su, h.st, h.ut⟩
/-- What a row's growing leaves as it was. -/
theorem RdAt.grow (h : RdAt n0 nb w v A c t m) (hs : Own v n0 Sa Sk S) (hst : ∀ g, (Value.slice Sa S.length Sk).ownBlock = some g → (Value.slice A t.rs.length c).ownBlock ≠ some g) (hg : v.grownBy v' (Value.slice Sa S.length Sk).ownBlock) : RdAt n0 nb w v' A c t m := by
  have a1 : (Value.slice Sa S.length Sk).ownBlock ≠ some nb := own_apart hs.1 h.box (by decide)
  have a2 : (Value.slice Sa S.length Sk).ownBlock ≠ some (nb + 1) := own_apart hs.1 h.cmd (by decide)
  have a3 : (Value.slice Sa S.length Sk).ownBlock ≠ some (nb + 2) := own_apart hs.1 h.res (by decide)
  exact ⟨h.box.grown hg (Ne.symm a1), h.cmd.grown hg (Ne.symm a2), h.res.grown hg (Ne.symm a3), ⟨own_keep h.own.1 fun g hgg => hg.block g (h.own.1.lt g hgg).2 (fun e => hst g e.symm hgg), h.own.2⟩, h.bel.grown hg h.lt (fun g hgg => (hs.1.lt g hgg).1), h.hn⟩
theorem own_grow {Ba Ca : Option Addr} {Bk Ck : Nat} {X Y : List Rg} (h : Own v n0 Ba Bk X) (hne : ∀ g, (Value.slice Ca Y.length Ck).ownBlock = some g → (Value.slice Ba X.length Bk).ownBlock ≠ some g) (hg : v.grownBy v' (Value.slice Ca Y.length Ck).ownBlock) : Own v' n0 Ba Bk X :=
  ⟨own_keep h.1 fun g hgg => hg.block g (h.1.lt g hgg).2 (fun e => hne g e.symm hgg), h.2⟩
theorem PrI.stay (h : PrI n0 nb w v A c t m Sa Sk S Ua Uk U) {S' : Option Addr} {k' : Nat} {x : Rg} (ho : Own v' n0 S' k' (S ++ [x])) (hg : v.grownBy v' (Value.slice Sa S.length Sk).ownBlock)
    (hn : (Value.slice S' (S.length + 1) k').ownBlock = (Value.slice Sa S.length Sk).ownBlock ∨ (Value.slice S' (S.length + 1) k').ownBlock = some v.heap.size) : PrI n0 nb w v' A c t m S' k' (S ++ [x]) Ua Uk U := by
  have hl : (S ++ [x]).length = S.length + 1 := by simp
  refine ⟨h.r.grow h.s h.st hg, ho, own_grow h.u h.su hg, fun g hgg hu => ?_, fun g hgg hu => ?_, h.ut⟩
  · rw [hl] at hgg
    rcases hn with e | e
    · exact h.su g (e.symm.trans hgg) hu
    · rw [e] at hgg
      have := (h.u.1.lt g hu).2
      have := Option.some.inj hgg
      omega
  · rw [hl] at hgg
    rcases hn with e | e
    · exact h.st g (e.symm.trans hgg) hu
    · rw [e] at hgg
      have := (h.r.own.1.lt g hu).2
      have := Option.some.inj hgg
      omega
theorem PrI.struck (h : PrI n0 nb w v A c t m Sa Sk S Ua Uk U) {U' : Option Addr} {k' : Nat} {x : Rg} (ho : Own v' n0 U' k' (U ++ [x])) (hg : v.grownBy v' (Value.slice Ua U.length Uk).ownBlock)
    (hn : (Value.slice U' (U.length + 1) k').ownBlock = (Value.slice Ua U.length Uk).ownBlock ∨ (Value.slice U' (U.length + 1) k').ownBlock = some v.heap.size) : PrI n0 nb w v' A c t m Sa Sk S U' k' (U ++ [x]) := by
  have hl : (U ++ [x]).length = U.length + 1 := by simp
  refine ⟨h.r.grow h.u h.ut hg, own_grow h.s (fun g hu hs => h.su g hs hu) hg, ho, fun g hs hgg => ?_, h.st, fun g hgg hu => ?_⟩
  · rw [hl] at hgg
    rcases hn with e | e
    · exact h.su g hs (e.symm.trans hgg)
    · rw [e] at hgg
      have := (h.s.1.lt g hs).2
      have := Option.some.inj hgg
      omega
  · rw [hl] at hgg
    rcases hn with e | e
    · exact h.ut g (e.symm.trans hgg) hu
    · rw [e] at hgg
      have := (h.r.own.1.lt g hu).2
      have := Option.some.inj hgg
      omega
end
/-- Whom the document strikes. -/
def strB (al : Bool) (m : Cm) : Rg → Bool := fun r => !eqS r.h m.ho && (al || decide (r.k = m.ot))
theorem str_isR {t : Tl} {m : Cm} : strB (allB t m) m = isR t m := by
  funext r
  show (!eqS r.h m.ho && (allB t m || decide (r.k = m.ot))) = (!eqS r.h m.ho && (decide (r.k = m.ot) || allB t m))
  rw [Bool.or_comm]
open Go.RowKit
set_option maxRecDepth 100000 in
set_option maxHeartbeats 4000000 in
theorem refPre_wz (n0 : Nat) (A : Option Addr) (c : Nat) (t : Tl) (m : Cm) (w : World) (ho : Own w n0 A c t.rs) (hn : n0 ≤ w.heap.size) (hm : t.rs.length ≤ 200) (hty : typeB m.ty = true) (h5 : ¬ (4 : Int) < t.ty) (halo : aloB t.ty = false) (z0 : (m.ot == 0) = true) :
    Calls Tryd.prog 43 #[tlV A c t, cmV m] w (RdOut n0 w (t) ([]) (5)) := by
  have R0 := Lib.hid (RdAt.from w A c t m ho hn)
  have HM := Lib.hid (show t.rs.length ≤ maxLen by unfold maxLen; omega)
  have HM2 := Lib.hid hm
  have hnt := not_true
  have hnf := not_false
  obtain ⟨nb, hnb⟩ : ∃ nb, nb = w.heap.size := ⟨_, rfl⟩
  have HTy := Lib.hid hty
  clear ho hn hm hty
  go_enter Tryd.func43, Tryd.ntmps43
  go_upto_region 1 with (fail)
  change Code.wp _ _ _ _ (((w.alloc (.cells (tlC A c t) 27)).alloc (.cells (cmC m) 37)).alloc (.cells tdZ 43))
  generalize ((w.alloc (.cells (tlC A c t) 27)).alloc (.cells (cmC m) 37)).alloc (.cells tdZ 43) = v0 at *
  rw [← hnb] at R0 ⊢
  clear hnb
  have c0 : v0.cell? ⟨nb, 0, none⟩ = some (.slice A t.rs.length c) := R0.out.box.cell 0
  have c1 : v0.cell? ⟨nb, 1, none⟩ = some (.int .i64 t.ty) := R0.out.box.cell 1
  have c2 : v0.cell? ⟨nb, 2, none⟩ = some (.string t.ho) := R0.out.box.cell 2
  have c3 : v0.cell? ⟨nb, 3, none⟩ = some (.int .u32 t.ge) := R0.out.box.cell 3
  have c4 : v0.cell? ⟨nb, 4, none⟩ = some (.bool t.ap) := R0.out.box.cell 4
  have m10 : v0.cell? ⟨nb + 1, 10, none⟩ = some (.int .u64 m.ot) := R0.out.cmd.cell 10
  go_upto_region 2 with (fail)
  obtain ⟨C, hC0, hCl, hCi, hCm⟩ := class_of v0 (fun v => RdAt n0 nb w v A c t m) (fun v hb => R0.out.below hb)
  have HC0 := Lib.hid hC0; have HL := Lib.hid hCl; have HCm := Lib.hid hCm
  clear hC0 hCl hCi hCm m10
  clear c0 c1 c2 c3 c4
  have HA := Lib.hid (fun u => alone_any t.ty u)
  rw [halo] at HA
  refine wp_region_class C (by kernel_rfl) (by kernel_rfl) HC0.out ?_
  go_big_quiet_want
  go_big_quiet_op
  first | go_big_quiet_on | (refine ⟨_, fun _ _ => rfl, ?_⟩; go_big_quiet_on)
  go_big_quiet_want
  go_big_quiet_op
  first | go_big_quiet_on | (refine ⟨_, fun _ _ => rfl, ?_⟩; go_big_quiet_on)
  go_big_quiet_want
  go_big_quiet_op
  first | go_big_quiet_on | (refine ⟨_, fun _ _ => rfl, ?_⟩; go_big_quiet_on)
  go_big_quiet_want
  go_big_quiet_op
  first | go_big_quiet_on | (refine ⟨_, fun _ _ => rfl, ?_⟩; go_big_quiet_on)
  go_big_quiet_want
  refine quiet_run (v := .int .i64 t.ty) (fun v hv => by have h := HL.out v hv; have c0 : v.cell? ⟨nb, 0, none⟩ = some (.slice A t.rs.length c) := h.box.cell 0; have c1 : v.cell? ⟨nb, 1, none⟩ = some (.int .i64 t.ty) := h.box.cell 1; have c2 : v.cell? ⟨nb, 2, none⟩ = some (.string t.ho) := h.box.cell 2; have c3 : v.cell? ⟨nb, 3, none⟩ = some (.int .u32 t.ge) := h.box.cell 3; have c4 : v.cell? ⟨nb, 4, none⟩ = some (.bool t.ap) := h.box.cell 4; have m10 : v.cell? ⟨nb + 1, 10, none⟩ = some (.int .u64 m.ot) := h.cmd.cell 10; go_simp) ?_
  simp only [Act.put, List.setIfInBounds_toArray, List.set_cons_zero, List.set_cons_succ]
  go_big_quiet_on
  go_big_quiet_want
  refine quiet_call (f := 32) (args := #[.int .i64 t.ty]) (fun v _ => by go_simp) (fun v hv => (HA.out v).mono (fun e w' h => ⟨h.1, h.2 ▸ hv⟩)) ?_
  simp only [Act.put, List.setIfInBounds_toArray, List.set_cons_zero, List.set_cons_succ]
  go_big_quiet_on
  go_big_quiet_want
  go_big_quiet_op
  first | go_big_quiet_on | (refine ⟨_, fun _ _ => rfl, ?_⟩; go_big_quiet_on)
  go_big_quiet_skip
  go_big_quiet_skip
  go_big_quiet_skip
  go_big_quiet_skip
  go_big_quiet_skip
  go_big_quiet_skip
  go_big_quiet_skip
  go_big_quiet_skip
  go_big_quiet_want
  go_big_quiet_op
  first | go_big_quiet_on | (refine ⟨_, fun _ _ => rfl, ?_⟩; go_big_quiet_on)
  go_big_quiet_want
  go_big_quiet_op
  first | go_big_quiet_on | (refine ⟨_, fun _ _ => rfl, ?_⟩; go_big_quiet_on)
  go_big_quiet_want
  go_big_quiet_op
  first | go_big_quiet_on | (refine ⟨_, fun _ _ => rfl, ?_⟩; go_big_quiet_on)
  intro v1 hC1
  have R1 := Lib.hid (HL.out v1 hC1)
  clear hC1 HC0 HL HCm R0
  have m10 : v1.cell? ⟨nb + 1, 10, none⟩ = some (.int .u64 m.ot) := R1.out.cmd.cell 10
  have c0 : v1.cell? ⟨nb, 0, none⟩ = some (.slice A t.rs.length c) := R1.out.box.cell 0
  have c1 : v1.cell? ⟨nb, 1, none⟩ = some (.int .i64 t.ty) := R1.out.box.cell 1
  have c2 : v1.cell? ⟨nb, 2, none⟩ = some (.string t.ho) := R1.out.box.cell 2
  have c3 : v1.cell? ⟨nb, 3, none⟩ = some (.int .u32 t.ge) := R1.out.box.cell 3
  have c4 : v1.cell? ⟨nb, 4, none⟩ = some (.bool t.ap) := R1.out.box.cell 4
  have r0 : v1.cell? ⟨nb + 1 + 1, 0, none⟩ = some (.slice none 0 0) := R1.out.res.cell 0
  have q0 : v1.frozen? ⟨nb + 1 + 1, 0, none⟩ = false := R1.out.res.free 0
  have r1 : v1.cell? ⟨nb + 1 + 1, 1, none⟩ = some (.int .i64 0) := R1.out.res.cell 1
  have q1 : v1.frozen? ⟨nb + 1 + 1, 1, none⟩ = false := R1.out.res.free 1
  have r2 : v1.cell? ⟨nb + 1 + 1, 2, none⟩ = some (.string ⟨#[]⟩) := R1.out.res.cell 2
  have q2 : v1.frozen? ⟨nb + 1 + 1, 2, none⟩ = false := R1.out.res.free 2
  have r3 : v1.cell? ⟨nb + 1 + 1, 3, none⟩ = some (.int .u32 0) := R1.out.res.cell 3
  have q3 : v1.frozen? ⟨nb + 1 + 1, 3, none⟩ = false := R1.out.res.free 3
  have r4 : v1.cell? ⟨nb + 1 + 1, 4, none⟩ = some (.bool false) := R1.out.res.cell 4
  have q4 : v1.frozen? ⟨nb + 1 + 1, 4, none⟩ = false := R1.out.res.free 4
  have r5 : v1.cell? ⟨nb + 1 + 1, 5, none⟩ = some (.slice none 0 0) := R1.out.res.cell 5
  have q5 : v1.frozen? ⟨nb + 1 + 1, 5, none⟩ = false := R1.out.res.free 5
  have r6 : v1.cell? ⟨nb + 1 + 1, 6, none⟩ = some (.int .i64 0) := R1.out.res.cell 6
  have q6 : v1.frozen? ⟨nb + 1 + 1, 6, none⟩ = false := R1.out.res.free 6
  go_wp2_with (fail)
  obtain ⟨hK, hO, hB⟩ := td_put R1.out (OwnE.nil v1 n0) (5) _ rfl
  refine bodyPost_ret_by (results_cell_row rfl _ _ (nb + 1 + 1) 43 (tdC A c (t) none 0 ([]) (5)) (0, 0) _ rfl hK Tryd.underlying43 rfl size43) rfl ?_
  exact ⟨A, c, none, 0, rfl, hO.1, hO.2, hB⟩
set_option maxRecDepth 100000 in
set_option maxHeartbeats 4000000 in
theorem refPre_wn (n0 : Nat) (A : Option Addr) (c : Nat) (t : Tl) (m : Cm) (w : World) (ho : Own w n0 A c t.rs) (hn : n0 ≤ w.heap.size) (hm : t.rs.length ≤ 200) (hty : typeB m.ty = true) (h5 : ¬ (4 : Int) < t.ty) (halo : aloB t.ty = true) (hkq : (keyR t.rs t.ho == m.ot) = false) (z0 : (m.ot == 0) = true) :
    Calls Tryd.prog 43 #[tlV A c t, cmV m] w (RdOut n0 w (t) ([]) (5)) := by
  have R0 := Lib.hid (RdAt.from w A c t m ho hn)
  have HM := Lib.hid (show t.rs.length ≤ maxLen by unfold maxLen; omega)
  have HM2 := Lib.hid hm
  have hnt := not_true
  have hnf := not_false
  obtain ⟨nb, hnb⟩ : ∃ nb, nb = w.heap.size := ⟨_, rfl⟩
  have HTy := Lib.hid hty
  clear ho hn hm hty
  go_enter Tryd.func43, Tryd.ntmps43
  go_upto_region 1 with (fail)
  change Code.wp _ _ _ _ (((w.alloc (.cells (tlC A c t) 27)).alloc (.cells (cmC m) 37)).alloc (.cells tdZ 43))
  generalize ((w.alloc (.cells (tlC A c t) 27)).alloc (.cells (cmC m) 37)).alloc (.cells tdZ 43) = v0 at *
  rw [← hnb] at R0 ⊢
  clear hnb
  have c0 : v0.cell? ⟨nb, 0, none⟩ = some (.slice A t.rs.length c) := R0.out.box.cell 0
  have c1 : v0.cell? ⟨nb, 1, none⟩ = some (.int .i64 t.ty) := R0.out.box.cell 1
  have c2 : v0.cell? ⟨nb, 2, none⟩ = some (.string t.ho) := R0.out.box.cell 2
  have c3 : v0.cell? ⟨nb, 3, none⟩ = some (.int .u32 t.ge) := R0.out.box.cell 3
  have c4 : v0.cell? ⟨nb, 4, none⟩ = some (.bool t.ap) := R0.out.box.cell 4
  have m10 : v0.cell? ⟨nb + 1, 10, none⟩ = some (.int .u64 m.ot) := R0.out.cmd.cell 10
  go_upto_region 2 with (fail)
  obtain ⟨C, hC0, hCl, hCi, hCm⟩ := class_of v0 (fun v => RdAt n0 nb w v A c t m) (fun v hb => R0.out.below hb)
  have HC0 := Lib.hid hC0; have HL := Lib.hid hCl; have HCm := Lib.hid hCm
  clear hC0 hCl hCi hCm m10
  clear c0 c1 c2 c3 c4
  have HA := Lib.hid (fun u => alone_any t.ty u)
  rw [halo] at HA
  have HK := Lib.hid (fun v (hv : C v) => refKey_any A c t t.ho v (HL.out v hv).own.rgs HM.out)
  refine wp_region_class C (by kernel_rfl) (by kernel_rfl) HC0.out ?_
  go_big_quiet_want
  go_big_quiet_op
  first | go_big_quiet_on | (refine ⟨_, fun _ _ => rfl, ?_⟩; go_big_quiet_on)
  go_big_quiet_want
  go_big_quiet_op
  first | go_big_quiet_on | (refine ⟨_, fun _ _ => rfl, ?_⟩; go_big_quiet_on)
  go_big_quiet_want
  go_big_quiet_op
  first | go_big_quiet_on | (refine ⟨_, fun _ _ => rfl, ?_⟩; go_big_quiet_on)
  go_big_quiet_want
  go_big_quiet_op
  first | go_big_quiet_on | (refine ⟨_, fun _ _ => rfl, ?_⟩; go_big_quiet_on)
  go_big_quiet_want
  refine quiet_run (v := .int .i64 t.ty) (fun v hv => by have h := HL.out v hv; have c0 : v.cell? ⟨nb, 0, none⟩ = some (.slice A t.rs.length c) := h.box.cell 0; have c1 : v.cell? ⟨nb, 1, none⟩ = some (.int .i64 t.ty) := h.box.cell 1; have c2 : v.cell? ⟨nb, 2, none⟩ = some (.string t.ho) := h.box.cell 2; have c3 : v.cell? ⟨nb, 3, none⟩ = some (.int .u32 t.ge) := h.box.cell 3; have c4 : v.cell? ⟨nb, 4, none⟩ = some (.bool t.ap) := h.box.cell 4; have m10 : v.cell? ⟨nb + 1, 10, none⟩ = some (.int .u64 m.ot) := h.cmd.cell 10; go_simp) ?_
  simp only [Act.put, List.setIfInBounds_toArray, List.set_cons_zero, List.set_cons_succ]
  go_big_quiet_on
  go_big_quiet_want
  refine quiet_call (f := 32) (args := #[.int .i64 t.ty]) (fun v _ => by go_simp) (fun v hv => (HA.out v).mono (fun e w' h => ⟨h.1, h.2 ▸ hv⟩)) ?_
  simp only [Act.put, List.setIfInBounds_toArray, List.set_cons_zero, List.set_cons_succ]
  go_big_quiet_on
  go_big_quiet_want
  go_big_quiet_op
  first | go_big_quiet_on | (refine ⟨_, fun _ _ => rfl, ?_⟩; go_big_quiet_on)
  go_big_quiet_want
  refine quiet_run (v := tlV A c t) (fun v hv => by have h := HL.out v hv; have c0 : v.cell? ⟨nb, 0, none⟩ = some (.slice A t.rs.length c) := h.box.cell 0; have c1 : v.cell? ⟨nb, 1, none⟩ = some (.int .i64 t.ty) := h.box.cell 1; have c2 : v.cell? ⟨nb, 2, none⟩ = some (.string t.ho) := h.box.cell 2; have c3 : v.cell? ⟨nb, 3, none⟩ = some (.int .u32 t.ge) := h.box.cell 3; have c4 : v.cell? ⟨nb, 4, none⟩ = some (.bool t.ap) := h.box.cell 4; have m10 : v.cell? ⟨nb + 1, 10, none⟩ = some (.int .u64 m.ot) := h.cmd.cell 10; go_simp) ?_
  simp only [Act.put, List.setIfInBounds_toArray, List.set_cons_zero, List.set_cons_succ]
  go_big_quiet_on
  go_big_quiet_want
  go_big_quiet_op
  first | go_big_quiet_on | (refine ⟨_, fun _ _ => rfl, ?_⟩; go_big_quiet_on)
  go_big_quiet_want
  go_big_quiet_op
  first | go_big_quiet_on | (refine ⟨_, fun _ _ => rfl, ?_⟩; go_big_quiet_on)
  go_big_quiet_want
  refine quiet_run (v := .string t.ho) (fun v hv => by have h := HL.out v hv; have c0 : v.cell? ⟨nb, 0, none⟩ = some (.slice A t.rs.length c) := h.box.cell 0; have c1 : v.cell? ⟨nb, 1, none⟩ = some (.int .i64 t.ty) := h.box.cell 1; have c2 : v.cell? ⟨nb, 2, none⟩ = some (.string t.ho) := h.box.cell 2; have c3 : v.cell? ⟨nb, 3, none⟩ = some (.int .u32 t.ge) := h.box.cell 3; have c4 : v.cell? ⟨nb, 4, none⟩ = some (.bool t.ap) := h.box.cell 4; have m10 : v.cell? ⟨nb + 1, 10, none⟩ = some (.int .u64 m.ot) := h.cmd.cell 10; go_simp) ?_
  simp only [Act.put, List.setIfInBounds_toArray, List.set_cons_zero, List.set_cons_succ]
  go_big_quiet_on
  go_big_quiet_want
  refine quiet_call (f := 17) (args := #[tlV A c t, .string t.ho]) (fun v _ => by go_simp) (fun v hv => (HK.out v hv).mono (fun e w' h => ⟨h.1, HCm.out v w' hv h.2⟩)) ?_
  simp only [Act.put, List.setIfInBounds_toArray, List.set_cons_zero, List.set_cons_succ]
  go_big_quiet_on
  go_big_quiet_want
  go_big_quiet_op
  first | go_big_quiet_on | (refine ⟨_, fun _ _ => rfl, ?_⟩; go_big_quiet_on)
  go_big_quiet_want
  refine quiet_run (v := .int .u64 m.ot) (fun v hv => by have h := HL.out v hv; have c0 : v.cell? ⟨nb, 0, none⟩ = some (.slice A t.rs.length c) := h.box.cell 0; have c1 : v.cell? ⟨nb, 1, none⟩ = some (.int .i64 t.ty) := h.box.cell 1; have c2 : v.cell? ⟨nb, 2, none⟩ = some (.string t.ho) := h.box.cell 2; have c3 : v.cell? ⟨nb, 3, none⟩ = some (.int .u32 t.ge) := h.box.cell 3; have c4 : v.cell? ⟨nb, 4, none⟩ = some (.bool t.ap) := h.box.cell 4; have m10 : v.cell? ⟨nb + 1, 10, none⟩ = some (.int .u64 m.ot) := h.cmd.cell 10; go_simp) ?_
  simp only [Act.put, List.setIfInBounds_toArray, List.set_cons_zero, List.set_cons_succ]
  go_big_quiet_on
  go_big_quiet_want
  go_big_quiet_op
  first | go_big_quiet_on | (refine ⟨_, fun _ _ => rfl, ?_⟩; go_big_quiet_on)
  go_big_quiet_want
  go_big_quiet_op
  first | go_big_quiet_on | (refine ⟨_, fun _ _ => rfl, ?_⟩; go_big_quiet_on)
  go_big_quiet_want
  go_big_quiet_op
  first | go_big_quiet_on | (refine ⟨_, fun _ _ => rfl, ?_⟩; go_big_quiet_on)
  go_big_quiet_want
  go_big_quiet_op
  first | go_big_quiet_on | (refine ⟨_, fun _ _ => rfl, ?_⟩; go_big_quiet_on)
  intro v1 hC1
  have R1 := Lib.hid (HL.out v1 hC1)
  clear hC1 HC0 HL HCm R0
  have m10 : v1.cell? ⟨nb + 1, 10, none⟩ = some (.int .u64 m.ot) := R1.out.cmd.cell 10
  have c0 : v1.cell? ⟨nb, 0, none⟩ = some (.slice A t.rs.length c) := R1.out.box.cell 0
  have c1 : v1.cell? ⟨nb, 1, none⟩ = some (.int .i64 t.ty) := R1.out.box.cell 1
  have c2 : v1.cell? ⟨nb, 2, none⟩ = some (.string t.ho) := R1.out.box.cell 2
  have c3 : v1.cell? ⟨nb, 3, none⟩ = some (.int .u32 t.ge) := R1.out.box.cell 3
  have c4 : v1.cell? ⟨nb, 4, none⟩ = some (.bool t.ap) := R1.out.box.cell 4
  have r0 : v1.cell? ⟨nb + 1 + 1, 0, none⟩ = some (.slice none 0 0) := R1.out.res.cell 0
  have q0 : v1.frozen? ⟨nb + 1 + 1, 0, none⟩ = false := R1.out.res.free 0
  have r1 : v1.cell? ⟨nb + 1 + 1, 1, none⟩ = some (.int .i64 0) := R1.out.res.cell 1
  have q1 : v1.frozen? ⟨nb + 1 + 1, 1, none⟩ = false := R1.out.res.free 1
  have r2 : v1.cell? ⟨nb + 1 + 1, 2, none⟩ = some (.string ⟨#[]⟩) := R1.out.res.cell 2
  have q2 : v1.frozen? ⟨nb + 1 + 1, 2, none⟩ = false := R1.out.res.free 2
  have r3 : v1.cell? ⟨nb + 1 + 1, 3, none⟩ = some (.int .u32 0) := R1.out.res.cell 3
  have q3 : v1.frozen? ⟨nb + 1 + 1, 3, none⟩ = false := R1.out.res.free 3
  have r4 : v1.cell? ⟨nb + 1 + 1, 4, none⟩ = some (.bool false) := R1.out.res.cell 4
  have q4 : v1.frozen? ⟨nb + 1 + 1, 4, none⟩ = false := R1.out.res.free 4
  have r5 : v1.cell? ⟨nb + 1 + 1, 5, none⟩ = some (.slice none 0 0) := R1.out.res.cell 5
  have q5 : v1.frozen? ⟨nb + 1 + 1, 5, none⟩ = false := R1.out.res.free 5
  have r6 : v1.cell? ⟨nb + 1 + 1, 6, none⟩ = some (.int .i64 0) := R1.out.res.cell 6
  have q6 : v1.frozen? ⟨nb + 1 + 1, 6, none⟩ = false := R1.out.res.free 6
  go_wp2_with (fail)
  obtain ⟨hK, hO, hB⟩ := td_put R1.out (OwnE.nil v1 n0) (5) _ rfl
  refine bodyPost_ret_by (results_cell_row rfl _ _ (nb + 1 + 1) 43 (tdC A c (t) none 0 ([]) (5)) (0, 0) _ rfl hK Tryd.underlying43 rfl size43) rfl ?_
  exact ⟨A, c, none, 0, rfl, hO.1, hO.2, hB⟩
end Go.Proofs.YtgekadfkokkapaaDoor
