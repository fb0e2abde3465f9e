/- Changes of many hosts, one behind the other: what the walk stands on. -/
import Derived.Test.YtgekadfkokkapaaDoorPk31
import Derived.Test.YtgekadfkokkapaaDoorPk33
namespace Go.Proofs.YtgekadfkokkapaaDoor
open Go.RowKit
theorem share6 {T : Prop} {G : World → Nat → Option Addr → Nat → Option Addr → Nat → Prop} (F : World → Nat → Option Addr → Nat → Option Addr → Nat → Prop)
    (main : (∀ v p A6 c6 B6 e6, F v p A6 c6 B6 e6 → G v p A6 c6 B6 e6) → T) (pf : ∀ v p A6 c6 B6 e6, F v p A6 c6 B6 e6 → G v p A6 c6 B6 e6) : T := main pf
section
variable {P : Program} {ops : Array Oper} {o : Oper} {a : Act} {w : World} {K : Act → World → Prop} {Q : Exit → Act → World → Prop} {E : Prop}
theorem step_load_at (hw : Region.wanted o (yielded ops a.tmps) = true) (ty : TypeId) (x : Operand) (ho : o.op = .load ty x)
    (b i : Nat) (hx : a.eval x = .pointer (some ⟨b, i, none⟩)) (cs : Array Value) (hc : ∀ (j : Nat) (v : Value), cs[j]? = some v → w.cell? ⟨b, i + j, none⟩ = some v) (d : TypeDesc)
    (hu : P.underlying ty = some d) (hd : (match d with | .struct _ | .array _ _ => true | _ => false) = true) (hi : (P.info? ty).map (·.size) = some cs.size)
    (d0 : Option Tmp) (hd0 : o.dst = d0) (h : K (a.put d0 (.agg cs)) w) : if Region.wanted o (yielded ops a.tmps) = true then Oper.wp P o a w K Q else E := by
  subst hd0
  rw [if_pos hw]
  have hl : (loadCells ⟨b, i, none⟩ cs.toList.length).run P w = .ok cs.toList.toArray w :=
    run_loadCells_list (P := P) w ⟨b, i, none⟩ cs.toList (fun j v hv => by
      have hadd : (⟨b, i, none⟩ : Addr).add j = ⟨b, i + j, none⟩ := by unfold Addr.add; split <;> simp_all
      rw [hadd]
      exact hc j v (by simpa using hv))
  simp only [Array.length_toList, Array.toArray_toList] at hl
  have hr : (loadVar ty ⟨b, i, none⟩).run P w = .ok (.agg cs) w := by
    cases hq : P.info? ty with
    | none => simp [hq] at hi
    | some z =>
      have hs : z.size = cs.size := by simpa [hq] using hi
      have hagg : (isAgg ty).run P w = .ok true w := by
        unfold isAgg
        rw [Sem.run_bind, run_underlying hu w]
        cases d <;> simp_all
      simp [loadVar, Sem.run_bind, hagg, sizeOf, typeInfo, hq, hs, hl]
  unfold Oper.wp execOp
  simp only [ho, hx, Instr.loadAt, Instr.sureAddr, Sem.run_bind, Sem.run_pure, Result.andThen_ok, hr]
  exact h
end
theorem tdC_one (A : Option Addr) (c : Nat) (t : Tl) (B : Option Addr) (k : Nat) (es : List Ev) (cd : Int) : (tdC A c t B k es cd).all (·.oneCell') = true := by simp [tdC, Value.oneCell']
theorem td_tl {A : Option Addr} {c : Nat} {t : Tl} {B : Option Addr} {k : Nat} {es : List Ev} {cd : Int} {j : Nat} {x : Value} (h : (tlC A c t)[j]? = some x) : (tdC A c t B k es cd)[j]? = some x := by
  rcases j with _ | _ | _ | _ | _ | j
  · exact h
  · exact h
  · exact h
  · exact h
  · exact h
  · simp [tlC] at h
theorem refDo_as {A : Option Addr} {c : Nat} {t : Tl} {m : Cm} {w : World} {u : Tl} {ev : List Ev} {cd : Int} (hl : Rgs w A t.rs) (hm : t.rs.length ≤ 200) (hs : m.ho.size ≤ 1000) (h1 : doT t m = u) (h2 : doE t m = ev) (h3 : doC t m = cd) :
    Calls Tryd.prog 23 #[tlV A c t, cmV m] w (RdOut w.heap.size w u ev cd) := by
  subst h1 h2 h3
  exact refDo_all w.heap.size A c t m w rfl hl hm hs
/-- What the document tells, in a box of its own. -/
def TdBox (w0 : World) (u : Tl) (ev : List Ev) (cd : Int) (v : World) (p : Nat) (A6 : Option Addr) (c6 : Nat) (B6 : Option Addr) (e6 : Nat) : Prop :=
  Below w0.heap.size w0 v ∧ w0.heap.size ≤ p ∧ Blk v p 43 (tdC A6 c6 u B6 e6 ev cd) ∧ Own v w0.heap.size A6 c6 u.rs ∧ OwnE v w0.heap.size B6 e6 ev
theorem TdBox.made {w0 v v' : World} {u : Tl} {ev : List Ev} {cd : Int} {p : Nat} {A6 : Option Addr} {c6 : Nat} {B6 : Option Addr} {e6 : Nat} (hb : Below w0.heap.size w0 v) (hp : w0.heap.size ≤ p) (hz : Blk v p 43 tdZ) (ho : Own v w0.heap.size A6 c6 u.rs) (he : OwnE v w0.heap.size B6 e6 ev)
    (hk : Blk v' p 43 (tdC A6 c6 u B6 e6 ev cd)) (hon : Only (fun k => k = p) v v') : TdBox w0 u ev cd v' p A6 c6 B6 e6 := by
  have hap : (Value.slice A6 u.rs.length c6).ownBlock ≠ some p := own_apart ho.1 hz (by decide)
  have hae : (Value.slice B6 ev.length e6).ownBlock ≠ some p := own_apart he hz (by decide)
  exact ⟨hb.trans (hon.toBelow hb.size (fun k hk => by rw [hk]; exact hp)), hp, hk, ⟨own_keep ho.1 fun g hg => hon.block g (ho.1.lt g hg).2 (fun e => hap (hg.trans (congrArg some e))), ho.2⟩, own_keep he fun g hg => hon.block g (he.lt g hg).2 (fun e => hae (hg.trans (congrArg some e)))⟩
theorem Cms.kept {w w' : World} {A : Option Addr} {l : List Cm} (h : Cms w A l) (hb : Below w.heap.size w w') : Cms w' A l := fun hn => by
  obtain ⟨b, o, rfl, hc⟩ := h hn
  refine ⟨b, o, rfl, fun j m hj => ⟨(hc j m hj).1, fun i u hu => ?_⟩⟩
  have hcell := (hc j m hj).2 i u hu
  have hlt := World.block_lt_of_cell? w ⟨b, o + j * 14 + i, none⟩ hcell
  exact (World.cell?_of_block (a := ⟨b, o + j * 14 + i, none⟩) (hb.block b hlt)).trans hcell
theorem Cms.row {w : World} {A : Option Addr} {l : List Cm} (h : Cms w A l) {k : Nat} {m : Cm} (hm : l[k]? = some m) : ∃ b o, A = some ⟨b, o, none⟩ ∧ ∀ v, Below w.heap.size w v → ∀ (j : Nat) (u : Value), (cmC m)[j]? = some u → v.cell? ⟨b, o + k * 14 + j, none⟩ = some u := by
  have hlt := (List.getElem?_eq_some_iff.1 hm).1
  obtain ⟨b, o, rfl, hc⟩ := h (by omega)
  refine ⟨b, o, rfl, fun v hb j u hu => ?_⟩
  have hcell := (hc k m hm).2 j u hu
  have hl := World.block_lt_of_cell? w ⟨b, o + k * 14 + j, none⟩ hcell
  exact (World.cell?_of_block (a := ⟨b, o + k * 14 + j, none⟩) (hb.block b hl)).trans hcell
/-- What the statement keeps from round to round: both tables, alike. -/
structure PlAt (w v : World) (pt pq : Nat) (A : Option Addr) (c : Nat) (A' : Option Addr) (c' : Nat) (t : Tl) : Prop where
  bt : Blk v pt 27 (tlC A c t)
  bq : Blk v pq 27 (tlC A' c' t)
  ot : Own v (pq + 1) A c t.rs
  oq : Own v (pq + 1) A' c' t.rs
  bel : Below w.heap.size w v
  l1 : w.heap.size ≤ pt
  l2 : pq = pt + 1
theorem PlAt.below {w v v' : World} {pt pq : Nat} {A : Option Addr} {c : Nat} {A' : Option Addr} {c' : Nat} {t : Tl} (h : PlAt w v pt pq A c A' c' t) (hb : Below v.heap.size v v') : PlAt w v' pt pq A c A' c' t :=
  ⟨h.bt.below hb h.bt.lt, h.bq.below hb h.bq.lt, h.ot.below hb, h.oq.below hb, h.bel.trans (hb.mono h.bel.size), h.l1, h.l2⟩
/-- The empty table. -/
def emT : Tl := ⟨[], 0, ⟨#[]⟩, 0, false⟩
theorem emT_good : GoodP emT := ⟨⟨Nat.zero_le _, (fun x hx => by cases hx), (fun x hx => by cases hx), List.Pairwise.nil⟩, .inl ⟨rfl, rfl⟩⟩
theorem PlAt.from (w : World) : ∀ v, v = ((w.alloc (.cells tlZ 27)).alloc (.cells tlZ 27)) → PlAt w v w.heap.size (w.heap.size + 1) none 0 none 0 emT := by
  rintro v rfl
  have hb := ((Below.refl w.heap.size w).alloc (Nat.le_refl _) (.cells tlZ 27)).alloc (by simp) (.cells tlZ 27)
  have h1 : Blk ((w.alloc (.cells tlZ 27)).alloc (.cells tlZ 27)) w.heap.size 27 tlZ := (Blk.new w 27 tlZ).alloc _
  have h2 : Blk ((w.alloc (.cells tlZ 27)).alloc (.cells tlZ 27)) (w.heap.size + 1) 27 tlZ := by
    have := Blk.new (w.alloc (.cells tlZ 27)) 27 tlZ
    rwa [show (w.alloc (.cells tlZ 27)).heap.size = w.heap.size + 1 by simp] at this
  exact ⟨h1, h2, Own.nil _ _, Own.nil _ _, hb, Nat.le_refl _, rfl⟩
/-- The end of a round: the new table is put in the place of the old one, on both sides (ft, fq: has it been?). -/
structure St2 (w v0 v : World) (pt pq : Nat) (A : Option Addr) (c : Nat) (A' : Option Addr) (c' : Nat) (t : Tl) (A6 : Option Addr) (c6 : Nat) (A7 : Option Addr) (c7 : Nat) (u : Tl) (pU pQ : Nat) (B : Option Addr) (e : Nat) (ev : List Ev) (cd : Int) (ft fq : Bool) : Prop where
  on : Only (fun k => k = pt ∨ k = pq) v0 v
  bu : Blk v pU 27 (tlC A6 c6 u)
  bd : Blk v pQ 43 (tdC A7 c7 u B e ev cd)
  bt : Blk v pt 27 (if ft then tlC A6 c6 u else tlC A c t)
  bq : Blk v pq 27 (if fq then tlC A7 c7 u else tlC A' c' t)
  a1 : pU ≠ pt
  a2 : pU ≠ pq
  a3 : pQ ≠ pt
  a4 : pQ ≠ pq
  a5 : pq ≠ pt
section
variable {w v0 v v' : World} {pt pq : Nat} {A : Option Addr} {c : Nat} {A' : Option Addr} {c' : Nat} {t : Tl} {A6 : Option Addr} {c6 : Nat} {A7 : Option Addr} {c7 : Nat} {u : Tl} {pU pQ : Nat} {B : Option Addr} {e : Nat} {ev : List Ev} {cd : Int} {ft fq : Bool}
theorem St2.from (h : PlAt w v0 pt pq A c A' c' t) (hu : Blk v0 pU 27 (tlC A6 c6 u)) (hq : Blk v0 pQ 43 (tdC A7 c7 u B e ev cd)) (h1 : pq < pU) (h2 : pq < pQ) : St2 w v0 v0.drew pt pq A c A' c' t A6 c6 A7 c7 u pU pQ B e ev cd false false :=
  ⟨(Only.refl _ _).drew, hu.drew, hq.drew, h.bt.drew, h.bq.drew, by have := h.l2; omega, by omega, by have := h.l2; omega, by omega, by have := h.l2; omega⟩
theorem St2.putT (h : St2 w v0 v pt pq A c A' c' t A6 c6 A7 c7 u pU pQ B e ev cd ft fq) (hk : Blk v' pt 27 (tlC A6 c6 u)) (hon : Only (fun k => k = pt) v v') : St2 w v0 v' pt pq A c A' c' t A6 c6 A7 c7 u pU pQ B e ev cd true fq :=
  ⟨h.on.trans hon (fun _ hi => .inl (.inl hi)), h.bu.only hon h.a1, h.bd.only hon h.a3, hk, h.bq.only hon h.a5, h.a1, h.a2, h.a3, h.a4, h.a5⟩
theorem St2.putQ (h : St2 w v0 v pt pq A c A' c' t A6 c6 A7 c7 u pU pQ B e ev cd ft fq) (hk : Blk v' pq 27 (tlC A7 c7 u)) (hon : Only (fun k => k = pq) v v') : St2 w v0 v' pt pq A c A' c' t A6 c6 A7 c7 u pU pQ B e ev cd ft true :=
  ⟨h.on.trans hon (fun _ hi => .inl (.inr hi)), h.bu.only hon h.a2, h.bd.only hon h.a4, h.bt.only hon (Ne.symm h.a5), hk, h.a1, h.a2, h.a3, h.a4, h.a5⟩
theorem St2.done (h : St2 w v0 v pt pq A c A' c' t A6 c6 A7 c7 u pU pQ B e ev cd true true) (hp : PlAt w v0 pt pq A c A' c' t) {n : Nat} (ho : Own v0 n A6 c6 u.rs) (ho' : Own v0 n A7 c7 u.rs) (hn : pq < n) : PlAt w v pt pq A6 c6 A7 c7 u := by
  have key : ∀ {A0 : Option Addr} {c0 : Nat}, Own v0 n A0 c0 u.rs → Own v (pq + 1) A0 c0 u.rs := fun h0 =>
    Own.base ⟨own_keep h0.1 fun g hg => h.on.block g (h0.1.lt g hg).2 (fun e => by have := (h0.1.lt g hg).1; have := hp.l2; omega), h0.2⟩ hn
  exact ⟨h.bt, h.bq, key ho, key ho', hp.bel.trans (h.on.toBelow hp.bel.size (fun k hk => by have := hp.l1; have := hp.l2; omega)), hp.l1, hp.l2⟩
end
end Go.Proofs.YtgekadfkokkapaaDoor
