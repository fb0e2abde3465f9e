/- Extents put one behind the other, merged: the code's merged. -/
import Derived.Test.YtglfjlbhjaemgaaGreatDoorPk05
namespace Go.Proofs.YtglfjlbhjaemgaaGreatDoor.Ext
open Go.RowKit Go.Shelf
attribute [local go_sem] Oper.semAt_some
/-- One iterator: its boxes, its list, its bounds. -/
structure Part where
  b0 : Nat
  b1 : Nat
  b2 : Nat
  A : Option Addr
  c : Nat
  l : List Ex
  lo : Int
  hi : Int
def Part.v (p : Part) : Value := .func (.func 204) #[] #[.pointer (some ⟨p.b0, 0, none⟩), .pointer (some ⟨p.b1, 0, none⟩), .pointer (some ⟨p.b2, 0, none⟩)]
def Part.out (p : Part) : List Ex := leftX p.lo p.hi p.l
structure PartOk (w : World) (p : Part) : Prop where
  it : IterAt w.heap.size w p.b0 p.b1 p.b2 p.A p.c p.l p.lo p.hi
  lo : 0 ≤ p.lo ∧ p.lo ≤ 4096
  hi : 0 ≤ p.hi ∧ p.hi ≤ 4096
  fit : ∀ x ∈ p.l, x.Fits
  len : p.l.length ≤ 100000
def outs (ps : List Part) : List Ex := ps.flatMap Part.out
theorem outs_next {ps : List Part} {k : Nat} {p : Part} (h : ps[k]? = some p) : outs (ps.take (k + 1)) = outs (ps.take k) ++ p.out := by
  unfold outs
  rw [List.take_add_one, h, Option.toList_some, List.flatMap_append]
  congr 1
  simp
theorem left_fits {lo hi : Int} {l : List Ex} (hl : ∀ x ∈ l, x.Fits) (h1 : 0 ≤ lo) : ∀ y ∈ leftX lo hi l, y.Fits := fun y hy => by
  unfold leftX at hy
  rw [List.mem_filterMap] at hy
  obtain ⟨x, hx, he⟩ := hy
  exact cut_fits (hl x hx) h1 he
theorem outs_fits {w : World} {ps : List Part} (h : ∀ p ∈ ps, PartOk w p) : ∀ y ∈ outs ps, y.Fits := fun y hy => by
  unfold outs at hy
  rw [List.mem_flatMap] at hy
  obtain ⟨p, hp, hy⟩ := hy
  exact left_fits (h p hp).fit (h p hp).lo.1 y hy
abbrev ExF := { x : Ex // x.Fits }
def exfL (l : List ExF) : List Ex := l.map (·.1)
theorem exfL_fits (l : List ExF) : ∀ x ∈ exfL l, x.Fits := fun x hx => by
  obtain ⟨y, _, rfl⟩ := List.mem_map.1 hx
  exact y.2
theorem exfL_length (l : List ExF) : (exfL l).length = l.length := List.length_map _
theorem exfL_snoc (l : List ExF) (x : ExF) : exfL (l ++ [x]) = exfL l ++ [x.1] := by unfold exfL; rw [List.map_append]; rfl
theorem left_stops (n : Nat) (hn : 1 ≤ n) (n₀ : Nat) (w : World) (hn0 : n₀ ≤ w.heap.size) (p : Part) (hp : IterAt n₀ w p.b0 p.b1 p.b2 p.A p.c p.l p.lo p.hi) (hlo : 0 ≤ p.lo ∧ p.lo ≤ 4096) (hhi : 0 ≤ p.hi ∧ p.hi ≤ 4096) (hfit : ∀ x ∈ p.l, x.Fits) (hlen : p.l.length ≤ 100000) :
    SeqStopsK Fence.wide n Tryz.prog 204 #[.pointer (some ⟨p.b0, 0, none⟩), .pointer (some ⟨p.b1, 0, none⟩), .pointer (some ⟨p.b2, 0, none⟩)] (fun x : ExF => #[exV x.1]) (Below n₀) (fun ys => exfL ys = p.out) (fun pre => exfL pre <+: p.out) p.out.length w := by
  intro lp J Jx W hW hJ hJx hY h0
  have hab : ∀ {G : List ExF → World → Prop}, AbidesFrom W.heap.size G → AbidesFrom W.heap.size (fun pre V => ∃ pre', exfL pre' = pre ∧ G pre' V) := fun {G} hG s X Y row hs hg hr => by
    obtain ⟨pre', h1, h2⟩ := hs
    exact ⟨pre', h1, hG pre' X Y row h2 hg hr⟩
  refine (left1_in n hn lp n₀ p.b0 p.b1 p.b2 p.A p.c p.l p.lo p.hi (fun pre V => ∃ pre', exfL pre' = pre ∧ J pre' V) (fun pre V => ∃ pre', exfL pre' = pre ∧ Jx pre' V) W.heap.size (hab hJ) (hab hJx) hlo hhi hfit (by unfold maxLen; omega) ?_ W (Nat.le_trans hn0 hW.size) (hp.below (hW.mono hn0)) ⟨[], rfl, h0⟩).mono ?_
  · rintro pre x V ⟨pre', rfl, hj⟩ hlt hx
    refine (hY pre' ⟨x, hx⟩ V hj (by unfold exfL at hlt; rw [List.length_map] at hlt; exact hlt)).mono ?_
    rintro e V' (⟨h1, h2, h3⟩ | ⟨h1, h2⟩)
    · exact .inl ⟨h1, ⟨_, by unfold exfL; rw [List.map_append]; rfl, h2⟩, h3⟩
    · exact .inr ⟨h1, ⟨_, by unfold exfL; rw [List.map_append]; rfl, h2⟩⟩
  · rintro e V ⟨hv, (⟨ys, h1, ys', h2, h3⟩ | ⟨pre, h1, pre', h2, h3⟩)⟩
    · exact ⟨hv, .inl ⟨ys', h2.trans h1, h3⟩⟩
    · exact ⟨hv, .inr ⟨pre', by show exfL pre' <+: p.out; rw [h2]; exact h1, h3⟩⟩
/-- What the box holds: a slice of its own with these extents. -/
def Holds (n₀ Bl : Nat) (r : List Ex) (W : World) : Prop := ∃ v, Boxed W Bl 138 v ∧ W.ownsRow n₀ 158 3 v r.length (exCells r)
theorem Holds.own {β : Type} {n₀ Bl : Nat} (f : β → List Ex) : Own (fun s W => Holds n₀ Bl (f s) W) := by
  have := holdsRow_own (β := β) n₀ Bl 138 158 3 (fun s => (f s).length) (fun s => exCells (f s)) (fun _ _ => True)
  intro s W W' row hs hg hr
  obtain ⟨v, h1, h2⟩ := hs
  obtain ⟨v', h1', h2', _⟩ := this s W W' row ⟨v, h1, h2, trivial⟩ hg hr
  exact ⟨v', h1', h2'⟩
theorem keeps_of_below {V V2 : World} (h : Below V.heap.size V V2) : KeepsOthers V V2 := KeepsOthers.of_grownBy (grown_of_below h) (fun j o e _ => by cases e)
theorem cells_three (w : World) (x y z : Value) (t : TypeId) : ∀ j u, [x, y, z][j]? = some u → (w.alloc (.cells #[x, y, z] t)).cell? ((⟨w.heap.size, 0, none⟩ : Addr).add j) = some u := by
  intro j u hj
  match j, hj with
  | 0, hj => simp at hj; subst hj; simp [Addr.add]
  | 1, hj => simp at hj; subst hj; simp [Addr.add]
  | 2, hj => simp at hj; subst hj; simp [Addr.add]
theorem three_cells {k : IntKind} {i j l : Int} : ∀ u ∈ [Value.int k i, .int k j, .int k l], u.oneCell' = true := by
  intro u hu
  simp at hu
  rcases hu with rfl | rfl | rfl <;> rfl
theorem info32 : (Tryz.prog.info? 158).map (fun i => (i.zero, i.size, i.bytes)) = some (some (.agg #[.int .i64 0, .int .i64 0, .int .i64 0]), 3, 24) := by kernel_rfl
/-- Of merged's loop: the first k iterators have given all. -/
def MgAt (w : World) (ps : List Part) (Ds : List Nat) (i : Value) (W : World) : Prop :=
  ∃ k : Nat, i = .int .i64 k ∧ k ≤ ps.length ∧ Holds w.heap.size w.heap.size (mrgX [] (outs (ps.take k))) W ∧ Below w.heap.size w W ∧ Marks w.heap.size Ds W
set_option maxRecDepth 100000 in
set_option maxHeartbeats 4000000 in
theorem merged_in (ps : List Part) (B : Nat) (w : World) (hB : ∀ (j : Nat) p, ps[j]? = some p → w.cell? ⟨B, j, none⟩ = some p.v) (hBl : B < w.heap.size) (hp : ∀ p ∈ ps, PartOk w p) (hlen : (outs ps).length ≤ 1000000) (hpl : ps.length ≤ 1000) :
    CallsIn Fence.wide 9 Tryz.prog 180 #[.slice (some ⟨B, 0, none⟩) ps.length ps.length] w fun e W' => ∃ v, e = .returned v ∧ W'.ownsRow w.heap.size 158 3 v (mrgX [] (outs ps)).length (exCells (mrgX [] (outs ps))) ∧ Below w.heap.size w W' := by
  have HBc := Lib.hid hB; have HP := Lib.hid hp; have HLEN := Lib.hid hlen
  clear hB hp hlen
  refine callsIn_of_wp_marks Tryz.func180 rfl trivial ?_ rfl
  simp only [Tryz.ntmps180, List.size_toArray, List.length_cons, List.length_nil, Nat.reduceAdd, Nat.reduceSub, Array.replicate_succ, Array.replicate_zero, List.push_toArray, List.append_toArray, List.nil_append, List.cons_append]
  gi_wp2
  have hb0 := Boxed.new w 138 (.slice none 0 0)
  have hbw := (Below.refl w.heap.size w).alloc (Nat.le_refl _) (.cells #[.slice none 0 0] 138)
  refine wpIn_loop (fun a' W => ∃ (u5 u10 u11 u12 u13 u14 u43 : Value) (Ds : List Nat), a' = { tmps := #[.slice (some ⟨B, 0, none⟩) ps.length ps.length, undef, .slice none 0 0, .pointer (some ⟨w.heap.size, 0, none⟩), undef, u5, undef, undef, .slice (some ⟨B, 0, none⟩) ps.length ps.length, .int .i64 ps.length, u10, u11, u12, u13, u14, undef, undef, undef, undef, undef, undef, undef, undef, undef, undef, undef, undef, undef, undef, undef, undef, undef, undef, undef, undef, undef, undef, undef, undef, undef, undef, undef, undef, u43, undef], defers := Ds.map mark } ∧ MgAt w ps Ds u10 W) (fun a' _ => ps.length - (intOf (a'.tmps.getD 10 undef)).toNat) ?_ ?_
  · exact ⟨_, _, _, _, _, _, _, [], rfl, 0, rfl, Nat.zero_le _, ⟨_, hb0, World.ownsRow_nil _ _ _ _⟩, hbw, List.nodup_nil, fun D hD => by cases hD⟩
  clear hb0 hbw
  rintro _ W ⟨u5, u10, u11, u12, u13, u14, u43, Ds, rfl, k, rfl, hk, hho, hbl, hma⟩
  have HH := Lib.hid hho; have HBL := Lib.hid hbl; have HM := Lib.hid hma
  clear hho hbl hma
  by_cases hlt : k < ps.length
  · obtain ⟨p, hpk⟩ : ∃ p, ps[k]? = some p := ⟨_, List.getElem?_eq_getElem hlt⟩
    have hki : (k : Int) < ps.length := by omega
    have hcell : W.cell? ⟨B, k, none⟩ = some p.v := (HBL.out.cell (p := ⟨B, k, none⟩) hBl).trans (HBc.out k p hpk)
    have hpo := HP.out p (List.mem_of_getElem? hpk)
    have HPO := Lib.hid hpo; have HPK := Lib.hid hpk
    clear hpo hpk
    gi_wp2
    have hv : p.v = .func (.func 204) #[] #[.pointer (some ⟨p.b0, 0, none⟩), .pointer (some ⟨p.b1, 0, none⟩), .pointer (some ⟨p.b2, 0, none⟩)] := rfl
    have hDs : ∀ D ∈ Ds, D < W.heap.size := fun D hD => HM.out.lt hD
    have hsz := HBL.out.size
    have hLK : (outs (ps.take k)).length + p.out.length ≤ 1000000 := by
      have h1 := congrArg List.length (outs_next HPK.out)
      rw [List.length_append] at h1
      have h2 : (outs (ps.take (k + 1))).length ≤ (outs ps).length := by
        have h3 : outs (ps.take (k + 1)) ++ outs (ps.drop (k + 1)) = outs ps := by unfold outs; rw [← List.flatMap_append, List.take_append_drop]
        rw [← h3, List.length_append]; omega
      have := HLEN.out
      omega
    obtain ⟨R, hR⟩ : ∃ R, mrgX [] (outs (ps.take k)) = R := ⟨_, rfl⟩
    have HR := Lib.hid hR; clear hR
    refine wpIn_rangeFunc_ownH (F := Fence.wide) (n := 9) rfl (by decide) (gf := 204) (lb := #[.pointer (some ⟨p.b0, 0, none⟩), .pointer (some ⟨p.b1, 0, none⟩), .pointer (some ⟨p.b2, 0, none⟩)]) hv trivial (enters_of Tryz.func204 (by kernel_rfl) rfl)
      (left_stops 8 (by omega) w.heap.size W HBL.out.size p (HPO.out.it.below HBL.out) HPO.out.lo HPO.out.hi HPO.out.fit HPO.out.len) belowK_t (belowK_b hsz) (Below.refl _ _) (fun _ => rfl)
      (fun (pre : List ExF) V => Holds w.heap.size w.heap.size (mrgX R (exfL pre)) V ∧ (Below w.heap.size w V ∧ Marks w.heap.size Ds V))
      (fun _ _ _ => False)
      (OwnFrom.and (Own.from (Holds.own _) _) (OwnFrom.and (ownFrom_below (Nat.le_refl _) hsz) (Marks.own hDs)))
      (fun _ _ _ _ _ hs _ _ => hs)
      ⟨by show Holds _ _ R W; rw [← HR.out]; exact HH.out, HBL.out, HM.out⟩
      (fun (x : ExF) a' V => ∃ Bx, w.heap.size < Bx ∧ Blk V Bx 158 (exC x.1) ∧ a' = { tmps := #[.slice (some ⟨B, 0, none⟩) ps.length ps.length, undef, .slice none 0 0, .pointer (some ⟨w.heap.size, 0, none⟩), undef, p.v, .pointer (some ⟨Bx, 0, none⟩), undef, .slice (some ⟨B, 0, none⟩) ps.length ps.length, .int .i64 ps.length, .int .i64 k, .bool true, .pointer (some ⟨B, k, none⟩), p.v, p.v, exV x.1, undef, undef, undef, undef, undef, undef, undef, undef, undef, undef, undef, undef, undef, undef, undef, undef, undef, undef, undef, undef, undef, undef, undef, undef, undef, undef, undef, u43, undef], defers := [] })
      ?_ ?assign ?body ?done ?stop
    · intro x a' _ X Y row hs hg hr
      obtain ⟨Bx, h1, h2, h3⟩ := hs
      refine ⟨Bx, h1, h2.grown hg (fun e => ?_), h3⟩
      obtain ⟨o, ho, hc⟩ := (hr Bx e.symm).2
      unfold Blk at h2
      rw [h2] at ho
      cases ho
      cases hc
    case assign =>
      rintro lp pre x V K ⟨hho, hbl, hma⟩ hK
      have hszV := hbl.size
      have HH2 := Lib.hid hho; have HBL2 := Lib.hid hbl; have HM2 := Lib.hid hma
      clear hho hbl hma
      clear hv
      unfold exV at hK ⊢
      gi_wp2
      refine hK _ _ ((KeepsOthers.alloc _ _).from _) ((Below.refl _ V).alloc hszV _) ⟨(Own.from (Holds.own (fun (_ : Unit) => mrgX R (exfL pre))) 0).alloc (s := ()) _ HH2.out, HBL2.out.alloc hszV _, HM2.out.keeps (KeepsOthers.alloc _ _)⟩ ⟨V.heap.size, ?_, Blk.new V 158 _, rfl⟩
      obtain ⟨v, hv1, _⟩ := HH2.out
      exact hv1.lt
    case body =>
      rintro lp pre x a' V hl0 hr0 ⟨hho, hbl, hma⟩ ⟨Bx, hBx, hbx, rfl⟩ hpre
      obtain ⟨v, hbox, hrow⟩ := hho
      have HROW := Lib.hid hrow; have HBOX := Lib.hid hbox; have HBL2 := Lib.hid hbl; have HM2 := Lib.hid hma; have HX := Lib.hid hbx
      have hszV := hbl.size
      clear hbl hma
      have cL := hbox.cell
      have d0 := hbx.cell 0
      have d1 := hbx.cell 1
      have d2 := hbx.cell 2
      obtain ⟨A, c, rfl⟩ := own_form hrow
      clear hrow hbox hbx hl0 hr0 hv
      unfold exV
      obtain ⟨x, hxf⟩ := x
      dsimp only
      obtain ⟨Q, hQ⟩ : ∃ Q, mrgX R (exfL pre) = Q := ⟨_, rfl⟩
      have hsm := mrg_small (exfL pre) (outs (ps.take k)).length R (by
        rw [← HR.out]
        have := (mrg_small (outs (ps.take k)) 0 [] (fun y hy => by cases hy) (outs_fits (w := w) (fun p' hp' => HP.out p' (List.mem_of_mem_take hp')))).1
        rwa [Nat.zero_add] at this) (exfL_fits pre)
      have hRl : R.length ≤ (outs (ps.take k)).length := by
        rw [← HR.out]
        have := (mrg_small (outs (ps.take k)) 0 [] (fun y hy => by cases hy) (outs_fits (w := w) (fun p' hp' => HP.out p' (List.mem_of_mem_take hp')))).2
        rwa [List.length_nil, Nat.zero_add] at this
      rw [hQ, exfL_length] at hsm
      rw [hQ] at HROW HBOX cL
      have HQ := Lib.hid (show mrgX R (exfL (pre ++ [⟨x, hxf⟩])) = pushX Q x by rw [exfL_snoc, mrg_snoc, hQ])
      have hQl : Q.length + 1 ≤ 1000000 := by omega
      have HSM := Lib.hid hsm
      have HXF := Lib.hid hxf
      clear hQ hsm hRl
      by_cases hnil : Q = []
      · rw [hnil] at cL
        rw [hnil] at HROW HBOX
        have HBOX := Lib.hid (show Boxed V w.heap.size 138 (.slice A 0 c) from HBOX.out)
        have HROW := Lib.hid (show V.ownsRow w.heap.size 158 3 (.slice A 0 c) 0 (exCells []) from HROW.out)
        have HNIL := Lib.hid hnil; clear hnil
        gi_wp2
        obtain ⟨C, hC0, hCl, hCi, hCm⟩ := class_of V (fun _ => True) (fun _ _ => trivial)
        clear hCm hCl
        refine round_region_class C (by kernel_rfl) (by rintro ⟨_, _, h⟩; exact h) (by kernel_rfl) (by kernel_rfl) hC0 ?_
        go_big_quiet_want
        go_big_quiet_op
        first | go_big_quiet_on | (refine ⟨_, fun _ _ => rfl, ?_⟩; go_big_quiet_on)
        go_big_quiet_want
        go_big_quiet_op
        first | go_big_quiet_on | (refine ⟨_, fun _ _ => rfl, ?_⟩; go_big_quiet_on)
        go_big_quiet_want
        go_big_quiet_op
        first | go_big_quiet_on | (refine ⟨_, fun _ _ => rfl, ?_⟩; go_big_quiet_on)
        go_big_quiet_skip
        go_big_quiet_skip
        go_big_quiet_skip
        go_big_quiet_skip
        go_big_quiet_skip
        go_big_quiet_skip
        go_big_quiet_want
        go_big_quiet_op
        first | go_big_quiet_on | (refine ⟨_, fun _ _ => rfl, ?_⟩; go_big_quiet_on)
        refine wpQuiet_nil ?_
        intro V2 hC5
        have hb5 := hCi _ hC5
        clear hC5 hC0 hCi
        have HB2 := Lib.hid (show Below w.heap.size V V2 from hb5.mono hszV)
        have HK2 := Lib.hid (keeps_of_below hb5)
        have HBOX2 := Lib.hid (HBOX.out.kept (grown_of_below hb5) (by simp))
        have HROW2 := Lib.hid (own_keep HROW.out (fun g hg => hb5.block g (HROW.out.lt g hg).2))
        have HX2 := Lib.hid (HX.out.below hb5 HX.out.lt)
        have hs2 := hb5.size
        have c2 := HBOX2.out.cell
        have e0 := HX2.out.cell 0
        have e1 := HX2.out.cell 1
        have e2 := HX2.out.cell 2
        clear hb5 cL d0 d1 d2
        have hcs := cells_three V2 (.int .i64 x.l) (.int .i64 x.b) (.int .i64 x.a) 158
        obtain ⟨i0, hi, hz0, hz1, hz2⟩ := info_parts info32
        have HM1 : 0 + 1 ≤ maxLen := by unfold maxLen; simp
        have HM2x : (0 + 1) * 24 ≤ 140737488355328 := by simp
        have HM3 : w.heap.size ≤ (V2.alloc (.cells #[.int .i64 x.l, .int .i64 x.b, .int .i64 x.a] 158)).heap.size := by simp; omega
        gi_wp2_with (gi_at_builtin; refine wpListIn_append_own _ rfl (.tmp 39) (.tmp 41) 138 rfl w.heap.size 158 i0 (.agg #[.int .i64 0, .int .i64 0, .int .i64 0]) 3 24 Tryz.underlying138 hi hz0 hz1 hz2 rfl (by decide) (.slice A 0 c) 0 (exCells []) rfl (HROW2.out.alloc _) ⟨V2.heap.size, 0, none⟩ 1 1 [.int .i64 x.l, .int .i64 x.b, .int .i64 x.a] rfl rfl hcs three_cells HM1 HM2x HM3 ?_; intro v' w1 hown' hgrow _; obtain ⟨g', cap', rfl⟩ := ownsRow_succ hown'; obtain ⟨hv1, hv2, hr2, hk2, hb2⟩ := HBOX2.out.appended (by decide) HROW2.out (by omega) (Nat.le_refl _) hown' hgrow; have HK3 := Lib.hid hk2; have HB3 := Lib.hid hb2; have HR3 := Lib.hid hr2; have HV3 := Lib.hid hv2; have hc1 := hv1.cell; have hf1 := hv1.frozen; clear hown' hgrow hk2 hb2 hr2 hv2 hv1)
        have HKK := Lib.hid (HK2.out.trans HK3.out)
        refine ⟨HKK.out.from _, HB2.out.trans HB3.out, ⟨_, HV3.out, ?_⟩, HBL2.out.trans (HB2.out.trans HB3.out), HM2.out.keeps HKK.out⟩
        rw [HQ.out, HNIL.out, push_nil]
        exact HR3.out
      · obtain ⟨Q', y, rfl⟩ := split_last hnil
        clear hnil
        have hln : (Q' ++ [y]).length = Q'.length + 1 := by simp
        rw [hln] at HROW HBOX cL hQl
        obtain ⟨g, cur, rfl, hg1, hgb, hgt⟩ := own_some HROW.out (by omega)
        have hyat : (Q' ++ [y])[Q'.length]? = some y := by simp
        obtain ⟨y0, y1, y2⟩ := exCells_at hyat
        rw [← hgt, List.getElem?_take, if_pos (by omega)] at y0 y1 y2
        have q0 : V.cell? ⟨g, Q'.length * 3, none⟩ = some (.int .i64 y.l) := by rw [hgb.cell]; simpa using y0
        have q1 : V.cell? ⟨g, Q'.length * 3 + 1, none⟩ = some (.int .i64 y.b) := by rw [hgb.cell]; simpa using y1
        have q2 : V.cell? ⟨g, Q'.length * 3 + 2, none⟩ = some (.int .i64 y.a) := by rw [hgb.cell]; simpa using y2
        have hfr := hgb.free (Q'.length * 3 + 1)
        have HGB := Lib.hid hgb
        have hys := HSM.out.1 y (by simp)
        unfold Small at hys
        have hkN : (outs (ps.take k)).length + pre.length ≤ 1000000 := by omega
        have hxf := HXF.out
        unfold Ex.Fits at hxf
        have HGO := Lib.hid (fun v => goes_any y x v (by omega) (by omega) (by omega) (by omega))
        have hwb : IntKind.i64.wrap (y.b + x.b) = y.b + x.b := i64w _ (by omega)
        have hwm : IntKind.i64.wrap ((Q'.length : Int) + 1 - 1) = (Q'.length : Int) := by rw [IntKind.wrap_i64]; omega
        have hge : decide ((Q'.length : Int) ≥ 0) = true := decide_eq_true (by omega)
        have hxl : (Q'.length : Int) < (Q'.length : Int) + 1 := by omega
        have HYS := Lib.hid hys
        clear hys hxf y0 y1 y2 hgt hyat hgb
        obtain ⟨C, hC0, hCl, hCi, hCm⟩ := class_of V (fun v => (v.cell? ⟨w.heap.size, 0, none⟩ = some (.slice (some ⟨g, 0, none⟩) (Q'.length + 1) c) ∧ (v.cell? ⟨Bx, 0, none⟩ = some (.int .i64 x.l) ∧ v.cell? ⟨Bx, 1, none⟩ = some (.int .i64 x.b) ∧ v.cell? ⟨Bx, 2, none⟩ = some (.int .i64 x.a)) ∧ (v.cell? ⟨g, Q'.length * 3, none⟩ = some (.int .i64 y.l) ∧ v.cell? ⟨g, Q'.length * 3 + 1, none⟩ = some (.int .i64 y.b) ∧ v.cell? ⟨g, Q'.length * 3 + 2, none⟩ = some (.int .i64 y.a)))) (fun v hb => ⟨(hb.cell (p := ⟨w.heap.size, 0, none⟩) HBOX.out.lt).trans HBOX.out.cell, blk_cells3 HX.out hb, cells_below hb q0 q1 q2⟩)
        have HL := Lib.hid hCl; have HCm := Lib.hid hCm; have HCi := Lib.hid hCi; have HC0 := Lib.hid hC0
        clear hCl hCm hCi hC0
        cases hgo : goesB y x with
        | false =>
          have HGF := Lib.hid hgo
          rw [hgo] at HGO
          clear hgo
          unfold exV at HGO
          gi_wp2
          refine round_region_class C (by kernel_rfl) (by rintro ⟨_, _, h⟩; exact h) (by kernel_rfl) (by kernel_rfl) HC0.out ?_
          go_big_quiet_want
          go_big_quiet_op
          first | go_big_quiet_on | (refine ⟨_, fun _ _ => rfl, ?_⟩; go_big_quiet_on)
          go_big_quiet_want
          go_big_quiet_op
          first | go_big_quiet_on | (refine ⟨_, fun _ _ => rfl, ?_⟩; go_big_quiet_on)
          go_big_quiet_want
          go_big_quiet_op
          first | go_big_quiet_on | (refine ⟨_, fun _ _ => rfl, ?_⟩; go_big_quiet_on)
          go_big_quiet_want
          refine quiet_run (v := .slice (some ⟨g, 0, none⟩) (Q'.length + 1) c) (fun v hv => by obtain ⟨a0, ⟨b0, b1, b2⟩, r0, r1, r2⟩ := HL.out v hv; go_simp) ?_
          simp only [Act.put, List.setIfInBounds_toArray, List.set_cons_zero, List.set_cons_succ]
          go_big_quiet_on
          go_big_quiet_want
          go_big_quiet_op
          first | go_big_quiet_on | (refine ⟨_, fun _ _ => rfl, ?_⟩; go_big_quiet_on)
          go_big_quiet_want
          refine quiet_run (v := .pointer (some ⟨g, Q'.length * 3, none⟩)) (fun v hv => by obtain ⟨a0, ⟨b0, b1, b2⟩, r0, r1, r2⟩ := HL.out v hv; go_simp) ?_
          simp only [Act.put, List.setIfInBounds_toArray, List.set_cons_zero, List.set_cons_succ]
          go_big_quiet_on
          go_big_quiet_want
          refine quiet_run (v := .agg #[.int .i64 y.l, .int .i64 y.b, .int .i64 y.a]) (fun v hv => by obtain ⟨a0, ⟨b0, b1, b2⟩, r0, r1, r2⟩ := HL.out v hv; go_simp) ?_
          simp only [Act.put, List.setIfInBounds_toArray, List.set_cons_zero, List.set_cons_succ]
          go_big_quiet_on
          go_big_quiet_want
          refine quiet_run (v := .agg #[.int .i64 x.l, .int .i64 x.b, .int .i64 x.a]) (fun v hv => by obtain ⟨a0, ⟨b0, b1, b2⟩, r0, r1, r2⟩ := HL.out v hv; go_simp) ?_
          simp only [Act.put, List.setIfInBounds_toArray, List.set_cons_zero, List.set_cons_succ]
          go_big_quiet_on
          go_big_quiet_want
          refine quiet_call (f := 203) (args := #[.agg #[.int .i64 y.l, .int .i64 y.b, .int .i64 y.a], .agg #[.int .i64 x.l, .int .i64 x.b, .int .i64 x.a]]) (fun v _ => by go_simp) (fun v hv => (HGO.out v).mono (fun e w' h => ⟨h.1, HCm.out v w' hv h.2⟩)) ?_
          simp only [Act.put, List.setIfInBounds_toArray, List.set_cons_zero, List.set_cons_succ]
          go_big_quiet_on
          go_big_quiet_want
          go_big_quiet_op
          first | go_big_quiet_on | (refine ⟨_, fun _ _ => rfl, ?_⟩; go_big_quiet_on)
          refine wpQuiet_nil ?_
          intro V2 hC5
          have hb5 := HCi.out _ hC5
          clear hC5 q0 q1 q2 hfr
          have HB2 := Lib.hid (show Below w.heap.size V V2 from hb5.mono hszV)
          have HK2 := Lib.hid (keeps_of_below hb5)
          have HBOX2 := Lib.hid (HBOX.out.kept (grown_of_below hb5) (by simp))
          have HROW2 := Lib.hid (own_keep HROW.out (fun g hg => hb5.block g (HROW.out.lt g hg).2))
          have HX2 := Lib.hid (HX.out.below hb5 HX.out.lt)
          have hs2 := hb5.size
          have c2 := HBOX2.out.cell
          have e0 := HX2.out.cell 0
          have e1 := HX2.out.cell 1
          have e2 := HX2.out.cell 2
          clear hb5 cL d0 d1 d2
          have hcs := cells_three V2 (.int .i64 x.l) (.int .i64 x.b) (.int .i64 x.a) 158
          obtain ⟨i0, hi, hz0, hz1, hz2⟩ := info_parts info32
          have HM1 : Q'.length + 1 + 1 ≤ maxLen := by unfold maxLen; omega
          have HM2x : (Q'.length + 1 + 1) * 24 ≤ 140737488355328 := by omega
          have HM3 : w.heap.size ≤ (V2.alloc (.cells #[.int .i64 x.l, .int .i64 x.b, .int .i64 x.a] 158)).heap.size := by simp; omega
          gi_wp2_with (gi_at_builtin; refine wpListIn_append_own _ rfl (.tmp 39) (.tmp 41) 138 rfl w.heap.size 158 i0 (.agg #[.int .i64 0, .int .i64 0, .int .i64 0]) 3 24 Tryz.underlying138 hi hz0 hz1 hz2 rfl (by decide) (.slice (some ⟨g, 0, none⟩) (Q'.length + 1) c) (Q'.length + 1) (exCells (Q' ++ [y])) rfl (HROW2.out.alloc _) ⟨V2.heap.size, 0, none⟩ 1 1 [.int .i64 x.l, .int .i64 x.b, .int .i64 x.a] rfl rfl hcs three_cells HM1 HM2x HM3 ?_; intro v' w1 hown' hgrow _; obtain ⟨g', cap', rfl⟩ := ownsRow_succ hown'; obtain ⟨hv1, hv2, hr2, hk2, hb2⟩ := HBOX2.out.appended (by decide) HROW2.out (by omega) (Nat.le_refl _) hown' hgrow; have HK3 := Lib.hid hk2; have HB3 := Lib.hid hb2; have HR3 := Lib.hid hr2; have HV3 := Lib.hid hv2; have hc1 := hv1.cell; have hf1 := hv1.frozen; clear hown' hgrow hk2 hb2 hr2 hv2 hv1)
          have HKK := Lib.hid (HK2.out.trans HK3.out)
          refine ⟨HKK.out.from _, HB2.out.trans HB3.out, ⟨_, HV3.out, ?_⟩, HBL2.out.trans (HB2.out.trans HB3.out), HM2.out.keeps HKK.out⟩
          rw [HQ.out, push_last, if_neg (by rw [HGF.out]; simp)]
          have := HR3.out
          rw [exCells_snoc (Q' ++ [y]) x]
          simpa using this
        | true =>
          have HGF := Lib.hid hgo
          rw [hgo] at HGO
          clear hgo
          unfold exV at HGO
          gi_wp2
          refine round_region_class C (by kernel_rfl) (by rintro ⟨_, _, h⟩; exact h) (by kernel_rfl) (by kernel_rfl) HC0.out ?_
          go_big_quiet_want
          go_big_quiet_op
          first | go_big_quiet_on | (refine ⟨_, fun _ _ => rfl, ?_⟩; go_big_quiet_on)
          go_big_quiet_want
          go_big_quiet_op
          first | go_big_quiet_on | (refine ⟨_, fun _ _ => rfl, ?_⟩; go_big_quiet_on)
          go_big_quiet_want
          go_big_quiet_op
          first | go_big_quiet_on | (refine ⟨_, fun _ _ => rfl, ?_⟩; go_big_quiet_on)
          go_big_quiet_want
          refine quiet_run (v := .slice (some ⟨g, 0, none⟩) (Q'.length + 1) c) (fun v hv => by obtain ⟨a0, ⟨b0, b1, b2⟩, r0, r1, r2⟩ := HL.out v hv; go_simp) ?_
          simp only [Act.put, List.setIfInBounds_toArray, List.set_cons_zero, List.set_cons_succ]
          go_big_quiet_on
          go_big_quiet_want
          go_big_quiet_op
          first | go_big_quiet_on | (refine ⟨_, fun _ _ => rfl, ?_⟩; go_big_quiet_on)
          go_big_quiet_want
          refine quiet_run (v := .pointer (some ⟨g, Q'.length * 3, none⟩)) (fun v hv => by obtain ⟨a0, ⟨b0, b1, b2⟩, r0, r1, r2⟩ := HL.out v hv; go_simp) ?_
          simp only [Act.put, List.setIfInBounds_toArray, List.set_cons_zero, List.set_cons_succ]
          go_big_quiet_on
          go_big_quiet_want
          refine quiet_run (v := .agg #[.int .i64 y.l, .int .i64 y.b, .int .i64 y.a]) (fun v hv => by obtain ⟨a0, ⟨b0, b1, b2⟩, r0, r1, r2⟩ := HL.out v hv; go_simp) ?_
          simp only [Act.put, List.setIfInBounds_toArray, List.set_cons_zero, List.set_cons_succ]
          go_big_quiet_on
          go_big_quiet_want
          refine quiet_run (v := .agg #[.int .i64 x.l, .int .i64 x.b, .int .i64 x.a]) (fun v hv => by obtain ⟨a0, ⟨b0, b1, b2⟩, r0, r1, r2⟩ := HL.out v hv; go_simp) ?_
          simp only [Act.put, List.setIfInBounds_toArray, List.set_cons_zero, List.set_cons_succ]
          go_big_quiet_on
          go_big_quiet_want
          refine quiet_call (f := 203) (args := #[.agg #[.int .i64 y.l, .int .i64 y.b, .int .i64 y.a], .agg #[.int .i64 x.l, .int .i64 x.b, .int .i64 x.a]]) (fun v _ => by go_simp) (fun v hv => (HGO.out v).mono (fun e w' h => ⟨h.1, HCm.out v w' hv h.2⟩)) ?_
          simp only [Act.put, List.setIfInBounds_toArray, List.set_cons_zero, List.set_cons_succ]
          go_big_quiet_on
          go_big_quiet_want
          go_big_quiet_op
          first | go_big_quiet_on | (refine ⟨_, fun _ _ => rfl, ?_⟩; go_big_quiet_on)
          refine wpQuiet_nil ?_
          intro V2 hC5
          have hb5 := HCi.out _ hC5
          obtain ⟨a0, ⟨b0, b1, b2⟩, r0, r1, r2⟩ := HL.out _ hC5
          have HB2 := Lib.hid (show Below w.heap.size V V2 from hb5.mono hszV)
          have HK2 := Lib.hid (keeps_of_below hb5)
          have HBOX2 := Lib.hid (HBOX.out.kept (grown_of_below hb5) (by simp))
          have HROW2 := Lib.hid (own_keep HROW.out (fun g hg => hb5.block g (HROW.out.lt g hg).2))
          have HGB2 := Lib.hid (HGB.out.below hb5 HGB.out.lt)
          have hfr2 := HGB2.out.free (Q'.length * 3 + 1)
          clear hC5 q0 q1 q2 hfr cL d0 d1 d2 hb5
          gi_wp2
          refine round_region_tail 10 (by kernel_rfl) (by rintro ⟨_, _, h⟩; exact h) (by kernel_rfl) (by kernel_rfl) ?_
          simp only [List.take_succ_cons, List.take_zero, List.drop_succ_cons, List.drop_zero]
          repeat still_step
          try refine wpStill_nil ?_
          go_wp2
          have hput := own_put (show V2.drew.ownsRow w.heap.size 158 3 (.slice (some ⟨g, 0, none⟩) (Q'.length + 1) c) (Q'.length + 1) (exCells (Q' ++ [y])) from HROW2.out) (Q'.length * 3 + 1) (.int .i64 (y.b + x.b))
          rw [exCells_last] at hput
          have HKK := Lib.hid (HK2.out.trans ((KeepsOthers.drew V2).trans (KeepsOthers.setCell V2.drew ⟨g, Q'.length * 3 + 1, none⟩ (.int .i64 (y.b + x.b)))))
          have HB3 := Lib.hid (HB2.out.drew.setCell (p := ⟨g, Q'.length * 3 + 1, none⟩) hg1 (.int .i64 (y.b + x.b)))
          have hne : w.heap.size ≠ g := fun e => HBOX2.out.not_row (by decide) HROW2.out (by rw [e]; rfl)
          refine ⟨HKK.out.from _, HB3.out, ⟨_, Blk.far (show Blk V2.drew w.heap.size 138 #[_] from HBOX2.out) (p := ⟨g, Q'.length * 3 + 1, none⟩) hne _, ?_⟩, HBL2.out.trans HB3.out, HM2.out.keeps HKK.out⟩
          rw [HQ.out, push_last, if_pos HGF.out, show (Q' ++ [(⟨y.l, y.b + x.b, y.a⟩ : Ex)]).length = Q'.length + 1 by simp]
          exact hput
    case done =>
      rintro D xs V hD hxs ⟨hho, hbl, hma⟩ hK
      have HH3 := Lib.hid (show Holds w.heap.size w.heap.size (mrgX [] (outs (ps.take (k + 1)))) V by
        rw [outs_next HPK.out, mrg_app, HR.out]
        have := hho
        rw [show exfL xs = p.out from hxs] at this
        exact this)
      have HBL3 := Lib.hid hbl
      have HM3 := Lib.hid (show Marks w.heap.size (D :: Ds) V from ⟨List.nodup_cons.2 ⟨fun h => absurd (hDs D h) (by omega), hma.1⟩, fun E hE => by
        rcases List.mem_cons.1 hE with rfl | hE
        · exact ⟨by omega, hK⟩
        · exact hma.2 E hE⟩)
      clear hho hbl hma hK hxs hv
      gi_wp2
      exact ⟨⟨_, _, _, _, _, _, _, D :: Ds, rfl, k + 1, by go_num, by omega, HH3.out, HBL3.out, HM3.out⟩, by simp [intOf]; omega⟩
    case stop =>
      rintro D c pre W _ _ h _
      exact h.elim
  · obtain rfl : k = ps.length := by omega
    rw [List.take_length] at HH
    obtain ⟨v, hv1, hv2⟩ := HH.out
    have c0 := hv1.cell
    have HV2 := Lib.hid hv2
    clear hv1 hv2
    gi_wp2
    refine leaves_marks (n₀ := w.heap.size) (fun V => V.ownsRow w.heap.size 158 3 v (mrgX [] (outs ps)).length (exCells (mrgX [] (outs ps))) ∧ Below w.heap.size w V) ?_ Ds W HM.out ⟨HV2.out, HBL.out⟩ ?_
    · rintro V D o ⟨h1, h2⟩ hD hh
      exact ⟨ownsRow_putObj h1 o hh rfl, h2.grown (grownBy_putObj' V D o) h2.size (fun j e => by cases e; exact hD)⟩
    · rintro V ⟨h1, h2⟩
      exact ⟨_, results_tmp rfl _ _ _, v, rfl, h1, h2⟩
end Go.Proofs.YtglfjlbhjaemgaaGreatDoor.Ext
