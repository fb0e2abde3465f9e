/- Extents put one behind the other, merged: the code's merged. The code's Set and Drop. -/
import Derived.Test.YtglfjlbhjaemgaaGreatDoorPl05
namespace Go.Proofs.YtglfjlbhjaemgaaGreatDoor.Ext
open Go.RowKit Go.Shelf
attribute [local go_sem] Oper.semAt_some
/-- One iterator: its boxes, its list, its bounds. -/
structure Part where
  b0 : Nat
  b1 : Nat
  b2 : Nat
  A : Option Addr
  c : Nat
  l : List Ex
  lo : Int
  hi : Int
def Part.v (p : Part) : Value := .func (.func 204) #[] #[.pointer (some ⟨p.b0, 0, none⟩), .pointer (some ⟨p.b1, 0, none⟩), .pointer (some ⟨p.b2, 0, none⟩)]
def Part.out (p : Part) : List Ex := leftX p.lo p.hi p.l
structure PartOk (w : World) (p : Part) : Prop where
  it : IterAt w.heap.size w p.b0 p.b1 p.b2 p.A p.c p.l p.lo p.hi
  lo : 0 ≤ p.lo ∧ p.lo ≤ 4096
  hi : 0 ≤ p.hi ∧ p.hi ≤ 4096
  fit : ∀ x ∈ p.l, x.Fits
  len : p.l.length ≤ 100000
def outs (ps : List Part) : List Ex := ps.flatMap Part.out
theorem outs_next {ps : List Part} {k : Nat} {p : Part} (h : ps[k]? = some p) : outs (ps.take (k + 1)) = outs (ps.take k) ++ p.out := by
  unfold outs
  rw [List.take_add_one, h, Option.toList_some, List.flatMap_append]
  congr 1
  simp
theorem left_fits {lo hi : Int} {l : List Ex} (hl : ∀ x ∈ l, x.Fits) (h1 : 0 ≤ lo) : ∀ y ∈ leftX lo hi l, y.Fits := fun y hy => by
  unfold leftX at hy
  rw [List.mem_filterMap] at hy
  obtain ⟨x, hx, he⟩ := hy
  exact cut_fits (hl x hx) h1 he
theorem outs_fits {w : World} {ps : List Part} (h : ∀ p ∈ ps, PartOk w p) : ∀ y ∈ outs ps, y.Fits := fun y hy => by
  unfold outs at hy
  rw [List.mem_flatMap] at hy
  obtain ⟨p, hp, hy⟩ := hy
  exact left_fits (h p hp).fit (h p hp).lo.1 y hy
abbrev ExF := { x : Ex // x.Fits }
def exfL (l : List ExF) : List Ex := l.map (·.1)
theorem exfL_fits (l : List ExF) : ∀ x ∈ exfL l, x.Fits := fun x hx => by
  obtain ⟨y, _, rfl⟩ := List.mem_map.1 hx
  exact y.2
theorem exfL_length (l : List ExF) : (exfL l).length = l.length := List.length_map _
theorem exfL_snoc (l : List ExF) (x : ExF) : exfL (l ++ [x]) = exfL l ++ [x.1] := by unfold exfL; rw [List.map_append]; rfl
theorem left_stops (n : Nat) (hn : 1 ≤ n) (n₀ : Nat) (w : World) (hn0 : n₀ ≤ w.heap.size) (p : Part) (hp : IterAt n₀ w p.b0 p.b1 p.b2 p.A p.c p.l p.lo p.hi) (hlo : 0 ≤ p.lo ∧ p.lo ≤ 4096) (hhi : 0 ≤ p.hi ∧ p.hi ≤ 4096) (hfit : ∀ x ∈ p.l, x.Fits) (hlen : p.l.length ≤ 100000) :
    SeqStopsK Fence.wide n Tryz.prog 204 #[.pointer (some ⟨p.b0, 0, none⟩), .pointer (some ⟨p.b1, 0, none⟩), .pointer (some ⟨p.b2, 0, none⟩)] (fun x : ExF => #[exV x.1]) (Below n₀) (fun ys => exfL ys = p.out) (fun pre => exfL pre <+: p.out) p.out.length w := by
  intro lp J Jx W hW hJ hJx hY h0
  have hab : ∀ {G : List ExF → World → Prop}, AbidesFrom W.heap.size G → AbidesFrom W.heap.size (fun pre V => ∃ pre', exfL pre' = pre ∧ G pre' V) := fun {G} hG s X Y row hs hg hr => by
    obtain ⟨pre', h1, h2⟩ := hs
    exact ⟨pre', h1, hG pre' X Y row h2 hg hr⟩
  refine (left1_in n hn lp n₀ p.b0 p.b1 p.b2 p.A p.c p.l p.lo p.hi (fun pre V => ∃ pre', exfL pre' = pre ∧ J pre' V) (fun pre V => ∃ pre', exfL pre' = pre ∧ Jx pre' V) W.heap.size (hab hJ) (hab hJx) hlo hhi hfit (by unfold maxLen; omega) ?_ W (Nat.le_trans hn0 hW.size) (hp.below (hW.mono hn0)) ⟨[], rfl, h0⟩).mono ?_
  · rintro pre x V ⟨pre', rfl, hj⟩ hlt hx
    refine (hY pre' ⟨x, hx⟩ V hj (by unfold exfL at hlt; rw [List.length_map] at hlt; exact hlt)).mono ?_
    rintro e V' (⟨h1, h2, h3⟩ | ⟨h1, h2⟩)
    · exact .inl ⟨h1, ⟨_, by unfold exfL; rw [List.map_append]; rfl, h2⟩, h3⟩
    · exact .inr ⟨h1, ⟨_, by unfold exfL; rw [List.map_append]; rfl, h2⟩⟩
  · rintro e V ⟨hv, (⟨ys, h1, ys', h2, h3⟩ | ⟨pre, h1, pre', h2, h3⟩)⟩
    · exact ⟨hv, .inl ⟨ys', h2.trans h1, h3⟩⟩
    · exact ⟨hv, .inr ⟨pre', by show exfL pre' <+: p.out; rw [h2]; exact h1, h3⟩⟩
/-- What the box holds: a slice of its own with these extents. -/
def Holds (n₀ Bl : Nat) (r : List Ex) (W : World) : Prop := ∃ v, Boxed W Bl 138 v ∧ W.ownsRow n₀ 158 3 v r.length (exCells r)
theorem Holds.own {β : Type} {n₀ Bl : Nat} (f : β → List Ex) : Own (fun s W => Holds n₀ Bl (f s) W) := by
  have := holdsRow_own (β := β) n₀ Bl 138 158 3 (fun s => (f s).length) (fun s => exCells (f s)) (fun _ _ => True)
  intro s W W' row hs hg hr
  obtain ⟨v, h1, h2⟩ := hs
  obtain ⟨v', h1', h2', _⟩ := this s W W' row ⟨v, h1, h2, trivial⟩ hg hr
  exact ⟨v', h1', h2'⟩
theorem keeps_of_below {V V2 : World} (h : Below V.heap.size V V2) : KeepsOthers V V2 := KeepsOthers.of_grownBy (grown_of_below h) (fun j o e _ => by cases e)
theorem cells_three (w : World) (x y z : Value) (t : TypeId) : ∀ j u, [x, y, z][j]? = some u → (w.alloc (.cells #[x, y, z] t)).cell? ((⟨w.heap.size, 0, none⟩ : Addr).add j) = some u := by
  intro j u hj
  match j, hj with
  | 0, hj => simp at hj; subst hj; simp [Addr.add]
  | 1, hj => simp at hj; subst hj; simp [Addr.add]
  | 2, hj => simp at hj; subst hj; simp [Addr.add]
theorem three_cells {k : IntKind} {i j l : Int} : ∀ u ∈ [Value.int k i, .int k j, .int k l], u.oneCell' = true := by
  intro u hu
  simp at hu
  rcases hu with rfl | rfl | rfl <;> rfl
theorem info32 : (Tryz.prog.info? 158).map (fun i => (i.zero, i.size, i.bytes)) = some (some (.agg #[.int .i64 0, .int .i64 0, .int .i64 0]), 3, 24) := by kernel_rfl
/-- Of merged's loop: the first k iterators have given all. -/
def MgAt (w : World) (ps : List Part) (Ds : List Nat) (i : Value) (W : World) : Prop :=
  ∃ k : Nat, i = .int .i64 k ∧ k ≤ ps.length ∧ Holds w.heap.size w.heap.size (mrgX [] (outs (ps.take k))) W ∧ Below w.heap.size w W ∧ Marks w.heap.size Ds W
set_option maxRecDepth 100000 in
set_option maxHeartbeats 4000000 in
theorem merged_in (ps : List Part) (B : Nat) (w : World) (hB : ∀ (j : Nat) p, ps[j]? = some p → w.cell? ⟨B, j, none⟩ = some p.v) (hBl : B < w.heap.size) (hp : ∀ p ∈ ps, PartOk w p) (hlen : (outs ps).length ≤ 1000000) (hpl : ps.length ≤ 1000) :
    CallsIn Fence.wide 9 Tryz.prog 180 #[.slice (some ⟨B, 0, none⟩) ps.length ps.length] w fun e W' => ∃ v, e = .returned v ∧ W'.ownsRow w.heap.size 158 3 v (mrgX [] (outs ps)).length (exCells (mrgX [] (outs ps))) ∧ Below w.heap.size w W' := by
  have HBc := Lib.hid hB; have HP := Lib.hid hp; have HLEN := Lib.hid hlen
  clear hB hp hlen
  refine callsIn_of_wp_marks Tryz.func180 rfl trivial ?_ rfl
  simp only [Tryz.ntmps180, List.size_toArray, List.length_cons, List.length_nil, Nat.reduceAdd, Nat.reduceSub, Array.replicate_succ, Array.replicate_zero, List.push_toArray, List.append_toArray, List.nil_append, List.cons_append]
  gi_wp2
  have hb0 := Boxed.new w 138 (.slice none 0 0)
  have hbw := (Below.refl w.heap.size w).alloc (Nat.le_refl _) (.cells #[.slice none 0 0] 138)
  refine wpIn_loop (fun a' W => ∃ (u5 u10 u11 u12 u13 u14 u43 : Value) (Ds : List Nat), a' = { tmps := #[.slice (some ⟨B, 0, none⟩) ps.length ps.length, undef, .slice none 0 0, .pointer (some ⟨w.heap.size, 0, none⟩), undef, u5, undef, undef, .slice (some ⟨B, 0, none⟩) ps.length ps.length, .int .i64 ps.length, u10, u11, u12, u13, u14, undef, undef, undef, undef, undef, undef, undef, undef, undef, undef, undef, undef, undef, undef, undef, undef, undef, undef, undef, undef, undef, undef, undef, undef, undef, undef, undef, undef, u43, undef], defers := Ds.map mark } ∧ MgAt w ps Ds u10 W) (fun a' _ => ps.length - (intOf (a'.tmps.getD 10 undef)).toNat) ?_ ?_
  · exact ⟨_, _, _, _, _, _, _, [], rfl, 0, rfl, Nat.zero_le _, ⟨_, hb0, World.ownsRow_nil _ _ _ _⟩, hbw, List.nodup_nil, fun D hD => by cases hD⟩
  clear hb0 hbw
  rintro _ W ⟨u5, u10, u11, u12, u13, u14, u43, Ds, rfl, k, rfl, hk, hho, hbl, hma⟩
  have HH := Lib.hid hho; have HBL := Lib.hid hbl; have HM := Lib.hid hma
  clear hho hbl hma
  by_cases hlt : k < ps.length
  · obtain ⟨p, hpk⟩ : ∃ p, ps[k]? = some p := ⟨_, List.getElem?_eq_getElem hlt⟩
    have hki : (k : Int) < ps.length := by omega
    have hcell : W.cell? ⟨B, k, none⟩ = some p.v := (HBL.out.cell (p := ⟨B, k, none⟩) hBl).trans (HBc.out k p hpk)
    have hpo := HP.out p (List.mem_of_getElem? hpk)
    have HPO := Lib.hid hpo; have HPK := Lib.hid hpk
    clear hpo hpk
    gi_wp2
    have hv : p.v = .func (.func 204) #[] #[.pointer (some ⟨p.b0, 0, none⟩), .pointer (some ⟨p.b1, 0, none⟩), .pointer (some ⟨p.b2, 0, none⟩)] := rfl
    have hDs : ∀ D ∈ Ds, D < W.heap.size := fun D hD => HM.out.lt hD
    have hsz := HBL.out.size
    have hLK : (outs (ps.take k)).length + p.out.length ≤ 1000000 := by
      have h1 := congrArg List.length (outs_next HPK.out)
      rw [List.length_append] at h1
      have h2 : (outs (ps.take (k + 1))).length ≤ (outs ps).length := by
        have h3 : outs (ps.take (k + 1)) ++ outs (ps.drop (k + 1)) = outs ps := by unfold outs; rw [← List.flatMap_append, List.take_append_drop]
        rw [← h3, List.length_append]; omega
      have := HLEN.out
      omega
    obtain ⟨R, hR⟩ : ∃ R, mrgX [] (outs (ps.take k)) = R := ⟨_, rfl⟩
    have HR := Lib.hid hR; clear hR
    refine wpIn_rangeFunc_ownH (F := Fence.wide) (n := 9) rfl (by decide) (gf := 204) (lb := #[.pointer (some ⟨p.b0, 0, none⟩), .pointer (some ⟨p.b1, 0, none⟩), .pointer (some ⟨p.b2, 0, none⟩)]) hv trivial (enters_of Tryz.func204 (by kernel_rfl) rfl)
      (left_stops 8 (by omega) w.heap.size W HBL.out.size p (HPO.out.it.below HBL.out) HPO.out.lo HPO.out.hi HPO.out.fit HPO.out.len) belowK_t (belowK_b hsz) (Below.refl _ _) (fun _ => rfl)
      (fun (pre : List ExF) V => Holds w.heap.size w.heap.size (mrgX R (exfL pre)) V ∧ (Below w.heap.size w V ∧ Marks w.heap.size Ds V))
      (fun _ _ _ => False)
      (OwnFrom.and (Own.from (Holds.own _) _) (OwnFrom.and (ownFrom_below (Nat.le_refl _) hsz) (Marks.own hDs)))
      (fun _ _ _ _ _ hs _ _ => hs)
      ⟨by show Holds _ _ R W; rw [← HR.out]; exact HH.out, HBL.out, HM.out⟩
      (fun (x : ExF) a' V => ∃ Bx, w.heap.size < Bx ∧ Blk V Bx 158 (exC x.1) ∧ a' = { tmps := #[.slice (some ⟨B, 0, none⟩) ps.length ps.length, undef, .slice none 0 0, .pointer (some ⟨w.heap.size, 0, none⟩), undef, p.v, .pointer (some ⟨Bx, 0, none⟩), undef, .slice (some ⟨B, 0, none⟩) ps.length ps.length, .int .i64 ps.length, .int .i64 k, .bool true, .pointer (some ⟨B, k, none⟩), p.v, p.v, exV x.1, undef, undef, undef, undef, undef, undef, undef, undef, undef, undef, undef, undef, undef, undef, undef, undef, undef, undef, undef, undef, undef, undef, undef, undef, undef, undef, undef, u43, undef], defers := [] })
      ?_ ?assign ?body ?done ?stop
    · intro x a' _ X Y row hs hg hr
      obtain ⟨Bx, h1, h2, h3⟩ := hs
      refine ⟨Bx, h1, h2.grown hg (fun e => ?_), h3⟩
      obtain ⟨o, ho, hc⟩ := (hr Bx e.symm).2
      unfold Blk at h2
      rw [h2] at ho
      cases ho
      cases hc
    case assign =>
      rintro lp pre x V K ⟨hho, hbl, hma⟩ hK
      have hszV := hbl.size
      have HH2 := Lib.hid hho; have HBL2 := Lib.hid hbl; have HM2 := Lib.hid hma
      clear hho hbl hma
      clear hv
      unfold exV at hK ⊢
      gi_wp2
      refine hK _ _ ((KeepsOthers.alloc _ _).from _) ((Below.refl _ V).alloc hszV _) ⟨(Own.from (Holds.own (fun (_ : Unit) => mrgX R (exfL pre))) 0).alloc (s := ()) _ HH2.out, HBL2.out.alloc hszV _, HM2.out.keeps (KeepsOthers.alloc _ _)⟩ ⟨V.heap.size, ?_, Blk.new V 158 _, rfl⟩
      obtain ⟨v, hv1, _⟩ := HH2.out
      exact hv1.lt
    case body =>
      rintro lp pre x a' V hl0 hr0 ⟨hho, hbl, hma⟩ ⟨Bx, hBx, hbx, rfl⟩ hpre
      obtain ⟨v, hbox, hrow⟩ := hho
      have HROW := Lib.hid hrow; have HBOX := Lib.hid hbox; have HBL2 := Lib.hid hbl; have HM2 := Lib.hid hma; have HX := Lib.hid hbx
      have hszV := hbl.size
      clear hbl hma
      have cL := hbox.cell
      have d0 := hbx.cell 0
      have d1 := hbx.cell 1
      have d2 := hbx.cell 2
      obtain ⟨A, c, rfl⟩ := own_form hrow
      clear hrow hbox hbx hl0 hr0 hv
      unfold exV
      obtain ⟨x, hxf⟩ := x
      dsimp only
      obtain ⟨Q, hQ⟩ : ∃ Q, mrgX R (exfL pre) = Q := ⟨_, rfl⟩
      have hsm := mrg_small (exfL pre) (outs (ps.take k)).length R (by
        rw [← HR.out]
        have := (mrg_small (outs (ps.take k)) 0 [] (fun y hy => by cases hy) (outs_fits (w := w) (fun p' hp' => HP.out p' (List.mem_of_mem_take hp')))).1
        rwa [Nat.zero_add] at this) (exfL_fits pre)
      have hRl : R.length ≤ (outs (ps.take k)).length := by
        rw [← HR.out]
        have := (mrg_small (outs (ps.take k)) 0 [] (fun y hy => by cases hy) (outs_fits (w := w) (fun p' hp' => HP.out p' (List.mem_of_mem_take hp')))).2
        rwa [List.length_nil, Nat.zero_add] at this
      rw [hQ, exfL_length] at hsm
      rw [hQ] at HROW HBOX cL
      have HQ := Lib.hid (show mrgX R (exfL (pre ++ [⟨x, hxf⟩])) = pushX Q x by rw [exfL_snoc, mrg_snoc, hQ])
      have hQl : Q.length + 1 ≤ 1000000 := by omega
      have HSM := Lib.hid hsm
      have HXF := Lib.hid hxf
      clear hQ hsm hRl
      by_cases hnil : Q = []
      · rw [hnil] at cL
        rw [hnil] at HROW HBOX
        have HBOX := Lib.hid (show Boxed V w.heap.size 138 (.slice A 0 c) from HBOX.out)
        have HROW := Lib.hid (show V.ownsRow w.heap.size 158 3 (.slice A 0 c) 0 (exCells []) from HROW.out)
        have HNIL := Lib.hid hnil; clear hnil
        gi_wp2
        obtain ⟨C, hC0, hCl, hCi, hCm⟩ := class_of V (fun _ => True) (fun _ _ => trivial)
        clear hCm hCl
        refine round_region_class C (by kernel_rfl) (by rintro ⟨_, _, h⟩; exact h) (by kernel_rfl) (by kernel_rfl) hC0 ?_
        go_big_quiet_want
        go_big_quiet_op
        first | go_big_quiet_on | (refine ⟨_, fun _ _ => rfl, ?_⟩; go_big_quiet_on)
        go_big_quiet_want
        go_big_quiet_op
        first | go_big_quiet_on | (refine ⟨_, fun _ _ => rfl, ?_⟩; go_big_quiet_on)
        go_big_quiet_want
        go_big_quiet_op
        first | go_big_quiet_on | (refine ⟨_, fun _ _ => rfl, ?_⟩; go_big_quiet_on)
        go_big_quiet_skip
        go_big_quiet_skip
        go_big_quiet_skip
        go_big_quiet_skip
        go_big_quiet_skip
        go_big_quiet_skip
        go_big_quiet_want
        go_big_quiet_op
        first | go_big_quiet_on | (refine ⟨_, fun _ _ => rfl, ?_⟩; go_big_quiet_on)
        refine wpQuiet_nil ?_
        intro V2 hC5
        have hb5 := hCi _ hC5
        clear hC5 hC0 hCi
        have HB2 := Lib.hid (show Below w.heap.size V V2 from hb5.mono hszV)
        have HK2 := Lib.hid (keeps_of_below hb5)
        have HBOX2 := Lib.hid (HBOX.out.kept (grown_of_below hb5) (by simp))
        have HROW2 := Lib.hid (own_keep HROW.out (fun g hg => hb5.block g (HROW.out.lt g hg).2))
        have HX2 := Lib.hid (HX.out.below hb5 HX.out.lt)
        have hs2 := hb5.size
        have c2 := HBOX2.out.cell
        have e0 := HX2.out.cell 0
        have e1 := HX2.out.cell 1
        have e2 := HX2.out.cell 2
        clear hb5 cL d0 d1 d2
        have hcs := cells_three V2 (.int .i64 x.l) (.int .i64 x.b) (.int .i64 x.a) 158
        obtain ⟨i0, hi, hz0, hz1, hz2⟩ := info_parts info32
        have HM1 : 0 + 1 ≤ maxLen := by unfold maxLen; simp
        have HM2x : (0 + 1) * 24 ≤ 140737488355328 := by simp
        have HM3 : w.heap.size ≤ (V2.alloc (.cells #[.int .i64 x.l, .int .i64 x.b, .int .i64 x.a] 158)).heap.size := by simp; omega
        gi_wp2_with (gi_at_builtin; refine wpListIn_append_own _ rfl (.tmp 39) (.tmp 41) 138 rfl w.heap.size 158 i0 (.agg #[.int .i64 0, .int .i64 0, .int .i64 0]) 3 24 Tryz.underlying138 hi hz0 hz1 hz2 rfl (by decide) (.slice A 0 c) 0 (exCells []) rfl (HROW2.out.alloc _) ⟨V2.heap.size, 0, none⟩ 1 1 [.int .i64 x.l, .int .i64 x.b, .int .i64 x.a] rfl rfl hcs three_cells HM1 HM2x HM3 ?_; intro v' w1 hown' hgrow _; obtain ⟨g', cap', rfl⟩ := ownsRow_succ hown'; obtain ⟨hv1, hv2, hr2, hk2, hb2⟩ := HBOX2.out.appended (by decide) HROW2.out (by omega) (Nat.le_refl _) hown' hgrow; have HK3 := Lib.hid hk2; have HB3 := Lib.hid hb2; have HR3 := Lib.hid hr2; have HV3 := Lib.hid hv2; have hc1 := hv1.cell; have hf1 := hv1.frozen; clear hown' hgrow hk2 hb2 hr2 hv2 hv1)
        have HKK := Lib.hid (HK2.out.trans HK3.out)
        refine ⟨HKK.out.from _, HB2.out.trans HB3.out, ⟨_, HV3.out, ?_⟩, HBL2.out.trans (HB2.out.trans HB3.out), HM2.out.keeps HKK.out⟩
        rw [HQ.out, HNIL.out, push_nil]
        exact HR3.out
      · obtain ⟨Q', y, rfl⟩ := split_last hnil
        clear hnil
        have hln : (Q' ++ [y]).length = Q'.length + 1 := by simp
        rw [hln] at HROW HBOX cL hQl
        obtain ⟨g, cur, rfl, hg1, hgb, hgt⟩ := own_some HROW.out (by omega)
        have hyat : (Q' ++ [y])[Q'.length]? = some y := by simp
        obtain ⟨y0, y1, y2⟩ := exCells_at hyat
        rw [← hgt, List.getElem?_take, if_pos (by omega)] at y0 y1 y2
        have q0 : V.cell? ⟨g, Q'.length * 3, none⟩ = some (.int .i64 y.l) := by rw [hgb.cell]; simpa using y0
        have q1 : V.cell? ⟨g, Q'.length * 3 + 1, none⟩ = some (.int .i64 y.b) := by rw [hgb.cell]; simpa using y1
        have q2 : V.cell? ⟨g, Q'.length * 3 + 2, none⟩ = some (.int .i64 y.a) := by rw [hgb.cell]; simpa using y2
        have hfr := hgb.free (Q'.length * 3 + 1)
        have HGB := Lib.hid hgb
        have hys := HSM.out.1 y (by simp)
        unfold Small at hys
        have hkN : (outs (ps.take k)).length + pre.length ≤ 1000000 := by omega
        have hxf := HXF.out
        unfold Ex.Fits at hxf
        have HGO := Lib.hid (fun v => goes_any y x v (by omega) (by omega) (by omega) (by omega))
        have hwb : IntKind.i64.wrap (y.b + x.b) = y.b + x.b := i64w _ (by omega)
        have hwm : IntKind.i64.wrap ((Q'.length : Int) + 1 - 1) = (Q'.length : Int) := by rw [IntKind.wrap_i64]; omega
        have hge : decide ((Q'.length : Int) ≥ 0) = true := decide_eq_true (by omega)
        have hxl : (Q'.length : Int) < (Q'.length : Int) + 1 := by omega
        have HYS := Lib.hid hys
        clear hys hxf y0 y1 y2 hgt hyat hgb
        obtain ⟨C, hC0, hCl, hCi, hCm⟩ := class_of V (fun v => (v.cell? ⟨w.heap.size, 0, none⟩ = some (.slice (some ⟨g, 0, none⟩) (Q'.length + 1) c) ∧ (v.cell? ⟨Bx, 0, none⟩ = some (.int .i64 x.l) ∧ v.cell? ⟨Bx, 1, none⟩ = some (.int .i64 x.b) ∧ v.cell? ⟨Bx, 2, none⟩ = some (.int .i64 x.a)) ∧ (v.cell? ⟨g, Q'.length * 3, none⟩ = some (.int .i64 y.l) ∧ v.cell? ⟨g, Q'.length * 3 + 1, none⟩ = some (.int .i64 y.b) ∧ v.cell? ⟨g, Q'.length * 3 + 2, none⟩ = some (.int .i64 y.a)))) (fun v hb => ⟨(hb.cell (p := ⟨w.heap.size, 0, none⟩) HBOX.out.lt).trans HBOX.out.cell, blk_cells3 HX.out hb, cells_below hb q0 q1 q2⟩)
        have HL := Lib.hid hCl; have HCm := Lib.hid hCm; have HCi := Lib.hid hCi; have HC0 := Lib.hid hC0
        clear hCl hCm hCi hC0
        cases hgo : goesB y x with
        | false =>
          have HGF := Lib.hid hgo
          rw [hgo] at HGO
          clear hgo
          unfold exV at HGO
          gi_wp2
          refine round_region_class C (by kernel_rfl) (by rintro ⟨_, _, h⟩; exact h) (by kernel_rfl) (by kernel_rfl) HC0.out ?_
          go_big_quiet_want
          go_big_quiet_op
          first | go_big_quiet_on | (refine ⟨_, fun _ _ => rfl, ?_⟩; go_big_quiet_on)
          go_big_quiet_want
          go_big_quiet_op
          first | go_big_quiet_on | (refine ⟨_, fun _ _ => rfl, ?_⟩; go_big_quiet_on)
          go_big_quiet_want
          go_big_quiet_op
          first | go_big_quiet_on | (refine ⟨_, fun _ _ => rfl, ?_⟩; go_big_quiet_on)
          go_big_quiet_want
          refine quiet_run (v := .slice (some ⟨g, 0, none⟩) (Q'.length + 1) c) (fun v hv => by obtain ⟨a0, ⟨b0, b1, b2⟩, r0, r1, r2⟩ := HL.out v hv; go_simp) ?_
          simp only [Act.put, List.setIfInBounds_toArray, List.set_cons_zero, List.set_cons_succ]
          go_big_quiet_on
          go_big_quiet_want
          go_big_quiet_op
          first | go_big_quiet_on | (refine ⟨_, fun _ _ => rfl, ?_⟩; go_big_quiet_on)
          go_big_quiet_want
          refine quiet_run (v := .pointer (some ⟨g, Q'.length * 3, none⟩)) (fun v hv => by obtain ⟨a0, ⟨b0, b1, b2⟩, r0, r1, r2⟩ := HL.out v hv; go_simp) ?_
          simp only [Act.put, List.setIfInBounds_toArray, List.set_cons_zero, List.set_cons_succ]
          go_big_quiet_on
          go_big_quiet_want
          refine quiet_run (v := .agg #[.int .i64 y.l, .int .i64 y.b, .int .i64 y.a]) (fun v hv => by obtain ⟨a0, ⟨b0, b1, b2⟩, r0, r1, r2⟩ := HL.out v hv; go_simp) ?_
          simp only [Act.put, List.setIfInBounds_toArray, List.set_cons_zero, List.set_cons_succ]
          go_big_quiet_on
          go_big_quiet_want
          refine quiet_run (v := .agg #[.int .i64 x.l, .int .i64 x.b, .int .i64 x.a]) (fun v hv => by obtain ⟨a0, ⟨b0, b1, b2⟩, r0, r1, r2⟩ := HL.out v hv; go_simp) ?_
          simp only [Act.put, List.setIfInBounds_toArray, List.set_cons_zero, List.set_cons_succ]
          go_big_quiet_on
          go_big_quiet_want
          refine quiet_call (f := 203) (args := #[.agg #[.int .i64 y.l, .int .i64 y.b, .int .i64 y.a], .agg #[.int .i64 x.l, .int .i64 x.b, .int .i64 x.a]]) (fun v _ => by go_simp) (fun v hv => (HGO.out v).mono (fun e w' h => ⟨h.1, HCm.out v w' hv h.2⟩)) ?_
          simp only [Act.put, List.setIfInBounds_toArray, List.set_cons_zero, List.set_cons_succ]
          go_big_quiet_on
          go_big_quiet_want
          go_big_quiet_op
          first | go_big_quiet_on | (refine ⟨_, fun _ _ => rfl, ?_⟩; go_big_quiet_on)
          refine wpQuiet_nil ?_
          intro V2 hC5
          have hb5 := HCi.out _ hC5
          clear hC5 q0 q1 q2 hfr
          have HB2 := Lib.hid (show Below w.heap.size V V2 from hb5.mono hszV)
          have HK2 := Lib.hid (keeps_of_below hb5)
          have HBOX2 := Lib.hid (HBOX.out.kept (grown_of_below hb5) (by simp))
          have HROW2 := Lib.hid (own_keep HROW.out (fun g hg => hb5.block g (HROW.out.lt g hg).2))
          have HX2 := Lib.hid (HX.out.below hb5 HX.out.lt)
          have hs2 := hb5.size
          have c2 := HBOX2.out.cell
          have e0 := HX2.out.cell 0
          have e1 := HX2.out.cell 1
          have e2 := HX2.out.cell 2
          clear hb5 cL d0 d1 d2
          have hcs := cells_three V2 (.int .i64 x.l) (.int .i64 x.b) (.int .i64 x.a) 158
          obtain ⟨i0, hi, hz0, hz1, hz2⟩ := info_parts info32
          have HM1 : Q'.length + 1 + 1 ≤ maxLen := by unfold maxLen; omega
          have HM2x : (Q'.length + 1 + 1) * 24 ≤ 140737488355328 := by omega
          have HM3 : w.heap.size ≤ (V2.alloc (.cells #[.int .i64 x.l, .int .i64 x.b, .int .i64 x.a] 158)).heap.size := by simp; omega
          gi_wp2_with (gi_at_builtin; refine wpListIn_append_own _ rfl (.tmp 39) (.tmp 41) 138 rfl w.heap.size 158 i0 (.agg #[.int .i64 0, .int .i64 0, .int .i64 0]) 3 24 Tryz.underlying138 hi hz0 hz1 hz2 rfl (by decide) (.slice (some ⟨g, 0, none⟩) (Q'.length + 1) c) (Q'.length + 1) (exCells (Q' ++ [y])) rfl (HROW2.out.alloc _) ⟨V2.heap.size, 0, none⟩ 1 1 [.int .i64 x.l, .int .i64 x.b, .int .i64 x.a] rfl rfl hcs three_cells HM1 HM2x HM3 ?_; intro v' w1 hown' hgrow _; obtain ⟨g', cap', rfl⟩ := ownsRow_succ hown'; obtain ⟨hv1, hv2, hr2, hk2, hb2⟩ := HBOX2.out.appended (by decide) HROW2.out (by omega) (Nat.le_refl _) hown' hgrow; have HK3 := Lib.hid hk2; have HB3 := Lib.hid hb2; have HR3 := Lib.hid hr2; have HV3 := Lib.hid hv2; have hc1 := hv1.cell; have hf1 := hv1.frozen; clear hown' hgrow hk2 hb2 hr2 hv2 hv1)
          have HKK := Lib.hid (HK2.out.trans HK3.out)
          refine ⟨HKK.out.from _, HB2.out.trans HB3.out, ⟨_, HV3.out, ?_⟩, HBL2.out.trans (HB2.out.trans HB3.out), HM2.out.keeps HKK.out⟩
          rw [HQ.out, push_last, if_neg (by rw [HGF.out]; simp)]
          have := HR3.out
          rw [exCells_snoc (Q' ++ [y]) x]
          simpa using this
        | true =>
          have HGF := Lib.hid hgo
          rw [hgo] at HGO
          clear hgo
          unfold exV at HGO
          gi_wp2
          refine round_region_class C (by kernel_rfl) (by rintro ⟨_, _, h⟩; exact h) (by kernel_rfl) (by kernel_rfl) HC0.out ?_
          go_big_quiet_want
          go_big_quiet_op
          first | go_big_quiet_on | (refine ⟨_, fun _ _ => rfl, ?_⟩; go_big_quiet_on)
          go_big_quiet_want
          go_big_quiet_op
          first | go_big_quiet_on | (refine ⟨_, fun _ _ => rfl, ?_⟩; go_big_quiet_on)
          go_big_quiet_want
          go_big_quiet_op
          first | go_big_quiet_on | (refine ⟨_, fun _ _ => rfl, ?_⟩; go_big_quiet_on)
          go_big_quiet_want
          refine quiet_run (v := .slice (some ⟨g, 0, none⟩) (Q'.length + 1) c) (fun v hv => by obtain ⟨a0, ⟨b0, b1, b2⟩, r0, r1, r2⟩ := HL.out v hv; go_simp) ?_
          simp only [Act.put, List.setIfInBounds_toArray, List.set_cons_zero, List.set_cons_succ]
          go_big_quiet_on
          go_big_quiet_want
          go_big_quiet_op
          first | go_big_quiet_on | (refine ⟨_, fun _ _ => rfl, ?_⟩; go_big_quiet_on)
          go_big_quiet_want
          refine quiet_run (v := .pointer (some ⟨g, Q'.length * 3, none⟩)) (fun v hv => by obtain ⟨a0, ⟨b0, b1, b2⟩, r0, r1, r2⟩ := HL.out v hv; go_simp) ?_
          simp only [Act.put, List.setIfInBounds_toArray, List.set_cons_zero, List.set_cons_succ]
          go_big_quiet_on
          go_big_quiet_want
          refine quiet_run (v := .agg #[.int .i64 y.l, .int .i64 y.b, .int .i64 y.a]) (fun v hv => by obtain ⟨a0, ⟨b0, b1, b2⟩, r0, r1, r2⟩ := HL.out v hv; go_simp) ?_
          simp only [Act.put, List.setIfInBounds_toArray, List.set_cons_zero, List.set_cons_succ]
          go_big_quiet_on
          go_big_quiet_want
          refine quiet_run (v := .agg #[.int .i64 x.l, .int .i64 x.b, .int .i64 x.a]) (fun v hv => by obtain ⟨a0, ⟨b0, b1, b2⟩, r0, r1, r2⟩ := HL.out v hv; go_simp) ?_
          simp only [Act.put, List.setIfInBounds_toArray, List.set_cons_zero, List.set_cons_succ]
          go_big_quiet_on
          go_big_quiet_want
          refine quiet_call (f := 203) (args := #[.agg #[.int .i64 y.l, .int .i64 y.b, .int .i64 y.a], .agg #[.int .i64 x.l, .int .i64 x.b, .int .i64 x.a]]) (fun v _ => by go_simp) (fun v hv => (HGO.out v).mono (fun e w' h => ⟨h.1, HCm.out v w' hv h.2⟩)) ?_
          simp only [Act.put, List.setIfInBounds_toArray, List.set_cons_zero, List.set_cons_succ]
          go_big_quiet_on
          go_big_quiet_want
          go_big_quiet_op
          first | go_big_quiet_on | (refine ⟨_, fun _ _ => rfl, ?_⟩; go_big_quiet_on)
          refine wpQuiet_nil ?_
          intro V2 hC5
          have hb5 := HCi.out _ hC5
          obtain ⟨a0, ⟨b0, b1, b2⟩, r0, r1, r2⟩ := HL.out _ hC5
          have HB2 := Lib.hid (show Below w.heap.size V V2 from hb5.mono hszV)
          have HK2 := Lib.hid (keeps_of_below hb5)
          have HBOX2 := Lib.hid (HBOX.out.kept (grown_of_below hb5) (by simp))
          have HROW2 := Lib.hid (own_keep HROW.out (fun g hg => hb5.block g (HROW.out.lt g hg).2))
          have HGB2 := Lib.hid (HGB.out.below hb5 HGB.out.lt)
          have hfr2 := HGB2.out.free (Q'.length * 3 + 1)
          clear hC5 q0 q1 q2 hfr cL d0 d1 d2 hb5
          gi_wp2
          refine round_region_tail 10 (by kernel_rfl) (by rintro ⟨_, _, h⟩; exact h) (by kernel_rfl) (by kernel_rfl) ?_
          simp only [List.take_succ_cons, List.take_zero, List.drop_succ_cons, List.drop_zero]
          repeat still_step
          try refine wpStill_nil ?_
          go_wp2
          have hput := own_put (show V2.drew.ownsRow w.heap.size 158 3 (.slice (some ⟨g, 0, none⟩) (Q'.length + 1) c) (Q'.length + 1) (exCells (Q' ++ [y])) from HROW2.out) (Q'.length * 3 + 1) (.int .i64 (y.b + x.b))
          rw [exCells_last] at hput
          have HKK := Lib.hid (HK2.out.trans ((KeepsOthers.drew V2).trans (KeepsOthers.setCell V2.drew ⟨g, Q'.length * 3 + 1, none⟩ (.int .i64 (y.b + x.b)))))
          have HB3 := Lib.hid (HB2.out.drew.setCell (p := ⟨g, Q'.length * 3 + 1, none⟩) hg1 (.int .i64 (y.b + x.b)))
          have hne : w.heap.size ≠ g := fun e => HBOX2.out.not_row (by decide) HROW2.out (by rw [e]; rfl)
          refine ⟨HKK.out.from _, HB3.out, ⟨_, Blk.far (show Blk V2.drew w.heap.size 138 #[_] from HBOX2.out) (p := ⟨g, Q'.length * 3 + 1, none⟩) hne _, ?_⟩, HBL2.out.trans HB3.out, HM2.out.keeps HKK.out⟩
          rw [HQ.out, push_last, if_pos HGF.out, show (Q' ++ [(⟨y.l, y.b + x.b, y.a⟩ : Ex)]).length = Q'.length + 1 by simp]
          exact hput
    case done =>
      rintro D xs V hD hxs ⟨hho, hbl, hma⟩ hK
      have HH3 := Lib.hid (show Holds w.heap.size w.heap.size (mrgX [] (outs (ps.take (k + 1)))) V by
        rw [outs_next HPK.out, mrg_app, HR.out]
        have := hho
        rw [show exfL xs = p.out from hxs] at this
        exact this)
      have HBL3 := Lib.hid hbl
      have HM3 := Lib.hid (show Marks w.heap.size (D :: Ds) V from ⟨List.nodup_cons.2 ⟨fun h => absurd (hDs D h) (by omega), hma.1⟩, fun E hE => by
        rcases List.mem_cons.1 hE with rfl | hE
        · exact ⟨by omega, hK⟩
        · exact hma.2 E hE⟩)
      clear hho hbl hma hK hxs hv
      gi_wp2
      exact ⟨⟨_, _, _, _, _, _, _, D :: Ds, rfl, k + 1, by go_num, by omega, HH3.out, HBL3.out, HM3.out⟩, by simp [intOf]; omega⟩
    case stop =>
      rintro D c pre W _ _ h _
      exact h.elim
  · obtain rfl : k = ps.length := by omega
    rw [List.take_length] at HH
    obtain ⟨v, hv1, hv2⟩ := HH.out
    have c0 := hv1.cell
    have HV2 := Lib.hid hv2
    clear hv1 hv2
    gi_wp2
    refine leaves_marks (n₀ := w.heap.size) (fun V => V.ownsRow w.heap.size 158 3 v (mrgX [] (outs ps)).length (exCells (mrgX [] (outs ps))) ∧ Below w.heap.size w V) ?_ Ds W HM.out ⟨HV2.out, HBL.out⟩ ?_
    · rintro V D o ⟨h1, h2⟩ hD hh
      exact ⟨ownsRow_putObj h1 o hh rfl, h2.grown (grownBy_putObj' V D o) h2.size (fun j e => by cases e; exact hD)⟩
    · rintro V ⟨h1, h2⟩
      exact ⟨_, results_tmp rfl _ _ _, v, rfl, h1, h2⟩
end Go.Proofs.YtglfjlbhjaemgaaGreatDoor.Ext
namespace Go.Proofs.YtglfjlbhjaemgaaGreatDoor.Ext
open Go.RowKit
/-- A list of extents whose block is new. -/
def ExtsF (B : Nat) (w : World) (A : Option Addr) (l : List Ex) : Prop := Exts w A l ∧ (0 < l.length → ∀ a, A = some a → B ≤ a.block)
theorem ExtsF.mono {B C : Nat} {w : World} {A : Option Addr} {l : List Ex} (h : ExtsF B w A l) (hc : C ≤ B) : ExtsF C w A l := ⟨h.1, fun hn a ha => Nat.le_trans hc (h.2 hn a ha)⟩
theorem ExtsF.nil (B : Nat) (w : World) (A : Option Addr) : ExtsF B w A [] := ⟨Exts.nil w A, fun h => absurd h (Nat.not_lt_zero _)⟩
theorem merged_any (ps : List Part) (B : Nat) (w : World) (hB : ∀ (j : Nat) p, ps[j]? = some p → w.cell? ⟨B, j, none⟩ = some p.v) (hBl : B < w.heap.size) (hp : ∀ p ∈ ps, PartOk w p) (hlen : (outs ps).length ≤ 1000000) (hpl : ps.length ≤ 1000) (r : List Ex) (hr : mrgX [] (outs ps) = r) :
    Calls Tryz.prog 180 #[.slice (some ⟨B, 0, none⟩) ps.length ps.length] w fun e w' => ∃ A c, e = .returned (.slice A r.length c) ∧ ExtsF w.heap.size w' A r ∧ Below w.heap.size w w' := by
  refine (callsIn_wide.1 (merged_in ps B w hB hBl hp hlen hpl)).mono ?_
  rintro e w' ⟨v, rfl, hrow, hb⟩
  have hsm := (mrg_small (outs ps) 0 [] (fun y hy => by cases hy) (outs_fits hp)).1
  rw [hr] at hsm hrow
  obtain ⟨A, c, rfl, hex, hfr⟩ := exts_of_own hrow (fun x hx => by
    have := hsm x hx
    unfold Small at this
    exact Ex.Wf.of_small (k := 4096 * ((0 + (outs ps).length : Nat) : Int)) this (by omega))
  exact ⟨A, c, rfl, ⟨hex, hfr⟩, hb⟩
theorem IterAt.more {w v : World} {b0 b1 b2 : Nat} {A : Option Addr} {c : Nat} {l : List Ex} {lo hi : Int} (h : IterAt w.heap.size w b0 b1 b2 A c l lo hi) (hb : Below w.heap.size w v) : IterAt v.heap.size v b0 b1 b2 A c l lo hi := by
  have h2 := h.below hb
  have hs := hb.size
  exact ⟨h2.c0, h2.c1, h2.c2, Nat.lt_of_lt_of_le h2.k0 hs, Nat.lt_of_lt_of_le h2.k1 hs, Nat.lt_of_lt_of_le h2.k2 hs, h2.ext, fun hn a ha => Nat.lt_of_lt_of_le (h2.kA hn a ha) hs⟩
theorem PartOk.more {w v : World} {p : Part} (h : PartOk w p) (hb : Below w.heap.size w v) : PartOk v p := ⟨h.it.more hb, h.lo, h.hi, h.fit, h.len⟩
theorem merged3 (P1 P2 P3 : Part) (V : World) (h1 : PartOk V P1) (h2 : PartOk V P2) (h3 : PartOk V P3) (hlen : (outs [P1, P2, P3]).length ≤ 1000000) (r : List Ex) (hr : mrgX [] (outs [P1, P2, P3]) = r) :
    Calls Tryz.prog 180 #[.slice (some ⟨V.heap.size, 0, none⟩) 3 3] (V.alloc (.cells #[P1.v, P2.v, P3.v] 276)) fun e w' => ∃ A c, e = .returned (.slice A r.length c) ∧ ExtsF V.heap.size w' A r ∧ Below V.heap.size V w' := by
  have hb := (Below.refl V.heap.size V).alloc (Nat.le_refl _) (.cells #[P1.v, P2.v, P3.v] 276)
  have hk := Blk.new V 276 #[P1.v, P2.v, P3.v]
  refine (merged_any [P1, P2, P3] V.heap.size (V.alloc (.cells #[P1.v, P2.v, P3.v] 276)) ?_ hk.lt ?_ hlen (by simp) r hr).mono ?_
  · intro j p hj
    match j, hj with
    | 0, hj => simp at hj; subst hj; exact hk.cell 0
    | 1, hj => simp at hj; subst hj; exact hk.cell 1
    | 2, hj => simp at hj; subst hj; exact hk.cell 2
  · intro p hp
    simp at hp
    rcases hp with rfl | rfl | rfl
    · exact h1.more hb
    · exact h2.more hb
    · exact h3.more hb
  · rintro e w' ⟨A, c, h4, h5, h6⟩
    exact ⟨A, c, h4, h5.mono hb.size, hb.trans (h6.mono hb.size)⟩
theorem merged2 (P1 P2 : Part) (V : World) (h1 : PartOk V P1) (h2 : PartOk V P2) (hlen : (outs [P1, P2]).length ≤ 1000000) (r : List Ex) (hr : mrgX [] (outs [P1, P2]) = r) :
    Calls Tryz.prog 180 #[.slice (some ⟨V.heap.size, 0, none⟩) 2 2] (V.alloc (.cells #[P1.v, P2.v] 276)) fun e w' => ∃ A c, e = .returned (.slice A r.length c) ∧ ExtsF V.heap.size w' A r ∧ Below V.heap.size V w' := by
  have hb := (Below.refl V.heap.size V).alloc (Nat.le_refl _) (.cells #[P1.v, P2.v] 276)
  have hk := Blk.new V 276 #[P1.v, P2.v]
  refine (merged_any [P1, P2] V.heap.size (V.alloc (.cells #[P1.v, P2.v] 276)) ?_ hk.lt ?_ hlen (by simp) r hr).mono ?_
  · intro j p hj
    match j, hj with
    | 0, hj => simp at hj; subst hj; exact hk.cell 0
    | 1, hj => simp at hj; subst hj; exact hk.cell 1
  · intro p hp
    simp at hp
    rcases hp with rfl | rfl
    · exact h1.more hb
    · exact h2.more hb
  · rintro e w' ⟨A, c, h4, h5, h6⟩
    exact ⟨A, c, h4, h5.mono hb.size, hb.trans (h6.mono hb.size)⟩
theorem left_length (lo hi : Int) (l : List Ex) : (leftX lo hi l).length ≤ l.length := List.length_filterMap_le _ _
theorem mk_left (a b c : Value) (v : World) : Sem.run Tryz.prog (Instr.makeFunc (Fn.func 204) #[] #[a, b, c]) v = .ok (.func (.func 204) #[] #[a, b, c]) v := by kernel_rfl
theorem iter_new (A : Option Addr) (c : Nat) (l : List Ex) (lo hi : Int) (w : World) (hl : Exts w A l) : ∀ v, v = ((w.alloc (.cells #[.slice A l.length c] 138)).alloc (.cells #[.int .i64 lo] 3)).alloc (.cells #[.int .i64 hi] 3) →
    IterAt v.heap.size v w.heap.size (w.heap.size + 1) (w.heap.size + 1 + 1) A c l lo hi ∧ Below w.heap.size w v := by
  rintro v rfl
  have hb1 := (Below.refl w.heap.size w).alloc (Nat.le_refl _) (.cells #[.slice A l.length c] 138)
  have hb2 := hb1.alloc (by simp) (.cells #[.int .i64 lo] 3)
  have hb3 := hb2.alloc (by simp only [World.size_alloc]; omega) (.cells #[.int .i64 hi] 3)
  have k0 := ((Blk.new w 138 #[.slice A l.length c]).alloc (.cells #[.int .i64 lo] 3)).alloc (.cells #[.int .i64 hi] 3)
  have k1 := (Blk.new (w.alloc (.cells #[.slice A l.length c] 138)) 3 #[.int .i64 lo]).alloc (.cells #[.int .i64 hi] 3)
  have k2 := Blk.new ((w.alloc (.cells #[.slice A l.length c] 138)).alloc (.cells #[.int .i64 lo] 3)) 3 #[.int .i64 hi]
  simp only [World.size_alloc] at k1 k2
  refine ⟨⟨k0.cell 0, k1.cell 0, k2.cell 0, by simp only [World.size_alloc]; omega, by simp only [World.size_alloc]; omega, by simp only [World.size_alloc]; omega, hl.below hb3, fun hn a ha => ?_⟩, hb3⟩
  have := hl.lt hn a ha
  simp only [World.size_alloc]
  omega
set_option maxHeartbeats 1000000 in
theorem left_any (A : Option Addr) (c : Nat) (l : List Ex) (lo hi : Int) (w : World) (hl : Exts w A l) :
    Calls Tryz.prog 181 #[.slice A l.length c, .int .i64 lo, .int .i64 hi] w fun e w' => ∃ b0 b1 b2, e = .returned (.func (.func 204) #[] #[.pointer (some ⟨b0, 0, none⟩), .pointer (some ⟨b1, 0, none⟩), .pointer (some ⟨b2, 0, none⟩)]) ∧ IterAt w'.heap.size w' b0 b1 b2 A c l lo hi ∧ Below w.heap.size w w' := by
  have HI := Lib.hid (iter_new A c l lo hi w hl _ rfl); clear hl
  have hmk := mk_left (.pointer (some ⟨w.heap.size, 0, none⟩)) (.pointer (some ⟨w.heap.size + 1, 0, none⟩)) (.pointer (some ⟨w.heap.size + 1 + 1, 0, none⟩)) (((w.alloc (.cells #[.slice A l.length c] 138)).alloc (.cells #[.int .i64 lo] 3)).alloc (.cells #[.int .i64 hi] 3))
  go_enter Tryz.func181, Tryz.ntmps181
  go_wp2_with (fail)
  go_ret
  exact ⟨_, _, _, rfl, HI.out.1, HI.out.2⟩
/-- A list with the blocks of x stored where x says. -/
def setX (l : List Ex) (x : Ex) : List Ex := mrgX [] (leftX 0 x.l l ++ (leftX 0 4096 [x] ++ leftX (x.l + x.b) 4096 l))
def dropX (l : List Ex) (lba n : Int) : List Ex := mrgX [] (leftX 0 lba l ++ leftX (lba + n) 4096 l)
theorem alone_new (w : World) (x : Ex) (hx : x.Wf) : ∀ v, v = (w.alloc (.cells #[.int .i64 x.l, .int .i64 x.b, .int .i64 x.a] 158)).alloc (.cells #[.int .i64 x.l, .int .i64 x.b, .int .i64 x.a] 158) →
    Blk v w.heap.size 158 (exC x) ∧ Exts v (some ⟨w.heap.size + 1, 0, none⟩) [x] ∧ Below w.heap.size w v := by
  rintro v rfl
  obtain ⟨h1, h2, h3, _⟩ := two_boxes w x x _ rfl
  refine ⟨h1, fun _ => ⟨_, _, rfl, fun j y hj => ?_⟩, h3⟩
  cases j with
  | zero =>
    simp at hj
    subst hj
    exact ⟨hx, h2.cell 0, h2.cell 1, h2.cell 2⟩
  | succ j => simp at hj
set_option maxRecDepth 100000 in
set_option maxHeartbeats 4000000 in
theorem set_ok (A : Option Addr) (c : Nat) (l : List Ex) (x : Ex) (w : World) (hl : Exts w A l) (hg : goodB l = true) (hx : x.Wf) (hf : fitsB x = true) (hn : l.length ≤ 100000) (hfit : ∀ y ∈ l, y.Fits) :
    Calls Tryz.prog 163 #[.slice A l.length c, exV x] w fun e w' => ∃ A' c', e = .returned (.tuple #[.slice A' (setX l x).length c', .int .i64 0]) ∧ ExtsF w.heap.size w' A' (setX l x) ∧ Below w.heap.size w w' := by
  obtain ⟨hbx, hal, hb0⟩ := alone_new w x hx _ rfl
  have HL0 := Lib.hid hl; have HX := Lib.hid hbx; have HA := Lib.hid hal; have HB0 := Lib.hid hb0
  have hg1 : goodB [x] = true := by unfold goodB chainB; rw [hf]; rfl
  have HG := Lib.hid hg; have HG1 := Lib.hid hg1; have HF := Lib.hid hf
  clear hl hbx hal hb0 hg hg1 hf
  unfold exV
  go_enter Tryz.func163, Tryz.ntmps163
  go_upto_region 2 with (fail)
  change Code.wp _ _ _ _ ((w.alloc (.cells #[.int .i64 x.l, .int .i64 x.b, .int .i64 x.a] 158)).alloc (.cells #[.int .i64 x.l, .int .i64 x.b, .int .i64 x.a] 158))
  generalize hw0 : (w.alloc (.cells #[.int .i64 x.l, .int .i64 x.b, .int .i64 x.a] 158)).alloc (.cells #[.int .i64 x.l, .int .i64 x.b, .int .i64 x.a] 158) = w0 at *
  clear hw0
  have HGA := Lib.hid (fun v (h : Exts v A l) => good_any A c l v h (by unfold maxLen; omega))
  rw [HG.out] at HGA
  have HGB := Lib.hid (fun v (h : Exts v (some ⟨w.heap.size + 1, 0, none⟩) [x]) => good_any (some ⟨w.heap.size + 1, 0, none⟩) 1 [x] v h (by unfold maxLen; simp))
  rw [HG1.out] at HGB
  have HL := Lib.hid ((HL0.out.kept (fun hn a ha => HB0.out.block _ (HL0.out.lt hn a ha)) : Exts w0 A l))
  go_wp2_with (fail)
  refine (HGA.out _ HL.out).mono ?_; rintro e w1 ⟨rfl, hb1⟩
  have HL1 := Lib.hid (HL.out.below hb1)
  have HA1 := Lib.hid (HA.out.below hb1)
  have HX1 := Lib.hid (HX.out.below hb1 HX.out.lt)
  have HB1 := Lib.hid (HB0.out.trans (hb1.mono HB0.out.size))
  clear hb1
  have hnt : Sem.run Tryz.prog (Op.unary UnOp.not (.bool true)) w1 = .ok (.bool false) w1 := rfl
  go_wp2_with (fail)
  refine (HGB.out _ HA1.out).mono ?_; rintro e w2 ⟨rfl, hb2⟩
  have HL2 := Lib.hid (HL1.out.below hb2)
  have HA2 := Lib.hid (HA1.out.below hb2)
  have HX2 := Lib.hid (HX1.out.below hb2 HX1.out.lt)
  have HB2 := Lib.hid (HB1.out.trans (hb2.mono HB1.out.size))
  clear hb2 hnt
  have hnt : Sem.run Tryz.prog (Op.unary UnOp.not (.bool true)) w2 = .ok (.bool false) w2 := rfl
  go_upto_region 4 with (fail)
  have a0 := HX2.out.cell 0
  have a1 := HX2.out.cell 1
  have a2 := HX2.out.cell 2
  have hff := (fitsB_iff x).1 HF.out
  have HFT1 := Lib.hid (show ∀ y ∈ [x], y.Fits from fun y hy => by simp at hy; subst hy; exact hff)
  obtain ⟨s1, s2, _, _⟩ := fits_sums hff
  unfold Ex.Fits at hff
  have HBD := Lib.hid (show (0 ≤ x.l + x.b ∧ x.l + x.b ≤ 4096) ∧ (0 ≤ x.l ∧ x.l ≤ 4096) by omega)
  have HFT := Lib.hid hfit
  have HLEN := Lib.hid (fun (p q r : Nat × Nat × Nat) => (by
    unfold outs Part.out
    simp only [List.flatMap_cons, List.flatMap_nil, List.length_append, List.length_nil]
    have e1 := left_length 0 x.l l
    have e2 := left_length 0 4096 [x]
    have e3 := left_length (x.l + x.b) 4096 l
    simp only [List.length_cons, List.length_nil] at e2
    omega : (outs [⟨p.1, p.2.1, p.2.2, A, c, l, 0, x.l⟩, ⟨q.1, q.2.1, q.2.2, some ⟨w.heap.size + 1, 0, none⟩, 1, [x], 0, 4096⟩, ⟨r.1, r.2.1, r.2.2, A, c, l, x.l + x.b, 4096⟩]).length ≤ 1000000))
  have HR := Lib.hid (fun (p q r : Nat × Nat × Nat) => (by
    unfold outs Part.out setX
    simp only [List.flatMap_cons, List.flatMap_nil, List.append_nil] : mrgX [] (outs [⟨p.1, p.2.1, p.2.2, A, c, l, 0, x.l⟩, ⟨q.1, q.2.1, q.2.2, some ⟨w.heap.size + 1, 0, none⟩, 1, [x], 0, 4096⟩, ⟨r.1, r.2.1, r.2.2, A, c, l, x.l + x.b, 4096⟩]) = setX l x))
  clear hff
  go_region_held3 (fun v => v.cell? ⟨w.heap.size, 0, none⟩ = some (.int .i64 x.l) ∧ v.cell? ⟨w.heap.size, 1, none⟩ = some (.int .i64 x.b) ∧ v.cell? ⟨w.heap.size, 2, none⟩ = some (.int .i64 x.a)) (first | exact ⟨a0, a1, a2⟩ | exact ⟨b0, b1, b2⟩ | exact ⟨c0, c1, c2⟩ | exact ⟨d0, d1, d2⟩ | exact ⟨f0, f1, f2⟩ | exact ⟨g0, g1, g2⟩ | exact ⟨k0, k1, k2⟩) (first
    | (go_at_call 181; refine (left_any A c l 0 x.l _ (HL2.out.below (Below.refl _ _).drew)).mono ?_; rintro e w3 ⟨p0, p1, p2, rfl, hI3, hb3⟩
       have HI3 := Lib.hid hI3
       have HL3 := Lib.hid ((HL2.out.below (Below.refl _ _).drew).below hb3)
       have HA3 := Lib.hid ((HA2.out.below (Below.refl _ _).drew).below hb3)
       obtain ⟨b0, b1, b2⟩ := blk_cells3 HX2.out ((Below.refl _ _).drew.trans hb3)
       have HB3 := Lib.hid (HB2.out.drew.trans (hb3.mono HB2.out.drew.size))
       clear hI3 hb3)
    | (go_at_call 181; refine (left_any (some ⟨w.heap.size + 1, 0, none⟩) 1 [x] 0 4096 _ HA3.out).mono ?_; rintro e w4 ⟨q0, q1, q2, rfl, hI4, hb4⟩
       have HI4 := Lib.hid hI4
       have HJ4 := Lib.hid (HI3.out.more hb4)
       have HL4 := Lib.hid (HL3.out.below hb4)
       have HB4 := Lib.hid (HB3.out.trans (hb4.mono HB3.out.size))
       have c0 := (hb4.cell (p := ⟨w.heap.size, 0, none⟩) (World.block_lt_of_cell? _ _ b0)).trans b0
       have c1 := (hb4.cell (p := ⟨w.heap.size, 1, none⟩) (World.block_lt_of_cell? _ _ b1)).trans b1
       have c2 := (hb4.cell (p := ⟨w.heap.size, 2, none⟩) (World.block_lt_of_cell? _ _ b2)).trans b2
       clear hI4 hb4)
    | (go_at_call 192; refine (end_any x _ s1 s2).mono ?_; rintro e w5 ⟨rfl, hb5⟩
       have HI5 := Lib.hid (HI4.out.more hb5)
       have HJ5 := Lib.hid (HJ4.out.more hb5)
       have HL5 := Lib.hid (HL4.out.below hb5)
       have HB5 := Lib.hid (HB4.out.trans (hb5.mono HB4.out.size))
       have d0 := (hb5.cell (p := ⟨w.heap.size, 0, none⟩) (World.block_lt_of_cell? _ _ c0)).trans c0
       have d1 := (hb5.cell (p := ⟨w.heap.size, 1, none⟩) (World.block_lt_of_cell? _ _ c1)).trans c1
       have d2 := (hb5.cell (p := ⟨w.heap.size, 2, none⟩) (World.block_lt_of_cell? _ _ c2)).trans c2
       clear hb5)
    | (go_at_call 181; refine (left_any A c l (x.l + x.b) 4096 _ HL5.out).mono ?_; rintro e w6 ⟨r0, r1, r2, rfl, hI6, hb6⟩
       have HP3 := Lib.hid (show PartOk w6 ⟨r0, r1, r2, A, c, l, x.l + x.b, 4096⟩ from ⟨hI6, HBD.out.1, (show (0 : Int) ≤ 4096 ∧ (4096 : Int) ≤ 4096 by omega), HFT.out, hn⟩)
       have HP1 := Lib.hid (show PartOk w6 ⟨p0, p1, p2, A, c, l, 0, x.l⟩ from ⟨HJ5.out.more hb6, (show (0 : Int) ≤ 0 ∧ (0 : Int) ≤ 4096 by omega), HBD.out.2, HFT.out, hn⟩)
       have HP2 := Lib.hid (show PartOk w6 ⟨q0, q1, q2, some ⟨w.heap.size + 1, 0, none⟩, 1, [x], 0, 4096⟩ from ⟨HI5.out.more hb6, (show (0 : Int) ≤ 0 ∧ (0 : Int) ≤ 4096 by omega), (show (0 : Int) ≤ 4096 ∧ (4096 : Int) ≤ 4096 by omega), HFT1.out, (show [x].length ≤ 100000 by simp)⟩)
       have hm := merged3 _ _ _ w6 HP1.out HP2.out HP3.out (HLEN.out (p0, p1, p2) (q0, q1, q2) (r0, r1, r2)) (setX l x) (HR.out (p0, p1, p2) (q0, q1, q2) (r0, r1, r2))
       simp only [Part.v] at hm
       have HMG := Lib.hid hm
       clear hm
       have HB6 := Lib.hid (HB5.out.trans (hb6.mono HB5.out.size))
       have f0 := (hb6.cell (p := ⟨w.heap.size, 0, none⟩) (World.block_lt_of_cell? _ _ d0)).trans d0
       have f1 := (hb6.cell (p := ⟨w.heap.size, 1, none⟩) (World.block_lt_of_cell? _ _ d1)).trans d1
       have f2 := (hb6.cell (p := ⟨w.heap.size, 2, none⟩) (World.block_lt_of_cell? _ _ d2)).trans d2
       have hal := (Below.refl w6.heap.size w6).alloc (Nat.le_refl _) (.cells #[.func (.func 204) #[] #[.pointer (some ⟨p0, 0, none⟩), .pointer (some ⟨p1, 0, none⟩), .pointer (some ⟨p2, 0, none⟩)], .func (.func 204) #[] #[.pointer (some ⟨q0, 0, none⟩), .pointer (some ⟨q1, 0, none⟩), .pointer (some ⟨q2, 0, none⟩)], .func (.func 204) #[] #[.pointer (some ⟨r0, 0, none⟩), .pointer (some ⟨r1, 0, none⟩), .pointer (some ⟨r2, 0, none⟩)]] 276)
       have g0 := (hal.cell (p := ⟨w.heap.size, 0, none⟩) (World.block_lt_of_cell? _ _ f0)).trans f0
       have g1 := (hal.cell (p := ⟨w.heap.size, 1, none⟩) (World.block_lt_of_cell? _ _ f1)).trans f1
       have g2 := (hal.cell (p := ⟨w.heap.size, 2, none⟩) (World.block_lt_of_cell? _ _ f2)).trans f2
       clear hI6 hb6 hal)
    | (go_at_call 180; refine HMG.out.mono ?_; rintro e w7 ⟨A', c', rfl, hx7, hb7⟩
       have HX7 := Lib.hid (hx7.mono HB6.out.size)
       have HB7 := Lib.hid (HB6.out.trans (hb7.mono HB6.out.size))
       have k0 := (hb7.cell (p := ⟨w.heap.size, 0, none⟩) (World.block_lt_of_cell? _ _ f0)).trans f0
       have k1 := (hb7.cell (p := ⟨w.heap.size, 1, none⟩) (World.block_lt_of_cell? _ _ f1)).trans f1
       have k2 := (hb7.cell (p := ⟨w.heap.size, 2, none⟩) (World.block_lt_of_cell? _ _ f2)).trans f2
       clear hx7 hb7)
    | fail)
  all_goals (go_wp2_with (fail); go_ret2; exact ⟨_, _, rfl, HX7.out, HB7.out⟩)
end Go.Proofs.YtglfjlbhjaemgaaGreatDoor.Ext
