/- What bytes a sense has: the document's Bytes. -/
import Derived.Test.YthcaeihpdlgcaaaDoorSnB
import Derived.Lib.ConvBytes
import Derived.Deep.DeepCutAuto
namespace Go.Proofs.YthcaeihpdlgcaaaDoor
open Go.RowKit
section
variable {P : Program} {ops : Array Oper} {S : World → Prop} {o : Oper} {a : Act} {w : World} {K : Act → World → Prop} {Q : Exit → Act → World → Prop} {E : Prop}
theorem takeH {md : Region.Mode} {i : Nat} {oi : Oper} {v : Value} {fuel : Nat} {listed : Array Bool} (hi : ops[i]? = some oi)
    (hs : Region.noSelect ops = true) (hf : Region.free md ops listed i = true) (hr : (Region.ready md ops listed).contains i = true)
    (hQ : ∀ c a w, Q (.panic c) (a.put oi.dst v) w → Q (.panic c) a w) (d0 : Option Tmp) (hd0 : oi.dst = d0) (hy : YieldsIf P ops S oi v a) (hS : S w)
    (h : wpAnyH P md ops Q S fuel (listed.setIfInBounds i true) (a.put d0 v) w) : wpAnyH P md ops Q S (fuel + 1) listed a w := by
  subst hd0
  exact wpAnyH_take hi hs hf hr hQ hy hS h
theorem step_alloc (hw : Region.wanted o (yielded ops a.tmps) = true) (v : Value) (w' : World) (hr : (execOp a.eval o).run P w = .ok (.value v) w') (d0 : Option Tmp) (hd0 : o.dst = d0) (h : K (a.put d0 v) w') :
    if Region.wanted o (yielded ops a.tmps) = true then Oper.wp P o a w K Q else E := by
  subst hd0
  rw [if_pos hw]
  unfold Oper.wp
  rw [hr, Oper.upon_value]
  exact h
theorem step_call2 (hw : Region.wanted o (yielded ops a.tmps) = true) (f : Nat) (x y : Operand) (ty : Array TypeId) (ho : o.op = .call { callee := .value (.func f), args := #[x, y], argTypes := ty })
    (u v : Value) (hx : a.eval x = u) (hy : a.eval y = v) (hcf : ∀ args v, (callFunc f args).run P v = .ok (.enter f args) v) (post : Ending → World → Prop) (hc : Calls P f #[u, v] w post) (d0 : Option Tmp) (hd0 : o.dst = d0) (h : ∀ e w', post e w' → ∃ v, e = .returned v ∧ K (a.put d0 v) w') :
    if Region.wanted o (yielded ops a.tmps) = true then Oper.wp P o a w K Q else E := by
  subst hd0
  rw [if_pos hw]
  have hr : (execOp a.eval o).run P w = .ok (.enter f #[u, v]) w := by
    unfold execOp
    simp only [ho, resolve, invoke, Sem.run_bind, List.map_toArray, List.map_cons, List.map_nil, hx, hy]
    simp [go_sem, hcf]
  unfold Oper.wp
  rw [hr, Oper.upon_enter]
  refine hc.mono ?_
  intro e w' hp
  obtain ⟨v, rfl, hk⟩ := h e w' hp
  exact hk
end
theorem sh2 {T : Prop} {G : World → Prop} (F : World → Prop) (main : (∀ v, F v → G v) → T) (pf : ∀ v, F v → G v) : T := main pf
theorem share3 {T : Prop} {G : World → Nat → Nat → Prop} (F : World → Nat → Nat → Prop) (main : (∀ v p g, F v p g → G v p g) → T) (pf : ∀ v p g, F v p g → G v p g) : T := main pf
abbrev c3 (y z : UInt8) : Array Value := #[.int .u8 (y.toNat : Int), .int .u8 0, .int .u8 (z.toNat : Int)]
abbrev c11 (y z : UInt8) : Array Value := #[.int .u8 10, .int .u8 0, .int .u8 0, .int .u8 0, .int .u8 0, .int .u8 (y.toNat : Int), .int .u8 (z.toNat : Int), .int .u8 0, .int .u8 0, .int .u8 0, .int .u8 0]
theorem conv3 (v : World) (g : Nat) (y z : UInt8) (h : Blk v g 5 (c3 y z)) : (convert 55 9 (.slice (some ⟨g, 0, none⟩) 3 3)).run Tryd.prog v = .ok (.string ⟨#[y, 0, z]⟩) v :=
  run_convert_bytes_back (P := Tryd.prog) v 55 9 5 ⟨g, 0, none⟩ 3 [y, 0, z] Tryd.underlying55 Tryd.underlying5 Tryd.underlying9 (fun j hj => by
    rw [Addr.add_lit, Nat.zero_add]
    match j, hj with
    | 0, _ => rw [h.cell]; rfl
    | 1, _ => rw [h.cell]; rfl
    | 2, _ => rw [h.cell]; rfl)
theorem conv11 (v : World) (g : Nat) (y z : UInt8) (h : Blk v g 5 (c11 y z)) : (convert 55 9 (.slice (some ⟨g, 0, none⟩) 11 11)).run Tryd.prog v = .ok (.string ⟨#[10, 0, 0, 0, 0, y, z, 0, 0, 0, 0]⟩) v :=
  run_convert_bytes_back (P := Tryd.prog) v 55 9 5 ⟨g, 0, none⟩ 11 [10, 0, 0, 0, 0, y, z, 0, 0, 0, 0] Tryd.underlying55 Tryd.underlying5 Tryd.underlying9 (fun j hj => by
    rw [Addr.add_lit, Nat.zero_add]
    match j, hj with
    | 0, _ => rw [h.cell]; rfl
    | 1, _ => rw [h.cell]; rfl
    | 2, _ => rw [h.cell]; rfl
    | 3, _ => rw [h.cell]; rfl
    | 4, _ => rw [h.cell]; rfl
    | 5, _ => rw [h.cell]; rfl
    | 6, _ => rw [h.cell]; rfl
    | 7, _ => rw [h.cell]; rfl
    | 8, _ => rw [h.cell]; rfl
    | 9, _ => rw [h.cell]; rfl
    | 10, _ => rw [h.cell]; rfl)
/-- What Bytes answers. -/
def bytV (o : Option ByteArray) : Value := .tuple #[.string (o.getD ⟨#[]⟩), .int .i64 (if o.isSome = true then 0 else 160)]
set_option maxRecDepth 100000 in
set_option maxHeartbeats 16000000 in
theorem refBytes_any (x : Sn) (w : World) : Calls Tryd.prog 9 #[snV x] w fun e w' => e = .returned (bytV (bytX x)) ∧ Below w.heap.size w w' := by
  have HR0 := Lib.hid (Blk.new w 23 (snC x))
  have HB0 := Lib.hid ((Below.refl w.heap.size w).alloc (Nat.le_refl _) (.cells (snC x) 23))
  have HM := Lib.hid (fun v => refMay_any x v)
  cases hm : mayX x with
  | false =>
    have HV := Lib.hid (show bytX x = none by unfold bytX; rw [hm]; rfl)
    rw [hm] at HM
    clear hm
    go_enter Tryd.func9, Tryd.ntmps9
    go_upto_region 1 with (fail)
    change Code.wp _ _ _ _ (w.alloc (.cells (snC x) 23))
    generalize w.alloc (.cells (snC x) 23) = v0 at *
    obtain ⟨p, hp⟩ : ∃ p, p = w.heap.size := ⟨_, rfl⟩
    have HP := Lib.hid hp
    rw [← hp] at HR0 ⊢
    clear hp
    have c0 : v0.cell? ⟨p, 0, none⟩ = some (.int .i64 x.k) := HR0.out.cell 0
    have c1 : v0.cell? ⟨p, 1, none⟩ = some (.int .i64 x.a) := HR0.out.cell 1
    have c2 : v0.cell? ⟨p, 2, none⟩ = some (.int .i64 x.q) := HR0.out.cell 2
    have c3 : v0.cell? ⟨p, 3, none⟩ = some (.int .i64 x.t) := HR0.out.cell 3
    go_wp2_with (fail)
    refine (HM.out v0).mono ?_; rintro e v1 ⟨rfl, hb⟩
    have HB := Lib.hid (HB0.out.trans (hb.mono HB0.out.size)); have HR := Lib.hid (HR0.out.below hb HR0.out.lt); clear hb
    go_wp2_with (fail)
    go_ret2
    exact ⟨by rw [HV.out]; rfl, HB.out⟩
  | true =>
    have HV := Lib.hid (show bytX x = some (bytS x) by unfold bytX; rw [hm]; rfl)
    rw [hm] at HM
    obtain ⟨m1, m2, m3, m4, m5, m6, m7, m8⟩ := of_decide_eq_true hm
    have hwk : IntKind.u8.wrap x.k = ((i8 x.k).toNat : Int) := by rw [i8_nat m1 (by omega), IntKind.wrap_u8]; omega
    have hwa : IntKind.u8.wrap x.a = ((i8 x.a).toNat : Int) := by rw [i8_nat m3 m4, IntKind.wrap_u8]; omega
    have hwq : IntKind.u8.wrap x.q = ((i8 x.q).toNat : Int) := by rw [i8_nat m5 m6, IntKind.wrap_u8]; omega
    have HAT := Lib.hid (show 0 ≤ x.t → x.t = (atN x : Int) by intro h; unfold atN; rw [if_pos h]; omega)
    have HAF := Lib.hid (show ¬ 0 ≤ x.t → (0 : Int) = (atN x : Int) by intro h; unfold atN; rw [if_neg h]; rfl)
    have hlt : atN x < 4294967296 := by unfold atN; split <;> omega
    obtain ⟨y0, hy0⟩ : ∃ y : UInt8, y = if 0 ≤ x.t then 240 else 112 := ⟨_, rfl⟩
    have HY0 := Lib.hid hy0
    have HBS := Lib.hid (show (⟨#[y0, 0, i8 x.k]⟩ : ByteArray) ++ putHi (atN x) (4 : Nat) ++ ⟨#[10, 0, 0, 0, 0, i8 x.a, i8 x.q, 0, 0, 0, 0]⟩ = bytS x by rw [hy0]; rfl)
    have HZ4 := Lib.hid (putHi_size (atN x) 4 (by decide) (by decide))
    have HPB := Lib.hid (fun v => refPutBig_any (atN x) ((4 : Nat) : Int) v (by omega))
    generalize bytS x = S at *
    generalize putHi (atN x) ((4 : Nat) : Int) = m at *
    generalize atN x = n at *
    generalize i8 x.k = yk at *
    generalize i8 x.a = ya at *
    generalize i8 x.q = yq at *
    clear hm m1 m2 m3 m4 m5 m6 m7 m8 hy0
    go_enter Tryd.func9, Tryd.ntmps9
    go_upto_region 1 with (fail)
    change Code.wp _ _ _ _ (w.alloc (.cells (snC x) 23))
    generalize w.alloc (.cells (snC x) 23) = v0 at *
    obtain ⟨p, hp⟩ : ∃ p, p = w.heap.size := ⟨_, rfl⟩
    have HP := Lib.hid hp
    rw [← hp] at HR0 ⊢
    clear hp
    have c0 : v0.cell? ⟨p, 0, none⟩ = some (.int .i64 x.k) := HR0.out.cell 0
    have c1 : v0.cell? ⟨p, 1, none⟩ = some (.int .i64 x.a) := HR0.out.cell 1
    have c2 : v0.cell? ⟨p, 2, none⟩ = some (.int .i64 x.q) := HR0.out.cell 2
    have c3 : v0.cell? ⟨p, 3, none⟩ = some (.int .i64 x.t) := HR0.out.cell 3
    go_wp2_with (fail)
    refine (HM.out v0).mono ?_; rintro e v1 ⟨rfl, hb⟩
    have HB := Lib.hid (HB0.out.trans (hb.mono HB0.out.size)); have HR := Lib.hid (HR0.out.below hb HR0.out.lt); clear hb
    go_upto_region 3 with (fail)
    clear c0 c1 c2 c3
    have c3 : v1.cell? ⟨p, 3, none⟩ = some (.int .i64 x.t) := HR.out.cell 3
    go_upto_if 11 with (fail)
    go_cut [4, 5] (fun s4 s5 wx => s4 = .int .u8 (y0.toNat : Int) ∧ s5 = .int .i64 (n : Int) ∧ Blk wx p 23 (snC x) ∧ Below w.heap.size w wx)
    case first =>
      by_cases ht : 0 ≤ x.t
      · have hy := HY0.out
        rw [if_pos ht] at hy
        have e3 : v1.drew.cell? ⟨p, 3, none⟩ = some (.int .i64 x.t) := HR.out.drew.cell 3
        go_upto_region 5 with (fail)
        go_region
        go_wp2_with (fail)
        go_meet
        exact ⟨by rw [hy]; rfl, by rw [HAT.out ht], HR.out.drew, HB.out.drew⟩
      · have hy := HY0.out
        rw [if_neg ht] at hy
        go_wp2_with (fail)
        go_meet
        exact ⟨by rw [hy]; rfl, by rw [HAF.out ht], HR.out, HB.out⟩
    case rest =>
      obtain ⟨rfl, rfl, hR, hB⟩ := hcut
      clear c3
      replace HR := Lib.hid hR; replace HB := Lib.hid hB
      clear hR hB
      have hs1 : (⟨#[y0, 0, yk]⟩ : ByteArray).size = 3 := rfl
      have hs2 : m.size = 4 := HZ4.out
      have hs3 : (⟨#[10, 0, 0, 0, 0, ya, yq, 0, 0, 0, 0]⟩ : ByteArray).size = 11 := rfl
      have hs4 : ((⟨#[y0, 0, yk]⟩ : ByteArray) ++ m).size = 7 := by rw [ByteArray.size_append, hs1, hs2]
      obtain ⟨sA, hsA⟩ : ∃ z : ByteArray, z = ⟨#[y0, 0, yk]⟩ := ⟨_, rfl⟩
      obtain ⟨sB, hsB⟩ : ∃ z : ByteArray, z = ⟨#[10, 0, 0, 0, 0, ya, yq, 0, 0, 0, 0]⟩ := ⟨_, rfl⟩
      rw [← hsA] at hs1 hs4 HBS
      rw [← hsB] at hs3 HBS
      have HSA := Lib.hid hsA; have HSB := Lib.hid hsB
      have hzw : IntKind.u64.wrap (n : Int) = (n : Int) := IntWalk.u64_in _ (by omega)
      have hcc1 : ¬ 9223372036854775807 < sA.size + m.size := by omega
      have hcc2 : ¬ 9223372036854775807 < (sA ++ m).size + sB.size := by omega
      clear hsA hsB
      go_upto_region 6 with (fail)
      apply share3 (fun v _ _ => Below w.heap.size w v)
      · intro HSH
        refine wp_region_held_drew (S := fun v => Blk v p 23 (snC x)) (by kernel_rfl) ?_ (fun hHeld => ?_)
        · exact HR.out.drew
        have HBd := Lib.hid HB.out.drew; have HXd := Lib.hid HR.out.drew
        generalize wc.drew = x0 at *
        refine takeH (i := 0) (v := ?_) rfl (by kernel_rfl) (by kernel_rfl) (by kernel_rfl) (fun _ _ _ h => h) (some 14) rfl (Or.inl ⟨by rfl, ?_⟩) (by assumption) ?_
        rotate_left 1
        · intro wz hSw
          go_simp
          try with_reducible rfl
        simp only [Act.put, List.setIfInBounds_toArray, List.set_cons_zero, List.set_cons_succ]
        refine takeH (i := 1) (v := ?_) rfl (by kernel_rfl) (by kernel_rfl) (by kernel_rfl) (fun _ _ _ h => h) (some 15) rfl (Or.inl ⟨by rfl, ?_⟩) (by assumption) ?_
        rotate_left 1
        · intro wz hSw
          go_simp
          try with_reducible rfl
        simp only [Act.put, List.setIfInBounds_toArray, List.set_cons_zero, List.set_cons_succ]
        refine takeH (i := 2) (v := ?_) rfl (by kernel_rfl) (by kernel_rfl) (by kernel_rfl) (fun _ _ _ h => h) (some 16) rfl (Or.inl ⟨by rfl, ?_⟩) (by assumption) ?_
        rotate_left 1
        · intro wz hSw
          have c0 : wz.cell? ⟨p, 0, none⟩ = some (.int .i64 x.k) := hSw.cell 0
          have c1 : wz.cell? ⟨p, 1, none⟩ = some (.int .i64 x.a) := hSw.cell 1
          have c2 : wz.cell? ⟨p, 2, none⟩ = some (.int .i64 x.q) := hSw.cell 2
          have c3 : wz.cell? ⟨p, 3, none⟩ = some (.int .i64 x.t) := hSw.cell 3
          go_simp
          try with_reducible rfl
        simp only [Act.put, List.setIfInBounds_toArray, List.set_cons_zero, List.set_cons_succ]
        refine takeH (i := 3) (v := ?_) rfl (by kernel_rfl) (by kernel_rfl) (by kernel_rfl) (fun _ _ _ h => h) (some 17) rfl (Or.inl ⟨by rfl, ?_⟩) (by assumption) ?_
        rotate_left 1
        · intro wz hSw
          go_simp
          try with_reducible rfl
        simp only [Act.put, List.setIfInBounds_toArray, List.set_cons_zero, List.set_cons_succ]
        refine takeH (i := 6) (v := ?_) rfl (by kernel_rfl) (by kernel_rfl) (by kernel_rfl) (fun _ _ _ h => h) (some 20) rfl (Or.inl ⟨by rfl, ?_⟩) (by assumption) ?_
        rotate_left 1
        · intro wz hSw
          go_simp
          try with_reducible rfl
        simp only [Act.put, List.setIfInBounds_toArray, List.set_cons_zero, List.set_cons_succ]
        refine takeH (i := 7) (v := ?_) rfl (by kernel_rfl) (by kernel_rfl) (by kernel_rfl) (fun _ _ _ h => h) (some 21) rfl (Or.inl ⟨by rfl, ?_⟩) (by assumption) ?_
        rotate_left 1
        · intro wz hSw
          go_simp
          try with_reducible rfl
        simp only [Act.put, List.setIfInBounds_toArray, List.set_cons_zero, List.set_cons_succ]
        refine takeH (i := 10) (v := ?_) rfl (by kernel_rfl) (by kernel_rfl) (by kernel_rfl) (fun _ _ _ h => h) (some 24) rfl (Or.inl ⟨by rfl, ?_⟩) (by assumption) ?_
        rotate_left 1
        · intro wz hSw
          go_simp
          try with_reducible rfl
        simp only [Act.put, List.setIfInBounds_toArray, List.set_cons_zero, List.set_cons_succ]
        refine takeH (i := 11) (v := ?_) rfl (by kernel_rfl) (by kernel_rfl) (by kernel_rfl) (fun _ _ _ h => h) (some 25) rfl (Or.inl ⟨by rfl, ?_⟩) (by assumption) ?_
        rotate_left 1
        · intro wz hSw
          have c0 : wz.cell? ⟨p, 0, none⟩ = some (.int .i64 x.k) := hSw.cell 0
          have c1 : wz.cell? ⟨p, 1, none⟩ = some (.int .i64 x.a) := hSw.cell 1
          have c2 : wz.cell? ⟨p, 2, none⟩ = some (.int .i64 x.q) := hSw.cell 2
          have c3 : wz.cell? ⟨p, 3, none⟩ = some (.int .i64 x.t) := hSw.cell 3
          go_simp
          try with_reducible rfl
        simp only [Act.put, List.setIfInBounds_toArray, List.set_cons_zero, List.set_cons_succ]
        refine takeH (i := 12) (v := ?_) rfl (by kernel_rfl) (by kernel_rfl) (by kernel_rfl) (fun _ _ _ h => h) (some 26) rfl (Or.inl ⟨by rfl, ?_⟩) (by assumption) ?_
        rotate_left 1
        · intro wz hSw
          go_simp
          try with_reducible rfl
        simp only [Act.put, List.setIfInBounds_toArray, List.set_cons_zero, List.set_cons_succ]
        refine takeH (i := 13) (v := ?_) rfl (by kernel_rfl) (by kernel_rfl) (by kernel_rfl) (fun _ _ _ h => h) (some 27) rfl (Or.inl ⟨by rfl, ?_⟩) (by assumption) ?_
        rotate_left 1
        · intro wz hSw
          go_simp
          try with_reducible rfl
        simp only [Act.put, List.setIfInBounds_toArray, List.set_cons_zero, List.set_cons_succ]
        refine takeH (i := 14) (v := ?_) rfl (by kernel_rfl) (by kernel_rfl) (by kernel_rfl) (fun _ _ _ h => h) (some 28) rfl (Or.inl ⟨by rfl, ?_⟩) (by assumption) ?_
        rotate_left 1
        · intro wz hSw
          have c0 : wz.cell? ⟨p, 0, none⟩ = some (.int .i64 x.k) := hSw.cell 0
          have c1 : wz.cell? ⟨p, 1, none⟩ = some (.int .i64 x.a) := hSw.cell 1
          have c2 : wz.cell? ⟨p, 2, none⟩ = some (.int .i64 x.q) := hSw.cell 2
          have c3 : wz.cell? ⟨p, 3, none⟩ = some (.int .i64 x.t) := hSw.cell 3
          go_simp
          try with_reducible rfl
        simp only [Act.put, List.setIfInBounds_toArray, List.set_cons_zero, List.set_cons_succ]
        refine takeH (i := 15) (v := ?_) rfl (by kernel_rfl) (by kernel_rfl) (by kernel_rfl) (fun _ _ _ h => h) (some 29) rfl (Or.inl ⟨by rfl, ?_⟩) (by assumption) ?_
        rotate_left 1
        · intro wz hSw
          go_simp
          try with_reducible rfl
        simp only [Act.put, List.setIfInBounds_toArray, List.set_cons_zero, List.set_cons_succ]
        refine wpAnyH_ready (rs := [4, 8, 16]) (by kernel_rfl) (by simp) ?_
        refine AllReadyH.cons rfl (fun KK hKK => ?_) ?_
        · skip
          refine step_alloc (by rfl) (.slice (some ⟨x0.heap.size, 0, none⟩) 3 3) (x0.alloc (.cells (c3 y0 yk) 5)) (by go_simp) (some 18) rfl ?_
          skip
          refine hKK.out _ _ ?_ (fun hHeld => ?_)
          · exact (HXd.out.alloc _)
          clear hKK KK
          simp only [Act.put, List.setIfInBounds_toArray, List.set_cons_zero, List.set_cons_succ]
          change wpAnyH _ _ _ _ _ _ _ _ (x0.alloc (.cells (c3 y0 yk) 5))
          have hb := (Below.refl x0.heap.size x0).alloc (Nat.le_refl _) (.cells (c3 y0 yk) 5)
          have HGx1 := Lib.hid (Blk.new x0 5 (c3 y0 yk))
          have HBx1 := Lib.hid (HBd.out.trans (hb.mono HBd.out.size))
          have HXx1 := Lib.hid (HXd.out.below hb HXd.out.lt)
          clear hb
          generalize x0.alloc (.cells (c3 y0 yk) 5) = x1 at *
          obtain ⟨g1, hg⟩ : ∃ g, g = x0.heap.size := ⟨_, rfl⟩
          skip
          rw [← hg] at HGx1 ⊢; clear hg
          refine wpAnyH_ready (rs := [5, 8, 16]) (by kernel_rfl) (by simp) ?_
          refine AllReadyH.cons rfl (fun KK hKK => ?_) ?_
          · skip
            have hcv := conv3 x1 g1 y0 yk HGx1.out
            rw [← HSA.out] at hcv
            refine step_alloc (by rfl) (.string sA) x1 (by go_simp) (some 19) rfl ?_
            clear hcv
            refine hKK.out _ _ HXx1.out (fun hHeld => ?_)
            clear hKK KK
            simp only [Act.put, List.setIfInBounds_toArray, List.set_cons_zero, List.set_cons_succ]
            refine wpAnyH_ready (rs := [8, 16]) (by kernel_rfl) (by simp) ?_
            refine AllReadyH.cons rfl (fun KK hKK => ?_) ?_
            · skip
              refine step_call2 (by rfl) 20 _ _ _ (by rfl) _ _ (by rfl) (by rfl) (fun _ _ => rfl) _ (HPB.out x1) (some 22) rfl ?_
              rintro e x2 ⟨rfl, hb⟩
              refine ⟨_, rfl, ?_⟩
              have HBx2 := Lib.hid (HBx1.out.trans (hb.mono HBx1.out.size))
              have HXx2 := Lib.hid (HXx1.out.below hb HXx1.out.lt)
              have HGx2 := Lib.hid (HGx1.out.below hb HGx1.out.lt)
              clear hb
              refine hKK.out _ _ ?_ (fun hHeld => ?_)
              · exact HXx2.out
              clear hKK KK
              simp only [Act.put, List.setIfInBounds_toArray, List.set_cons_zero, List.set_cons_succ]
              refine takeH (i := 9) (v := ?_) rfl (by kernel_rfl) (by kernel_rfl) (by kernel_rfl) (fun _ _ _ h => h) (some 23) rfl (Or.inl ⟨by rfl, ?_⟩) (by assumption) ?_
              rotate_left 1
              · intro wz hSw
                go_simp
                try with_reducible rfl
              simp only [Act.put, List.setIfInBounds_toArray, List.set_cons_zero, List.set_cons_succ]
              refine wpAnyH_ready (rs := [16]) (by kernel_rfl) (by simp) ?_
              refine AllReadyH.cons rfl (fun KK hKK => ?_) AllReadyH.nil
              refine step_alloc (by rfl) (.slice (some ⟨x2.heap.size, 0, none⟩) 11 11) (x2.alloc (.cells (c11 ya yq) 5)) (by go_simp) (some 30) rfl ?_
              skip
              refine hKK.out _ _ ?_ (fun hHeld => ?_)
              · exact (HXx2.out.alloc _)
              clear hKK KK
              simp only [Act.put, List.setIfInBounds_toArray, List.set_cons_zero, List.set_cons_succ]
              change wpAnyH _ _ _ _ _ _ _ _ (x2.alloc (.cells (c11 ya yq) 5))
              have hb := (Below.refl x2.heap.size x2).alloc (Nat.le_refl _) (.cells (c11 ya yq) 5)
              have HHx3 := Lib.hid (Blk.new x2 5 (c11 ya yq))
              have HBx3 := Lib.hid (HBx2.out.trans (hb.mono HBx2.out.size))
              have HXx3 := Lib.hid (HXx2.out.below hb HXx2.out.lt)
              have HGx3 := Lib.hid (HGx2.out.below hb HGx2.out.lt)
              clear hb
              generalize x2.alloc (.cells (c11 ya yq) 5) = x3 at *
              obtain ⟨g2, hg⟩ : ∃ g, g = x2.heap.size := ⟨_, rfl⟩
              skip
              rw [← hg] at HHx3 ⊢; clear hg
              refine wpAnyH_ready (rs := [17]) (by kernel_rfl) (by simp) ?_
              refine AllReadyH.cons rfl (fun KK hKK => ?_) AllReadyH.nil
              have hcv := conv11 x3 g2 ya yq HHx3.out
              rw [← HSB.out] at hcv
              refine step_alloc (by rfl) (.string sB) x3 (by go_simp) (some 31) rfl ?_
              clear hcv
              refine hKK.out _ _ HXx3.out (fun hHeld => ?_)
              clear hKK KK
              simp only [Act.put, List.setIfInBounds_toArray, List.set_cons_zero, List.set_cons_succ]
              refine takeH (i := 18) (v := ?_) rfl (by kernel_rfl) (by kernel_rfl) (by kernel_rfl) (fun _ _ _ h => h) (some 32) rfl (Or.inl ⟨by rfl, ?_⟩) (by assumption) ?_
              rotate_left 1
              · intro wz hSw
                go_simp
                try with_reducible rfl
              simp only [Act.put, List.setIfInBounds_toArray, List.set_cons_zero, List.set_cons_succ]
              rw [HBS.out]
              refine takeH (i := 19) (v := ?_) rfl (by kernel_rfl) (by kernel_rfl) (by kernel_rfl) (fun _ _ _ h => h) (some 2) rfl (Or.inl ⟨by rfl, ?_⟩) (by assumption) ?_
              rotate_left 1
              · intro wz hSw
                go_simp
                try with_reducible rfl
              simp only [Act.put, List.setIfInBounds_toArray, List.set_cons_zero, List.set_cons_succ]
              refine takeH (i := 20) (v := ?_) rfl (by kernel_rfl) (by kernel_rfl) (by kernel_rfl) (fun _ _ _ h => h) (some 3) rfl (Or.inl ⟨by rfl, ?_⟩) (by assumption) ?_
              rotate_left 1
              · intro wz hSw
                go_simp
                try with_reducible rfl
              simp only [Act.put, List.setIfInBounds_toArray, List.set_cons_zero, List.set_cons_succ]
              refine wpAnyH_done (by kernel_rfl) ?_ _
              exact HSH x3 g1 g2 HBx3.out
            refine AllReadyH.cons rfl (fun KK hKK => ?_) ?_
            · skip
              refine step_alloc (by rfl) (.slice (some ⟨x1.heap.size, 0, none⟩) 11 11) (x1.alloc (.cells (c11 ya yq) 5)) (by go_simp) (some 30) rfl ?_
              skip
              refine hKK.out _ _ ?_ (fun hHeld => ?_)
              · exact (HXx1.out.alloc _)
              clear hKK KK
              simp only [Act.put, List.setIfInBounds_toArray, List.set_cons_zero, List.set_cons_succ]
              change wpAnyH _ _ _ _ _ _ _ _ (x1.alloc (.cells (c11 ya yq) 5))
              have hb := (Below.refl x1.heap.size x1).alloc (Nat.le_refl _) (.cells (c11 ya yq) 5)
              have HHx4 := Lib.hid (Blk.new x1 5 (c11 ya yq))
              have HBx4 := Lib.hid (HBx1.out.trans (hb.mono HBx1.out.size))
              have HXx4 := Lib.hid (HXx1.out.below hb HXx1.out.lt)
              have HGx4 := Lib.hid (HGx1.out.below hb HGx1.out.lt)
              clear hb
              generalize x1.alloc (.cells (c11 ya yq) 5) = x4 at *
              obtain ⟨g2, hg⟩ : ∃ g, g = x1.heap.size := ⟨_, rfl⟩
              skip
              rw [← hg] at HHx4 ⊢; clear hg
              refine wpAnyH_ready (rs := [8, 17]) (by kernel_rfl) (by simp) ?_
              refine AllReadyH.cons rfl (fun KK hKK => ?_) ?_
              · skip
                refine step_call2 (by rfl) 20 _ _ _ (by rfl) _ _ (by rfl) (by rfl) (fun _ _ => rfl) _ (HPB.out x4) (some 22) rfl ?_
                rintro e x5 ⟨rfl, hb⟩
                refine ⟨_, rfl, ?_⟩
                have HBx5 := Lib.hid (HBx4.out.trans (hb.mono HBx4.out.size))
                have HXx5 := Lib.hid (HXx4.out.below hb HXx4.out.lt)
                have HGx5 := Lib.hid (HGx4.out.below hb HGx4.out.lt)
                have HHx5 := Lib.hid (HHx4.out.below hb HHx4.out.lt)
                clear hb
                refine hKK.out _ _ ?_ (fun hHeld => ?_)
                · exact HXx5.out
                clear hKK KK
                simp only [Act.put, List.setIfInBounds_toArray, List.set_cons_zero, List.set_cons_succ]
                refine takeH (i := 9) (v := ?_) rfl (by kernel_rfl) (by kernel_rfl) (by kernel_rfl) (fun _ _ _ h => h) (some 23) rfl (Or.inl ⟨by rfl, ?_⟩) (by assumption) ?_
                rotate_left 1
                · intro wz hSw
                  go_simp
                  try with_reducible rfl
                simp only [Act.put, List.setIfInBounds_toArray, List.set_cons_zero, List.set_cons_succ]
                refine wpAnyH_ready (rs := [17]) (by kernel_rfl) (by simp) ?_
                refine AllReadyH.cons rfl (fun KK hKK => ?_) AllReadyH.nil
                have hcv := conv11 x5 g2 ya yq HHx5.out
                rw [← HSB.out] at hcv
                refine step_alloc (by rfl) (.string sB) x5 (by go_simp) (some 31) rfl ?_
                clear hcv
                refine hKK.out _ _ HXx5.out (fun hHeld => ?_)
                clear hKK KK
                simp only [Act.put, List.setIfInBounds_toArray, List.set_cons_zero, List.set_cons_succ]
                refine takeH (i := 18) (v := ?_) rfl (by kernel_rfl) (by kernel_rfl) (by kernel_rfl) (fun _ _ _ h => h) (some 32) rfl (Or.inl ⟨by rfl, ?_⟩) (by assumption) ?_
                rotate_left 1
                · intro wz hSw
                  go_simp
                  try with_reducible rfl
                simp only [Act.put, List.setIfInBounds_toArray, List.set_cons_zero, List.set_cons_succ]
                rw [HBS.out]
                refine takeH (i := 19) (v := ?_) rfl (by kernel_rfl) (by kernel_rfl) (by kernel_rfl) (fun _ _ _ h => h) (some 2) rfl (Or.inl ⟨by rfl, ?_⟩) (by assumption) ?_
                rotate_left 1
                · intro wz hSw
                  go_simp
                  try with_reducible rfl
                simp only [Act.put, List.setIfInBounds_toArray, List.set_cons_zero, List.set_cons_succ]
                refine takeH (i := 20) (v := ?_) rfl (by kernel_rfl) (by kernel_rfl) (by kernel_rfl) (fun _ _ _ h => h) (some 3) rfl (Or.inl ⟨by rfl, ?_⟩) (by assumption) ?_
                rotate_left 1
                · intro wz hSw
                  go_simp
                  try with_reducible rfl
                simp only [Act.put, List.setIfInBounds_toArray, List.set_cons_zero, List.set_cons_succ]
                refine wpAnyH_done (by kernel_rfl) ?_ _
                exact HSH x5 g1 g2 HBx5.out
              refine AllReadyH.cons rfl (fun KK hKK => ?_) ?_
              · skip
                have hcv := conv11 x4 g2 ya yq HHx4.out
                rw [← HSB.out] at hcv
                refine step_alloc (by rfl) (.string sB) x4 (by go_simp) (some 31) rfl ?_
                clear hcv
                refine hKK.out _ _ HXx4.out (fun hHeld => ?_)
                clear hKK KK
                simp only [Act.put, List.setIfInBounds_toArray, List.set_cons_zero, List.set_cons_succ]
                refine wpAnyH_ready (rs := [8]) (by kernel_rfl) (by simp) ?_
                refine AllReadyH.cons rfl (fun KK hKK => ?_) AllReadyH.nil
                refine step_call2 (by rfl) 20 _ _ _ (by rfl) _ _ (by rfl) (by rfl) (fun _ _ => rfl) _ (HPB.out x4) (some 22) rfl ?_
                rintro e x6 ⟨rfl, hb⟩
                refine ⟨_, rfl, ?_⟩
                have HBx6 := Lib.hid (HBx4.out.trans (hb.mono HBx4.out.size))
                have HXx6 := Lib.hid (HXx4.out.below hb HXx4.out.lt)
                have HGx6 := Lib.hid (HGx4.out.below hb HGx4.out.lt)
                have HHx6 := Lib.hid (HHx4.out.below hb HHx4.out.lt)
                clear hb
                refine hKK.out _ _ ?_ (fun hHeld => ?_)
                · exact HXx6.out
                clear hKK KK
                simp only [Act.put, List.setIfInBounds_toArray, List.set_cons_zero, List.set_cons_succ]
                refine takeH (i := 9) (v := ?_) rfl (by kernel_rfl) (by kernel_rfl) (by kernel_rfl) (fun _ _ _ h => h) (some 23) rfl (Or.inl ⟨by rfl, ?_⟩) (by assumption) ?_
                rotate_left 1
                · intro wz hSw
                  go_simp
                  try with_reducible rfl
                simp only [Act.put, List.setIfInBounds_toArray, List.set_cons_zero, List.set_cons_succ]
                refine takeH (i := 18) (v := ?_) rfl (by kernel_rfl) (by kernel_rfl) (by kernel_rfl) (fun _ _ _ h => h) (some 32) rfl (Or.inl ⟨by rfl, ?_⟩) (by assumption) ?_
                rotate_left 1
                · intro wz hSw
                  go_simp
                  try with_reducible rfl
                simp only [Act.put, List.setIfInBounds_toArray, List.set_cons_zero, List.set_cons_succ]
                rw [HBS.out]
                refine takeH (i := 19) (v := ?_) rfl (by kernel_rfl) (by kernel_rfl) (by kernel_rfl) (fun _ _ _ h => h) (some 2) rfl (Or.inl ⟨by rfl, ?_⟩) (by assumption) ?_
                rotate_left 1
                · intro wz hSw
                  go_simp
                  try with_reducible rfl
                simp only [Act.put, List.setIfInBounds_toArray, List.set_cons_zero, List.set_cons_succ]
                refine takeH (i := 20) (v := ?_) rfl (by kernel_rfl) (by kernel_rfl) (by kernel_rfl) (fun _ _ _ h => h) (some 3) rfl (Or.inl ⟨by rfl, ?_⟩) (by assumption) ?_
                rotate_left 1
                · intro wz hSw
                  go_simp
                  try with_reducible rfl
                simp only [Act.put, List.setIfInBounds_toArray, List.set_cons_zero, List.set_cons_succ]
                refine wpAnyH_done (by kernel_rfl) ?_ _
                exact HSH x6 g1 g2 HBx6.out
              exact AllReadyH.nil
            exact AllReadyH.nil
          refine AllReadyH.cons rfl (fun KK hKK => ?_) ?_
          · skip
            refine step_call2 (by rfl) 20 _ _ _ (by rfl) _ _ (by rfl) (by rfl) (fun _ _ => rfl) _ (HPB.out x1) (some 22) rfl ?_
            rintro e x7 ⟨rfl, hb⟩
            refine ⟨_, rfl, ?_⟩
            have HBx7 := Lib.hid (HBx1.out.trans (hb.mono HBx1.out.size))
            have HXx7 := Lib.hid (HXx1.out.below hb HXx1.out.lt)
            have HGx7 := Lib.hid (HGx1.out.below hb HGx1.out.lt)
            clear hb
            refine hKK.out _ _ ?_ (fun hHeld => ?_)
            · exact HXx7.out
            clear hKK KK
            simp only [Act.put, List.setIfInBounds_toArray, List.set_cons_zero, List.set_cons_succ]
            refine wpAnyH_ready (rs := [5, 16]) (by kernel_rfl) (by simp) ?_
            refine AllReadyH.cons rfl (fun KK hKK => ?_) ?_
            · skip
              have hcv := conv3 x7 g1 y0 yk HGx7.out
              rw [← HSA.out] at hcv
              refine step_alloc (by rfl) (.string sA) x7 (by go_simp) (some 19) rfl ?_
              clear hcv
              refine hKK.out _ _ HXx7.out (fun hHeld => ?_)
              clear hKK KK
              simp only [Act.put, List.setIfInBounds_toArray, List.set_cons_zero, List.set_cons_succ]
              refine takeH (i := 9) (v := ?_) rfl (by kernel_rfl) (by kernel_rfl) (by kernel_rfl) (fun _ _ _ h => h) (some 23) rfl (Or.inl ⟨by rfl, ?_⟩) (by assumption) ?_
              rotate_left 1
              · intro wz hSw
                go_simp
                try with_reducible rfl
              simp only [Act.put, List.setIfInBounds_toArray, List.set_cons_zero, List.set_cons_succ]
              refine wpAnyH_ready (rs := [16]) (by kernel_rfl) (by simp) ?_
              refine AllReadyH.cons rfl (fun KK hKK => ?_) AllReadyH.nil
              refine step_alloc (by rfl) (.slice (some ⟨x7.heap.size, 0, none⟩) 11 11) (x7.alloc (.cells (c11 ya yq) 5)) (by go_simp) (some 30) rfl ?_
              skip
              refine hKK.out _ _ ?_ (fun hHeld => ?_)
              · exact (HXx7.out.alloc _)
              clear hKK KK
              simp only [Act.put, List.setIfInBounds_toArray, List.set_cons_zero, List.set_cons_succ]
              change wpAnyH _ _ _ _ _ _ _ _ (x7.alloc (.cells (c11 ya yq) 5))
              have hb := (Below.refl x7.heap.size x7).alloc (Nat.le_refl _) (.cells (c11 ya yq) 5)
              have HHx8 := Lib.hid (Blk.new x7 5 (c11 ya yq))
              have HBx8 := Lib.hid (HBx7.out.trans (hb.mono HBx7.out.size))
              have HXx8 := Lib.hid (HXx7.out.below hb HXx7.out.lt)
              have HGx8 := Lib.hid (HGx7.out.below hb HGx7.out.lt)
              clear hb
              generalize x7.alloc (.cells (c11 ya yq) 5) = x8 at *
              obtain ⟨g2, hg⟩ : ∃ g, g = x7.heap.size := ⟨_, rfl⟩
              skip
              rw [← hg] at HHx8 ⊢; clear hg
              refine wpAnyH_ready (rs := [17]) (by kernel_rfl) (by simp) ?_
              refine AllReadyH.cons rfl (fun KK hKK => ?_) AllReadyH.nil
              have hcv := conv11 x8 g2 ya yq HHx8.out
              rw [← HSB.out] at hcv
              refine step_alloc (by rfl) (.string sB) x8 (by go_simp) (some 31) rfl ?_
              clear hcv
              refine hKK.out _ _ HXx8.out (fun hHeld => ?_)
              clear hKK KK
              simp only [Act.put, List.setIfInBounds_toArray, List.set_cons_zero, List.set_cons_succ]
              refine takeH (i := 18) (v := ?_) rfl (by kernel_rfl) (by kernel_rfl) (by kernel_rfl) (fun _ _ _ h => h) (some 32) rfl (Or.inl ⟨by rfl, ?_⟩) (by assumption) ?_
              rotate_left 1
              · intro wz hSw
                go_simp
                try with_reducible rfl
              simp only [Act.put, List.setIfInBounds_toArray, List.set_cons_zero, List.set_cons_succ]
              rw [HBS.out]
              refine takeH (i := 19) (v := ?_) rfl (by kernel_rfl) (by kernel_rfl) (by kernel_rfl) (fun _ _ _ h => h) (some 2) rfl (Or.inl ⟨by rfl, ?_⟩) (by assumption) ?_
              rotate_left 1
              · intro wz hSw
                go_simp
                try with_reducible rfl
              simp only [Act.put, List.setIfInBounds_toArray, List.set_cons_zero, List.set_cons_succ]
              refine takeH (i := 20) (v := ?_) rfl (by kernel_rfl) (by kernel_rfl) (by kernel_rfl) (fun _ _ _ h => h) (some 3) rfl (Or.inl ⟨by rfl, ?_⟩) (by assumption) ?_
              rotate_left 1
              · intro wz hSw
                go_simp
                try with_reducible rfl
              simp only [Act.put, List.setIfInBounds_toArray, List.set_cons_zero, List.set_cons_succ]
              refine wpAnyH_done (by kernel_rfl) ?_ _
              exact HSH x8 g1 g2 HBx8.out
            refine AllReadyH.cons rfl (fun KK hKK => ?_) ?_
            · skip
              refine step_alloc (by rfl) (.slice (some ⟨x7.heap.size, 0, none⟩) 11 11) (x7.alloc (.cells (c11 ya yq) 5)) (by go_simp) (some 30) rfl ?_
              skip
              refine hKK.out _ _ ?_ (fun hHeld => ?_)
              · exact (HXx7.out.alloc _)
              clear hKK KK
              simp only [Act.put, List.setIfInBounds_toArray, List.set_cons_zero, List.set_cons_succ]
              change wpAnyH _ _ _ _ _ _ _ _ (x7.alloc (.cells (c11 ya yq) 5))
              have hb := (Below.refl x7.heap.size x7).alloc (Nat.le_refl _) (.cells (c11 ya yq) 5)
              have HHx9 := Lib.hid (Blk.new x7 5 (c11 ya yq))
              have HBx9 := Lib.hid (HBx7.out.trans (hb.mono HBx7.out.size))
              have HXx9 := Lib.hid (HXx7.out.below hb HXx7.out.lt)
              have HGx9 := Lib.hid (HGx7.out.below hb HGx7.out.lt)
              clear hb
              generalize x7.alloc (.cells (c11 ya yq) 5) = x9 at *
              obtain ⟨g2, hg⟩ : ∃ g, g = x7.heap.size := ⟨_, rfl⟩
              skip
              rw [← hg] at HHx9 ⊢; clear hg
              refine wpAnyH_ready (rs := [5, 17]) (by kernel_rfl) (by simp) ?_
              refine AllReadyH.cons rfl (fun KK hKK => ?_) ?_
              · skip
                have hcv := conv3 x9 g1 y0 yk HGx9.out
                rw [← HSA.out] at hcv
                refine step_alloc (by rfl) (.string sA) x9 (by go_simp) (some 19) rfl ?_
                clear hcv
                refine hKK.out _ _ HXx9.out (fun hHeld => ?_)
                clear hKK KK
                simp only [Act.put, List.setIfInBounds_toArray, List.set_cons_zero, List.set_cons_succ]
                refine takeH (i := 9) (v := ?_) rfl (by kernel_rfl) (by kernel_rfl) (by kernel_rfl) (fun _ _ _ h => h) (some 23) rfl (Or.inl ⟨by rfl, ?_⟩) (by assumption) ?_
                rotate_left 1
                · intro wz hSw
                  go_simp
                  try with_reducible rfl
                simp only [Act.put, List.setIfInBounds_toArray, List.set_cons_zero, List.set_cons_succ]
                refine wpAnyH_ready (rs := [17]) (by kernel_rfl) (by simp) ?_
                refine AllReadyH.cons rfl (fun KK hKK => ?_) AllReadyH.nil
                have hcv := conv11 x9 g2 ya yq HHx9.out
                rw [← HSB.out] at hcv
                refine step_alloc (by rfl) (.string sB) x9 (by go_simp) (some 31) rfl ?_
                clear hcv
                refine hKK.out _ _ HXx9.out (fun hHeld => ?_)
                clear hKK KK
                simp only [Act.put, List.setIfInBounds_toArray, List.set_cons_zero, List.set_cons_succ]
                refine takeH (i := 18) (v := ?_) rfl (by kernel_rfl) (by kernel_rfl) (by kernel_rfl) (fun _ _ _ h => h) (some 32) rfl (Or.inl ⟨by rfl, ?_⟩) (by assumption) ?_
                rotate_left 1
                · intro wz hSw
                  go_simp
                  try with_reducible rfl
                simp only [Act.put, List.setIfInBounds_toArray, List.set_cons_zero, List.set_cons_succ]
                rw [HBS.out]
                refine takeH (i := 19) (v := ?_) rfl (by kernel_rfl) (by kernel_rfl) (by kernel_rfl) (fun _ _ _ h => h) (some 2) rfl (Or.inl ⟨by rfl, ?_⟩) (by assumption) ?_
                rotate_left 1
                · intro wz hSw
                  go_simp
                  try with_reducible rfl
                simp only [Act.put, List.setIfInBounds_toArray, List.set_cons_zero, List.set_cons_succ]
                refine takeH (i := 20) (v := ?_) rfl (by kernel_rfl) (by kernel_rfl) (by kernel_rfl) (fun _ _ _ h => h) (some 3) rfl (Or.inl ⟨by rfl, ?_⟩) (by assumption) ?_
                rotate_left 1
                · intro wz hSw
                  go_simp
                  try with_reducible rfl
                simp only [Act.put, List.setIfInBounds_toArray, List.set_cons_zero, List.set_cons_succ]
                refine wpAnyH_done (by kernel_rfl) ?_ _
                exact HSH x9 g1 g2 HBx9.out
              refine AllReadyH.cons rfl (fun KK hKK => ?_) ?_
              · skip
                have hcv := conv11 x9 g2 ya yq HHx9.out
                rw [← HSB.out] at hcv
                refine step_alloc (by rfl) (.string sB) x9 (by go_simp) (some 31) rfl ?_
                clear hcv
                refine hKK.out _ _ HXx9.out (fun hHeld => ?_)
                clear hKK KK
                simp only [Act.put, List.setIfInBounds_toArray, List.set_cons_zero, List.set_cons_succ]
                refine wpAnyH_ready (rs := [5]) (by kernel_rfl) (by simp) ?_
                refine AllReadyH.cons rfl (fun KK hKK => ?_) AllReadyH.nil
                have hcv := conv3 x9 g1 y0 yk HGx9.out
                rw [← HSA.out] at hcv
                refine step_alloc (by rfl) (.string sA) x9 (by go_simp) (some 19) rfl ?_
                clear hcv
                refine hKK.out _ _ HXx9.out (fun hHeld => ?_)
                clear hKK KK
                simp only [Act.put, List.setIfInBounds_toArray, List.set_cons_zero, List.set_cons_succ]
                refine takeH (i := 9) (v := ?_) rfl (by kernel_rfl) (by kernel_rfl) (by kernel_rfl) (fun _ _ _ h => h) (some 23) rfl (Or.inl ⟨by rfl, ?_⟩) (by assumption) ?_
                rotate_left 1
                · intro wz hSw
                  go_simp
                  try with_reducible rfl
                simp only [Act.put, List.setIfInBounds_toArray, List.set_cons_zero, List.set_cons_succ]
                refine takeH (i := 18) (v := ?_) rfl (by kernel_rfl) (by kernel_rfl) (by kernel_rfl) (fun _ _ _ h => h) (some 32) rfl (Or.inl ⟨by rfl, ?_⟩) (by assumption) ?_
                rotate_left 1
                · intro wz hSw
                  go_simp
                  try with_reducible rfl
                simp only [Act.put, List.setIfInBounds_toArray, List.set_cons_zero, List.set_cons_succ]
                rw [HBS.out]
                refine takeH (i := 19) (v := ?_) rfl (by kernel_rfl) (by kernel_rfl) (by kernel_rfl) (fun _ _ _ h => h) (some 2) rfl (Or.inl ⟨by rfl, ?_⟩) (by assumption) ?_
                rotate_left 1
                · intro wz hSw
                  go_simp
                  try with_reducible rfl
                simp only [Act.put, List.setIfInBounds_toArray, List.set_cons_zero, List.set_cons_succ]
                refine takeH (i := 20) (v := ?_) rfl (by kernel_rfl) (by kernel_rfl) (by kernel_rfl) (fun _ _ _ h => h) (some 3) rfl (Or.inl ⟨by rfl, ?_⟩) (by assumption) ?_
                rotate_left 1
                · intro wz hSw
                  go_simp
                  try with_reducible rfl
                simp only [Act.put, List.setIfInBounds_toArray, List.set_cons_zero, List.set_cons_succ]
                refine wpAnyH_done (by kernel_rfl) ?_ _
                exact HSH x9 g1 g2 HBx9.out
              exact AllReadyH.nil
            exact AllReadyH.nil
          refine AllReadyH.cons rfl (fun KK hKK => ?_) ?_
          · skip
            refine step_alloc (by rfl) (.slice (some ⟨x1.heap.size, 0, none⟩) 11 11) (x1.alloc (.cells (c11 ya yq) 5)) (by go_simp) (some 30) rfl ?_
            skip
            refine hKK.out _ _ ?_ (fun hHeld => ?_)
            · exact (HXx1.out.alloc _)
            clear hKK KK
            simp only [Act.put, List.setIfInBounds_toArray, List.set_cons_zero, List.set_cons_succ]
            change wpAnyH _ _ _ _ _ _ _ _ (x1.alloc (.cells (c11 ya yq) 5))
            have hb := (Below.refl x1.heap.size x1).alloc (Nat.le_refl _) (.cells (c11 ya yq) 5)
            have HHx10 := Lib.hid (Blk.new x1 5 (c11 ya yq))
            have HBx10 := Lib.hid (HBx1.out.trans (hb.mono HBx1.out.size))
            have HXx10 := Lib.hid (HXx1.out.below hb HXx1.out.lt)
            have HGx10 := Lib.hid (HGx1.out.below hb HGx1.out.lt)
            clear hb
            generalize x1.alloc (.cells (c11 ya yq) 5) = x10 at *
            obtain ⟨g2, hg⟩ : ∃ g, g = x1.heap.size := ⟨_, rfl⟩
            skip
            rw [← hg] at HHx10 ⊢; clear hg
            refine wpAnyH_ready (rs := [5, 8, 17]) (by kernel_rfl) (by simp) ?_
            refine AllReadyH.cons rfl (fun KK hKK => ?_) ?_
            · skip
              have hcv := conv3 x10 g1 y0 yk HGx10.out
              rw [← HSA.out] at hcv
              refine step_alloc (by rfl) (.string sA) x10 (by go_simp) (some 19) rfl ?_
              clear hcv
              refine hKK.out _ _ HXx10.out (fun hHeld => ?_)
              clear hKK KK
              simp only [Act.put, List.setIfInBounds_toArray, List.set_cons_zero, List.set_cons_succ]
              refine wpAnyH_ready (rs := [8, 17]) (by kernel_rfl) (by simp) ?_
              refine AllReadyH.cons rfl (fun KK hKK => ?_) ?_
              · skip
                refine step_call2 (by rfl) 20 _ _ _ (by rfl) _ _ (by rfl) (by rfl) (fun _ _ => rfl) _ (HPB.out x10) (some 22) rfl ?_
                rintro e x11 ⟨rfl, hb⟩
                refine ⟨_, rfl, ?_⟩
                have HBx11 := Lib.hid (HBx10.out.trans (hb.mono HBx10.out.size))
                have HXx11 := Lib.hid (HXx10.out.below hb HXx10.out.lt)
                have HGx11 := Lib.hid (HGx10.out.below hb HGx10.out.lt)
                have HHx11 := Lib.hid (HHx10.out.below hb HHx10.out.lt)
                clear hb
                refine hKK.out _ _ ?_ (fun hHeld => ?_)
                · exact HXx11.out
                clear hKK KK
                simp only [Act.put, List.setIfInBounds_toArray, List.set_cons_zero, List.set_cons_succ]
                refine takeH (i := 9) (v := ?_) rfl (by kernel_rfl) (by kernel_rfl) (by kernel_rfl) (fun _ _ _ h => h) (some 23) rfl (Or.inl ⟨by rfl, ?_⟩) (by assumption) ?_
                rotate_left 1
                · intro wz hSw
                  go_simp
                  try with_reducible rfl
                simp only [Act.put, List.setIfInBounds_toArray, List.set_cons_zero, List.set_cons_succ]
                refine wpAnyH_ready (rs := [17]) (by kernel_rfl) (by simp) ?_
                refine AllReadyH.cons rfl (fun KK hKK => ?_) AllReadyH.nil
                have hcv := conv11 x11 g2 ya yq HHx11.out
                rw [← HSB.out] at hcv
                refine step_alloc (by rfl) (.string sB) x11 (by go_simp) (some 31) rfl ?_
                clear hcv
                refine hKK.out _ _ HXx11.out (fun hHeld => ?_)
                clear hKK KK
                simp only [Act.put, List.setIfInBounds_toArray, List.set_cons_zero, List.set_cons_succ]
                refine takeH (i := 18) (v := ?_) rfl (by kernel_rfl) (by kernel_rfl) (by kernel_rfl) (fun _ _ _ h => h) (some 32) rfl (Or.inl ⟨by rfl, ?_⟩) (by assumption) ?_
                rotate_left 1
                · intro wz hSw
                  go_simp
                  try with_reducible rfl
                simp only [Act.put, List.setIfInBounds_toArray, List.set_cons_zero, List.set_cons_succ]
                rw [HBS.out]
                refine takeH (i := 19) (v := ?_) rfl (by kernel_rfl) (by kernel_rfl) (by kernel_rfl) (fun _ _ _ h => h) (some 2) rfl (Or.inl ⟨by rfl, ?_⟩) (by assumption) ?_
                rotate_left 1
                · intro wz hSw
                  go_simp
                  try with_reducible rfl
                simp only [Act.put, List.setIfInBounds_toArray, List.set_cons_zero, List.set_cons_succ]
                refine takeH (i := 20) (v := ?_) rfl (by kernel_rfl) (by kernel_rfl) (by kernel_rfl) (fun _ _ _ h => h) (some 3) rfl (Or.inl ⟨by rfl, ?_⟩) (by assumption) ?_
                rotate_left 1
                · intro wz hSw
                  go_simp
                  try with_reducible rfl
                simp only [Act.put, List.setIfInBounds_toArray, List.set_cons_zero, List.set_cons_succ]
                refine wpAnyH_done (by kernel_rfl) ?_ _
                exact HSH x11 g1 g2 HBx11.out
              refine AllReadyH.cons rfl (fun KK hKK => ?_) ?_
              · skip
                have hcv := conv11 x10 g2 ya yq HHx10.out
                rw [← HSB.out] at hcv
                refine step_alloc (by rfl) (.string sB) x10 (by go_simp) (some 31) rfl ?_
                clear hcv
                refine hKK.out _ _ HXx10.out (fun hHeld => ?_)
                clear hKK KK
                simp only [Act.put, List.setIfInBounds_toArray, List.set_cons_zero, List.set_cons_succ]
                refine wpAnyH_ready (rs := [8]) (by kernel_rfl) (by simp) ?_
                refine AllReadyH.cons rfl (fun KK hKK => ?_) AllReadyH.nil
                refine step_call2 (by rfl) 20 _ _ _ (by rfl) _ _ (by rfl) (by rfl) (fun _ _ => rfl) _ (HPB.out x10) (some 22) rfl ?_
                rintro e x12 ⟨rfl, hb⟩
                refine ⟨_, rfl, ?_⟩
                have HBx12 := Lib.hid (HBx10.out.trans (hb.mono HBx10.out.size))
                have HXx12 := Lib.hid (HXx10.out.below hb HXx10.out.lt)
                have HGx12 := Lib.hid (HGx10.out.below hb HGx10.out.lt)
                have HHx12 := Lib.hid (HHx10.out.below hb HHx10.out.lt)
                clear hb
                refine hKK.out _ _ ?_ (fun hHeld => ?_)
                · exact HXx12.out
                clear hKK KK
                simp only [Act.put, List.setIfInBounds_toArray, List.set_cons_zero, List.set_cons_succ]
                refine takeH (i := 9) (v := ?_) rfl (by kernel_rfl) (by kernel_rfl) (by kernel_rfl) (fun _ _ _ h => h) (some 23) rfl (Or.inl ⟨by rfl, ?_⟩) (by assumption) ?_
                rotate_left 1
                · intro wz hSw
                  go_simp
                  try with_reducible rfl
                simp only [Act.put, List.setIfInBounds_toArray, List.set_cons_zero, List.set_cons_succ]
                refine takeH (i := 18) (v := ?_) rfl (by kernel_rfl) (by kernel_rfl) (by kernel_rfl) (fun _ _ _ h => h) (some 32) rfl (Or.inl ⟨by rfl, ?_⟩) (by assumption) ?_
                rotate_left 1
                · intro wz hSw
                  go_simp
                  try with_reducible rfl
                simp only [Act.put, List.setIfInBounds_toArray, List.set_cons_zero, List.set_cons_succ]
                rw [HBS.out]
                refine takeH (i := 19) (v := ?_) rfl (by kernel_rfl) (by kernel_rfl) (by kernel_rfl) (fun _ _ _ h => h) (some 2) rfl (Or.inl ⟨by rfl, ?_⟩) (by assumption) ?_
                rotate_left 1
                · intro wz hSw
                  go_simp
                  try with_reducible rfl
                simp only [Act.put, List.setIfInBounds_toArray, List.set_cons_zero, List.set_cons_succ]
                refine takeH (i := 20) (v := ?_) rfl (by kernel_rfl) (by kernel_rfl) (by kernel_rfl) (fun _ _ _ h => h) (some 3) rfl (Or.inl ⟨by rfl, ?_⟩) (by assumption) ?_
                rotate_left 1
                · intro wz hSw
                  go_simp
                  try with_reducible rfl
                simp only [Act.put, List.setIfInBounds_toArray, List.set_cons_zero, List.set_cons_succ]
                refine wpAnyH_done (by kernel_rfl) ?_ _
                exact HSH x12 g1 g2 HBx12.out
              exact AllReadyH.nil
            refine AllReadyH.cons rfl (fun KK hKK => ?_) ?_
            · skip
              refine step_call2 (by rfl) 20 _ _ _ (by rfl) _ _ (by rfl) (by rfl) (fun _ _ => rfl) _ (HPB.out x10) (some 22) rfl ?_
              rintro e x13 ⟨rfl, hb⟩
              refine ⟨_, rfl, ?_⟩
              have HBx13 := Lib.hid (HBx10.out.trans (hb.mono HBx10.out.size))
              have HXx13 := Lib.hid (HXx10.out.below hb HXx10.out.lt)
              have HGx13 := Lib.hid (HGx10.out.below hb HGx10.out.lt)
              have HHx13 := Lib.hid (HHx10.out.below hb HHx10.out.lt)
              clear hb
              refine hKK.out _ _ ?_ (fun hHeld => ?_)
              · exact HXx13.out
              clear hKK KK
              simp only [Act.put, List.setIfInBounds_toArray, List.set_cons_zero, List.set_cons_succ]
              refine wpAnyH_ready (rs := [5, 17]) (by kernel_rfl) (by simp) ?_
              refine AllReadyH.cons rfl (fun KK hKK => ?_) ?_
              · skip
                have hcv := conv3 x13 g1 y0 yk HGx13.out
                rw [← HSA.out] at hcv
                refine step_alloc (by rfl) (.string sA) x13 (by go_simp) (some 19) rfl ?_
                clear hcv
                refine hKK.out _ _ HXx13.out (fun hHeld => ?_)
                clear hKK KK
                simp only [Act.put, List.setIfInBounds_toArray, List.set_cons_zero, List.set_cons_succ]
                refine takeH (i := 9) (v := ?_) rfl (by kernel_rfl) (by kernel_rfl) (by kernel_rfl) (fun _ _ _ h => h) (some 23) rfl (Or.inl ⟨by rfl, ?_⟩) (by assumption) ?_
                rotate_left 1
                · intro wz hSw
                  go_simp
                  try with_reducible rfl
                simp only [Act.put, List.setIfInBounds_toArray, List.set_cons_zero, List.set_cons_succ]
                refine wpAnyH_ready (rs := [17]) (by kernel_rfl) (by simp) ?_
                refine AllReadyH.cons rfl (fun KK hKK => ?_) AllReadyH.nil
                have hcv := conv11 x13 g2 ya yq HHx13.out
                rw [← HSB.out] at hcv
                refine step_alloc (by rfl) (.string sB) x13 (by go_simp) (some 31) rfl ?_
                clear hcv
                refine hKK.out _ _ HXx13.out (fun hHeld => ?_)
                clear hKK KK
                simp only [Act.put, List.setIfInBounds_toArray, List.set_cons_zero, List.set_cons_succ]
                refine takeH (i := 18) (v := ?_) rfl (by kernel_rfl) (by kernel_rfl) (by kernel_rfl) (fun _ _ _ h => h) (some 32) rfl (Or.inl ⟨by rfl, ?_⟩) (by assumption) ?_
                rotate_left 1
                · intro wz hSw
                  go_simp
                  try with_reducible rfl
                simp only [Act.put, List.setIfInBounds_toArray, List.set_cons_zero, List.set_cons_succ]
                rw [HBS.out]
                refine takeH (i := 19) (v := ?_) rfl (by kernel_rfl) (by kernel_rfl) (by kernel_rfl) (fun _ _ _ h => h) (some 2) rfl (Or.inl ⟨by rfl, ?_⟩) (by assumption) ?_
                rotate_left 1
                · intro wz hSw
                  go_simp
                  try with_reducible rfl
                simp only [Act.put, List.setIfInBounds_toArray, List.set_cons_zero, List.set_cons_succ]
                refine takeH (i := 20) (v := ?_) rfl (by kernel_rfl) (by kernel_rfl) (by kernel_rfl) (fun _ _ _ h => h) (some 3) rfl (Or.inl ⟨by rfl, ?_⟩) (by assumption) ?_
                rotate_left 1
                · intro wz hSw
                  go_simp
                  try with_reducible rfl
                simp only [Act.put, List.setIfInBounds_toArray, List.set_cons_zero, List.set_cons_succ]
                refine wpAnyH_done (by kernel_rfl) ?_ _
                exact HSH x13 g1 g2 HBx13.out
              refine AllReadyH.cons rfl (fun KK hKK => ?_) ?_
              · skip
                have hcv := conv11 x13 g2 ya yq HHx13.out
                rw [← HSB.out] at hcv
                refine step_alloc (by rfl) (.string sB) x13 (by go_simp) (some 31) rfl ?_
                clear hcv
                refine hKK.out _ _ HXx13.out (fun hHeld => ?_)
                clear hKK KK
                simp only [Act.put, List.setIfInBounds_toArray, List.set_cons_zero, List.set_cons_succ]
                refine wpAnyH_ready (rs := [5]) (by kernel_rfl) (by simp) ?_
                refine AllReadyH.cons rfl (fun KK hKK => ?_) AllReadyH.nil
                have hcv := conv3 x13 g1 y0 yk HGx13.out
                rw [← HSA.out] at hcv
                refine step_alloc (by rfl) (.string sA) x13 (by go_simp) (some 19) rfl ?_
                clear hcv
                refine hKK.out _ _ HXx13.out (fun hHeld => ?_)
                clear hKK KK
                simp only [Act.put, List.setIfInBounds_toArray, List.set_cons_zero, List.set_cons_succ]
                refine takeH (i := 9) (v := ?_) rfl (by kernel_rfl) (by kernel_rfl) (by kernel_rfl) (fun _ _ _ h => h) (some 23) rfl (Or.inl ⟨by rfl, ?_⟩) (by assumption) ?_
                rotate_left 1
                · intro wz hSw
                  go_simp
                  try with_reducible rfl
                simp only [Act.put, List.setIfInBounds_toArray, List.set_cons_zero, List.set_cons_succ]
                refine takeH (i := 18) (v := ?_) rfl (by kernel_rfl) (by kernel_rfl) (by kernel_rfl) (fun _ _ _ h => h) (some 32) rfl (Or.inl ⟨by rfl, ?_⟩) (by assumption) ?_
                rotate_left 1
                · intro wz hSw
                  go_simp
                  try with_reducible rfl
                simp only [Act.put, List.setIfInBounds_toArray, List.set_cons_zero, List.set_cons_succ]
                rw [HBS.out]
                refine takeH (i := 19) (v := ?_) rfl (by kernel_rfl) (by kernel_rfl) (by kernel_rfl) (fun _ _ _ h => h) (some 2) rfl (Or.inl ⟨by rfl, ?_⟩) (by assumption) ?_
                rotate_left 1
                · intro wz hSw
                  go_simp
                  try with_reducible rfl
                simp only [Act.put, List.setIfInBounds_toArray, List.set_cons_zero, List.set_cons_succ]
                refine takeH (i := 20) (v := ?_) rfl (by kernel_rfl) (by kernel_rfl) (by kernel_rfl) (fun _ _ _ h => h) (some 3) rfl (Or.inl ⟨by rfl, ?_⟩) (by assumption) ?_
                rotate_left 1
                · intro wz hSw
                  go_simp
                  try with_reducible rfl
                simp only [Act.put, List.setIfInBounds_toArray, List.set_cons_zero, List.set_cons_succ]
                refine wpAnyH_done (by kernel_rfl) ?_ _
                exact HSH x13 g1 g2 HBx13.out
              exact AllReadyH.nil
            refine AllReadyH.cons rfl (fun KK hKK => ?_) ?_
            · skip
              have hcv := conv11 x10 g2 ya yq HHx10.out
              rw [← HSB.out] at hcv
              refine step_alloc (by rfl) (.string sB) x10 (by go_simp) (some 31) rfl ?_
              clear hcv
              refine hKK.out _ _ HXx10.out (fun hHeld => ?_)
              clear hKK KK
              simp only [Act.put, List.setIfInBounds_toArray, List.set_cons_zero, List.set_cons_succ]
              refine wpAnyH_ready (rs := [5, 8]) (by kernel_rfl) (by simp) ?_
              refine AllReadyH.cons rfl (fun KK hKK => ?_) ?_
              · skip
                have hcv := conv3 x10 g1 y0 yk HGx10.out
                rw [← HSA.out] at hcv
                refine step_alloc (by rfl) (.string sA) x10 (by go_simp) (some 19) rfl ?_
                clear hcv
                refine hKK.out _ _ HXx10.out (fun hHeld => ?_)
                clear hKK KK
                simp only [Act.put, List.setIfInBounds_toArray, List.set_cons_zero, List.set_cons_succ]
                refine wpAnyH_ready (rs := [8]) (by kernel_rfl) (by simp) ?_
                refine AllReadyH.cons rfl (fun KK hKK => ?_) AllReadyH.nil
                refine step_call2 (by rfl) 20 _ _ _ (by rfl) _ _ (by rfl) (by rfl) (fun _ _ => rfl) _ (HPB.out x10) (some 22) rfl ?_
                rintro e x14 ⟨rfl, hb⟩
                refine ⟨_, rfl, ?_⟩
                have HBx14 := Lib.hid (HBx10.out.trans (hb.mono HBx10.out.size))
                have HXx14 := Lib.hid (HXx10.out.below hb HXx10.out.lt)
                have HGx14 := Lib.hid (HGx10.out.below hb HGx10.out.lt)
                have HHx14 := Lib.hid (HHx10.out.below hb HHx10.out.lt)
                clear hb
                refine hKK.out _ _ ?_ (fun hHeld => ?_)
                · exact HXx14.out
                clear hKK KK
                simp only [Act.put, List.setIfInBounds_toArray, List.set_cons_zero, List.set_cons_succ]
                refine takeH (i := 9) (v := ?_) rfl (by kernel_rfl) (by kernel_rfl) (by kernel_rfl) (fun _ _ _ h => h) (some 23) rfl (Or.inl ⟨by rfl, ?_⟩) (by assumption) ?_
                rotate_left 1
                · intro wz hSw
                  go_simp
                  try with_reducible rfl
                simp only [Act.put, List.setIfInBounds_toArray, List.set_cons_zero, List.set_cons_succ]
                refine takeH (i := 18) (v := ?_) rfl (by kernel_rfl) (by kernel_rfl) (by kernel_rfl) (fun _ _ _ h => h) (some 32) rfl (Or.inl ⟨by rfl, ?_⟩) (by assumption) ?_
                rotate_left 1
                · intro wz hSw
                  go_simp
                  try with_reducible rfl
                simp only [Act.put, List.setIfInBounds_toArray, List.set_cons_zero, List.set_cons_succ]
                rw [HBS.out]
                refine takeH (i := 19) (v := ?_) rfl (by kernel_rfl) (by kernel_rfl) (by kernel_rfl) (fun _ _ _ h => h) (some 2) rfl (Or.inl ⟨by rfl, ?_⟩) (by assumption) ?_
                rotate_left 1
                · intro wz hSw
                  go_simp
                  try with_reducible rfl
                simp only [Act.put, List.setIfInBounds_toArray, List.set_cons_zero, List.set_cons_succ]
                refine takeH (i := 20) (v := ?_) rfl (by kernel_rfl) (by kernel_rfl) (by kernel_rfl) (fun _ _ _ h => h) (some 3) rfl (Or.inl ⟨by rfl, ?_⟩) (by assumption) ?_
                rotate_left 1
                · intro wz hSw
                  go_simp
                  try with_reducible rfl
                simp only [Act.put, List.setIfInBounds_toArray, List.set_cons_zero, List.set_cons_succ]
                refine wpAnyH_done (by kernel_rfl) ?_ _
                exact HSH x14 g1 g2 HBx14.out
              refine AllReadyH.cons rfl (fun KK hKK => ?_) ?_
              · skip
                refine step_call2 (by rfl) 20 _ _ _ (by rfl) _ _ (by rfl) (by rfl) (fun _ _ => rfl) _ (HPB.out x10) (some 22) rfl ?_
                rintro e x15 ⟨rfl, hb⟩
                refine ⟨_, rfl, ?_⟩
                have HBx15 := Lib.hid (HBx10.out.trans (hb.mono HBx10.out.size))
                have HXx15 := Lib.hid (HXx10.out.below hb HXx10.out.lt)
                have HGx15 := Lib.hid (HGx10.out.below hb HGx10.out.lt)
                have HHx15 := Lib.hid (HHx10.out.below hb HHx10.out.lt)
                clear hb
                refine hKK.out _ _ ?_ (fun hHeld => ?_)
                · exact HXx15.out
                clear hKK KK
                simp only [Act.put, List.setIfInBounds_toArray, List.set_cons_zero, List.set_cons_succ]
                refine wpAnyH_ready (rs := [5]) (by kernel_rfl) (by simp) ?_
                refine AllReadyH.cons rfl (fun KK hKK => ?_) AllReadyH.nil
                have hcv := conv3 x15 g1 y0 yk HGx15.out
                rw [← HSA.out] at hcv
                refine step_alloc (by rfl) (.string sA) x15 (by go_simp) (some 19) rfl ?_
                clear hcv
                refine hKK.out _ _ HXx15.out (fun hHeld => ?_)
                clear hKK KK
                simp only [Act.put, List.setIfInBounds_toArray, List.set_cons_zero, List.set_cons_succ]
                refine takeH (i := 9) (v := ?_) rfl (by kernel_rfl) (by kernel_rfl) (by kernel_rfl) (fun _ _ _ h => h) (some 23) rfl (Or.inl ⟨by rfl, ?_⟩) (by assumption) ?_
                rotate_left 1
                · intro wz hSw
                  go_simp
                  try with_reducible rfl
                simp only [Act.put, List.setIfInBounds_toArray, List.set_cons_zero, List.set_cons_succ]
                refine takeH (i := 18) (v := ?_) rfl (by kernel_rfl) (by kernel_rfl) (by kernel_rfl) (fun _ _ _ h => h) (some 32) rfl (Or.inl ⟨by rfl, ?_⟩) (by assumption) ?_
                rotate_left 1
                · intro wz hSw
                  go_simp
                  try with_reducible rfl
                simp only [Act.put, List.setIfInBounds_toArray, List.set_cons_zero, List.set_cons_succ]
                rw [HBS.out]
                refine takeH (i := 19) (v := ?_) rfl (by kernel_rfl) (by kernel_rfl) (by kernel_rfl) (fun _ _ _ h => h) (some 2) rfl (Or.inl ⟨by rfl, ?_⟩) (by assumption) ?_
                rotate_left 1
                · intro wz hSw
                  go_simp
                  try with_reducible rfl
                simp only [Act.put, List.setIfInBounds_toArray, List.set_cons_zero, List.set_cons_succ]
                refine takeH (i := 20) (v := ?_) rfl (by kernel_rfl) (by kernel_rfl) (by kernel_rfl) (fun _ _ _ h => h) (some 3) rfl (Or.inl ⟨by rfl, ?_⟩) (by assumption) ?_
                rotate_left 1
                · intro wz hSw
                  go_simp
                  try with_reducible rfl
                simp only [Act.put, List.setIfInBounds_toArray, List.set_cons_zero, List.set_cons_succ]
                refine wpAnyH_done (by kernel_rfl) ?_ _
                exact HSH x15 g1 g2 HBx15.out
              exact AllReadyH.nil
            exact AllReadyH.nil
          exact AllReadyH.nil
        refine AllReadyH.cons rfl (fun KK hKK => ?_) ?_
        · skip
          refine step_call2 (by rfl) 20 _ _ _ (by rfl) _ _ (by rfl) (by rfl) (fun _ _ => rfl) _ (HPB.out x0) (some 22) rfl ?_
          rintro e x16 ⟨rfl, hb⟩
          refine ⟨_, rfl, ?_⟩
          have HBx16 := Lib.hid (HBd.out.trans (hb.mono HBd.out.size))
          have HXx16 := Lib.hid (HXd.out.below hb HXd.out.lt)
          clear hb
          refine hKK.out _ _ ?_ (fun hHeld => ?_)
          · exact HXx16.out
          clear hKK KK
          simp only [Act.put, List.setIfInBounds_toArray, List.set_cons_zero, List.set_cons_succ]
          refine wpAnyH_ready (rs := [4, 16]) (by kernel_rfl) (by simp) ?_
          refine AllReadyH.cons rfl (fun KK hKK => ?_) ?_
          · skip
            refine step_alloc (by rfl) (.slice (some ⟨x16.heap.size, 0, none⟩) 3 3) (x16.alloc (.cells (c3 y0 yk) 5)) (by go_simp) (some 18) rfl ?_
            skip
            refine hKK.out _ _ ?_ (fun hHeld => ?_)
            · exact (HXx16.out.alloc _)
            clear hKK KK
            simp only [Act.put, List.setIfInBounds_toArray, List.set_cons_zero, List.set_cons_succ]
            change wpAnyH _ _ _ _ _ _ _ _ (x16.alloc (.cells (c3 y0 yk) 5))
            have hb := (Below.refl x16.heap.size x16).alloc (Nat.le_refl _) (.cells (c3 y0 yk) 5)
            have HGx17 := Lib.hid (Blk.new x16 5 (c3 y0 yk))
            have HBx17 := Lib.hid (HBx16.out.trans (hb.mono HBx16.out.size))
            have HXx17 := Lib.hid (HXx16.out.below hb HXx16.out.lt)
            clear hb
            generalize x16.alloc (.cells (c3 y0 yk) 5) = x17 at *
            obtain ⟨g1, hg⟩ : ∃ g, g = x16.heap.size := ⟨_, rfl⟩
            skip
            rw [← hg] at HGx17 ⊢; clear hg
            refine wpAnyH_ready (rs := [5, 16]) (by kernel_rfl) (by simp) ?_
            refine AllReadyH.cons rfl (fun KK hKK => ?_) ?_
            · skip
              have hcv := conv3 x17 g1 y0 yk HGx17.out
              rw [← HSA.out] at hcv
              refine step_alloc (by rfl) (.string sA) x17 (by go_simp) (some 19) rfl ?_
              clear hcv
              refine hKK.out _ _ HXx17.out (fun hHeld => ?_)
              clear hKK KK
              simp only [Act.put, List.setIfInBounds_toArray, List.set_cons_zero, List.set_cons_succ]
              refine takeH (i := 9) (v := ?_) rfl (by kernel_rfl) (by kernel_rfl) (by kernel_rfl) (fun _ _ _ h => h) (some 23) rfl (Or.inl ⟨by rfl, ?_⟩) (by assumption) ?_
              rotate_left 1
              · intro wz hSw
                go_simp
                try with_reducible rfl
              simp only [Act.put, List.setIfInBounds_toArray, List.set_cons_zero, List.set_cons_succ]
              refine wpAnyH_ready (rs := [16]) (by kernel_rfl) (by simp) ?_
              refine AllReadyH.cons rfl (fun KK hKK => ?_) AllReadyH.nil
              refine step_alloc (by rfl) (.slice (some ⟨x17.heap.size, 0, none⟩) 11 11) (x17.alloc (.cells (c11 ya yq) 5)) (by go_simp) (some 30) rfl ?_
              skip
              refine hKK.out _ _ ?_ (fun hHeld => ?_)
              · exact (HXx17.out.alloc _)
              clear hKK KK
              simp only [Act.put, List.setIfInBounds_toArray, List.set_cons_zero, List.set_cons_succ]
              change wpAnyH _ _ _ _ _ _ _ _ (x17.alloc (.cells (c11 ya yq) 5))
              have hb := (Below.refl x17.heap.size x17).alloc (Nat.le_refl _) (.cells (c11 ya yq) 5)
              have HHx18 := Lib.hid (Blk.new x17 5 (c11 ya yq))
              have HBx18 := Lib.hid (HBx17.out.trans (hb.mono HBx17.out.size))
              have HXx18 := Lib.hid (HXx17.out.below hb HXx17.out.lt)
              have HGx18 := Lib.hid (HGx17.out.below hb HGx17.out.lt)
              clear hb
              generalize x17.alloc (.cells (c11 ya yq) 5) = x18 at *
              obtain ⟨g2, hg⟩ : ∃ g, g = x17.heap.size := ⟨_, rfl⟩
              skip
              rw [← hg] at HHx18 ⊢; clear hg
              refine wpAnyH_ready (rs := [17]) (by kernel_rfl) (by simp) ?_
              refine AllReadyH.cons rfl (fun KK hKK => ?_) AllReadyH.nil
              have hcv := conv11 x18 g2 ya yq HHx18.out
              rw [← HSB.out] at hcv
              refine step_alloc (by rfl) (.string sB) x18 (by go_simp) (some 31) rfl ?_
              clear hcv
              refine hKK.out _ _ HXx18.out (fun hHeld => ?_)
              clear hKK KK
              simp only [Act.put, List.setIfInBounds_toArray, List.set_cons_zero, List.set_cons_succ]
              refine takeH (i := 18) (v := ?_) rfl (by kernel_rfl) (by kernel_rfl) (by kernel_rfl) (fun _ _ _ h => h) (some 32) rfl (Or.inl ⟨by rfl, ?_⟩) (by assumption) ?_
              rotate_left 1
              · intro wz hSw
                go_simp
                try with_reducible rfl
              simp only [Act.put, List.setIfInBounds_toArray, List.set_cons_zero, List.set_cons_succ]
              rw [HBS.out]
              refine takeH (i := 19) (v := ?_) rfl (by kernel_rfl) (by kernel_rfl) (by kernel_rfl) (fun _ _ _ h => h) (some 2) rfl (Or.inl ⟨by rfl, ?_⟩) (by assumption) ?_
              rotate_left 1
              · intro wz hSw
                go_simp
                try with_reducible rfl
              simp only [Act.put, List.setIfInBounds_toArray, List.set_cons_zero, List.set_cons_succ]
              refine takeH (i := 20) (v := ?_) rfl (by kernel_rfl) (by kernel_rfl) (by kernel_rfl) (fun _ _ _ h => h) (some 3) rfl (Or.inl ⟨by rfl, ?_⟩) (by assumption) ?_
              rotate_left 1
              · intro wz hSw
                go_simp
                try with_reducible rfl
              simp only [Act.put, List.setIfInBounds_toArray, List.set_cons_zero, List.set_cons_succ]
              refine wpAnyH_done (by kernel_rfl) ?_ _
              exact HSH x18 g1 g2 HBx18.out
            refine AllReadyH.cons rfl (fun KK hKK => ?_) ?_
            · skip
              refine step_alloc (by rfl) (.slice (some ⟨x17.heap.size, 0, none⟩) 11 11) (x17.alloc (.cells (c11 ya yq) 5)) (by go_simp) (some 30) rfl ?_
              skip
              refine hKK.out _ _ ?_ (fun hHeld => ?_)
              · exact (HXx17.out.alloc _)
              clear hKK KK
              simp only [Act.put, List.setIfInBounds_toArray, List.set_cons_zero, List.set_cons_succ]
              change wpAnyH _ _ _ _ _ _ _ _ (x17.alloc (.cells (c11 ya yq) 5))
              have hb := (Below.refl x17.heap.size x17).alloc (Nat.le_refl _) (.cells (c11 ya yq) 5)
              have HHx19 := Lib.hid (Blk.new x17 5 (c11 ya yq))
              have HBx19 := Lib.hid (HBx17.out.trans (hb.mono HBx17.out.size))
              have HXx19 := Lib.hid (HXx17.out.below hb HXx17.out.lt)
              have HGx19 := Lib.hid (HGx17.out.below hb HGx17.out.lt)
              clear hb
              generalize x17.alloc (.cells (c11 ya yq) 5) = x19 at *
              obtain ⟨g2, hg⟩ : ∃ g, g = x17.heap.size := ⟨_, rfl⟩
              skip
              rw [← hg] at HHx19 ⊢; clear hg
              refine wpAnyH_ready (rs := [5, 17]) (by kernel_rfl) (by simp) ?_
              refine AllReadyH.cons rfl (fun KK hKK => ?_) ?_
              · skip
                have hcv := conv3 x19 g1 y0 yk HGx19.out
                rw [← HSA.out] at hcv
                refine step_alloc (by rfl) (.string sA) x19 (by go_simp) (some 19) rfl ?_
                clear hcv
                refine hKK.out _ _ HXx19.out (fun hHeld => ?_)
                clear hKK KK
                simp only [Act.put, List.setIfInBounds_toArray, List.set_cons_zero, List.set_cons_succ]
                refine takeH (i := 9) (v := ?_) rfl (by kernel_rfl) (by kernel_rfl) (by kernel_rfl) (fun _ _ _ h => h) (some 23) rfl (Or.inl ⟨by rfl, ?_⟩) (by assumption) ?_
                rotate_left 1
                · intro wz hSw
                  go_simp
                  try with_reducible rfl
                simp only [Act.put, List.setIfInBounds_toArray, List.set_cons_zero, List.set_cons_succ]
                refine wpAnyH_ready (rs := [17]) (by kernel_rfl) (by simp) ?_
                refine AllReadyH.cons rfl (fun KK hKK => ?_) AllReadyH.nil
                have hcv := conv11 x19 g2 ya yq HHx19.out
                rw [← HSB.out] at hcv
                refine step_alloc (by rfl) (.string sB) x19 (by go_simp) (some 31) rfl ?_
                clear hcv
                refine hKK.out _ _ HXx19.out (fun hHeld => ?_)
                clear hKK KK
                simp only [Act.put, List.setIfInBounds_toArray, List.set_cons_zero, List.set_cons_succ]
                refine takeH (i := 18) (v := ?_) rfl (by kernel_rfl) (by kernel_rfl) (by kernel_rfl) (fun _ _ _ h => h) (some 32) rfl (Or.inl ⟨by rfl, ?_⟩) (by assumption) ?_
                rotate_left 1
                · intro wz hSw
                  go_simp
                  try with_reducible rfl
                simp only [Act.put, List.setIfInBounds_toArray, List.set_cons_zero, List.set_cons_succ]
                rw [HBS.out]
                refine takeH (i := 19) (v := ?_) rfl (by kernel_rfl) (by kernel_rfl) (by kernel_rfl) (fun _ _ _ h => h) (some 2) rfl (Or.inl ⟨by rfl, ?_⟩) (by assumption) ?_
                rotate_left 1
                · intro wz hSw
                  go_simp
                  try with_reducible rfl
                simp only [Act.put, List.setIfInBounds_toArray, List.set_cons_zero, List.set_cons_succ]
                refine takeH (i := 20) (v := ?_) rfl (by kernel_rfl) (by kernel_rfl) (by kernel_rfl) (fun _ _ _ h => h) (some 3) rfl (Or.inl ⟨by rfl, ?_⟩) (by assumption) ?_
                rotate_left 1
                · intro wz hSw
                  go_simp
                  try with_reducible rfl
                simp only [Act.put, List.setIfInBounds_toArray, List.set_cons_zero, List.set_cons_succ]
                refine wpAnyH_done (by kernel_rfl) ?_ _
                exact HSH x19 g1 g2 HBx19.out
              refine AllReadyH.cons rfl (fun KK hKK => ?_) ?_
              · skip
                have hcv := conv11 x19 g2 ya yq HHx19.out
                rw [← HSB.out] at hcv
                refine step_alloc (by rfl) (.string sB) x19 (by go_simp) (some 31) rfl ?_
                clear hcv
                refine hKK.out _ _ HXx19.out (fun hHeld => ?_)
                clear hKK KK
                simp only [Act.put, List.setIfInBounds_toArray, List.set_cons_zero, List.set_cons_succ]
                refine wpAnyH_ready (rs := [5]) (by kernel_rfl) (by simp) ?_
                refine AllReadyH.cons rfl (fun KK hKK => ?_) AllReadyH.nil
                have hcv := conv3 x19 g1 y0 yk HGx19.out
                rw [← HSA.out] at hcv
                refine step_alloc (by rfl) (.string sA) x19 (by go_simp) (some 19) rfl ?_
                clear hcv
                refine hKK.out _ _ HXx19.out (fun hHeld => ?_)
                clear hKK KK
                simp only [Act.put, List.setIfInBounds_toArray, List.set_cons_zero, List.set_cons_succ]
                refine takeH (i := 9) (v := ?_) rfl (by kernel_rfl) (by kernel_rfl) (by kernel_rfl) (fun _ _ _ h => h) (some 23) rfl (Or.inl ⟨by rfl, ?_⟩) (by assumption) ?_
                rotate_left 1
                · intro wz hSw
                  go_simp
                  try with_reducible rfl
                simp only [Act.put, List.setIfInBounds_toArray, List.set_cons_zero, List.set_cons_succ]
                refine takeH (i := 18) (v := ?_) rfl (by kernel_rfl) (by kernel_rfl) (by kernel_rfl) (fun _ _ _ h => h) (some 32) rfl (Or.inl ⟨by rfl, ?_⟩) (by assumption) ?_
                rotate_left 1
                · intro wz hSw
                  go_simp
                  try with_reducible rfl
                simp only [Act.put, List.setIfInBounds_toArray, List.set_cons_zero, List.set_cons_succ]
                rw [HBS.out]
                refine takeH (i := 19) (v := ?_) rfl (by kernel_rfl) (by kernel_rfl) (by kernel_rfl) (fun _ _ _ h => h) (some 2) rfl (Or.inl ⟨by rfl, ?_⟩) (by assumption) ?_
                rotate_left 1
                · intro wz hSw
                  go_simp
                  try with_reducible rfl
                simp only [Act.put, List.setIfInBounds_toArray, List.set_cons_zero, List.set_cons_succ]
                refine takeH (i := 20) (v := ?_) rfl (by kernel_rfl) (by kernel_rfl) (by kernel_rfl) (fun _ _ _ h => h) (some 3) rfl (Or.inl ⟨by rfl, ?_⟩) (by assumption) ?_
                rotate_left 1
                · intro wz hSw
                  go_simp
                  try with_reducible rfl
                simp only [Act.put, List.setIfInBounds_toArray, List.set_cons_zero, List.set_cons_succ]
                refine wpAnyH_done (by kernel_rfl) ?_ _
                exact HSH x19 g1 g2 HBx19.out
              exact AllReadyH.nil
            exact AllReadyH.nil
          refine AllReadyH.cons rfl (fun KK hKK => ?_) ?_
          · skip
            refine step_alloc (by rfl) (.slice (some ⟨x16.heap.size, 0, none⟩) 11 11) (x16.alloc (.cells (c11 ya yq) 5)) (by go_simp) (some 30) rfl ?_
            skip
            refine hKK.out _ _ ?_ (fun hHeld => ?_)
            · exact (HXx16.out.alloc _)
            clear hKK KK
            simp only [Act.put, List.setIfInBounds_toArray, List.set_cons_zero, List.set_cons_succ]
            change wpAnyH _ _ _ _ _ _ _ _ (x16.alloc (.cells (c11 ya yq) 5))
            have hb := (Below.refl x16.heap.size x16).alloc (Nat.le_refl _) (.cells (c11 ya yq) 5)
            have HHx20 := Lib.hid (Blk.new x16 5 (c11 ya yq))
            have HBx20 := Lib.hid (HBx16.out.trans (hb.mono HBx16.out.size))
            have HXx20 := Lib.hid (HXx16.out.below hb HXx16.out.lt)
            clear hb
            generalize x16.alloc (.cells (c11 ya yq) 5) = x20 at *
            obtain ⟨g2, hg⟩ : ∃ g, g = x16.heap.size := ⟨_, rfl⟩
            skip
            rw [← hg] at HHx20 ⊢; clear hg
            refine wpAnyH_ready (rs := [4, 17]) (by kernel_rfl) (by simp) ?_
            refine AllReadyH.cons rfl (fun KK hKK => ?_) ?_
            · skip
              refine step_alloc (by rfl) (.slice (some ⟨x20.heap.size, 0, none⟩) 3 3) (x20.alloc (.cells (c3 y0 yk) 5)) (by go_simp) (some 18) rfl ?_
              skip
              refine hKK.out _ _ ?_ (fun hHeld => ?_)
              · exact (HXx20.out.alloc _)
              clear hKK KK
              simp only [Act.put, List.setIfInBounds_toArray, List.set_cons_zero, List.set_cons_succ]
              change wpAnyH _ _ _ _ _ _ _ _ (x20.alloc (.cells (c3 y0 yk) 5))
              have hb := (Below.refl x20.heap.size x20).alloc (Nat.le_refl _) (.cells (c3 y0 yk) 5)
              have HGx21 := Lib.hid (Blk.new x20 5 (c3 y0 yk))
              have HBx21 := Lib.hid (HBx20.out.trans (hb.mono HBx20.out.size))
              have HXx21 := Lib.hid (HXx20.out.below hb HXx20.out.lt)
              have HHx21 := Lib.hid (HHx20.out.below hb HHx20.out.lt)
              clear hb
              generalize x20.alloc (.cells (c3 y0 yk) 5) = x21 at *
              obtain ⟨g1, hg⟩ : ∃ g, g = x20.heap.size := ⟨_, rfl⟩
              skip
              rw [← hg] at HGx21 ⊢; clear hg
              refine wpAnyH_ready (rs := [5, 17]) (by kernel_rfl) (by simp) ?_
              refine AllReadyH.cons rfl (fun KK hKK => ?_) ?_
              · skip
                have hcv := conv3 x21 g1 y0 yk HGx21.out
                rw [← HSA.out] at hcv
                refine step_alloc (by rfl) (.string sA) x21 (by go_simp) (some 19) rfl ?_
                clear hcv
                refine hKK.out _ _ HXx21.out (fun hHeld => ?_)
                clear hKK KK
                simp only [Act.put, List.setIfInBounds_toArray, List.set_cons_zero, List.set_cons_succ]
                refine takeH (i := 9) (v := ?_) rfl (by kernel_rfl) (by kernel_rfl) (by kernel_rfl) (fun _ _ _ h => h) (some 23) rfl (Or.inl ⟨by rfl, ?_⟩) (by assumption) ?_
                rotate_left 1
                · intro wz hSw
                  go_simp
                  try with_reducible rfl
                simp only [Act.put, List.setIfInBounds_toArray, List.set_cons_zero, List.set_cons_succ]
                refine wpAnyH_ready (rs := [17]) (by kernel_rfl) (by simp) ?_
                refine AllReadyH.cons rfl (fun KK hKK => ?_) AllReadyH.nil
                have hcv := conv11 x21 g2 ya yq HHx21.out
                rw [← HSB.out] at hcv
                refine step_alloc (by rfl) (.string sB) x21 (by go_simp) (some 31) rfl ?_
                clear hcv
                refine hKK.out _ _ HXx21.out (fun hHeld => ?_)
                clear hKK KK
                simp only [Act.put, List.setIfInBounds_toArray, List.set_cons_zero, List.set_cons_succ]
                refine takeH (i := 18) (v := ?_) rfl (by kernel_rfl) (by kernel_rfl) (by kernel_rfl) (fun _ _ _ h => h) (some 32) rfl (Or.inl ⟨by rfl, ?_⟩) (by assumption) ?_
                rotate_left 1
                · intro wz hSw
                  go_simp
                  try with_reducible rfl
                simp only [Act.put, List.setIfInBounds_toArray, List.set_cons_zero, List.set_cons_succ]
                rw [HBS.out]
                refine takeH (i := 19) (v := ?_) rfl (by kernel_rfl) (by kernel_rfl) (by kernel_rfl) (fun _ _ _ h => h) (some 2) rfl (Or.inl ⟨by rfl, ?_⟩) (by assumption) ?_
                rotate_left 1
                · intro wz hSw
                  go_simp
                  try with_reducible rfl
                simp only [Act.put, List.setIfInBounds_toArray, List.set_cons_zero, List.set_cons_succ]
                refine takeH (i := 20) (v := ?_) rfl (by kernel_rfl) (by kernel_rfl) (by kernel_rfl) (fun _ _ _ h => h) (some 3) rfl (Or.inl ⟨by rfl, ?_⟩) (by assumption) ?_
                rotate_left 1
                · intro wz hSw
                  go_simp
                  try with_reducible rfl
                simp only [Act.put, List.setIfInBounds_toArray, List.set_cons_zero, List.set_cons_succ]
                refine wpAnyH_done (by kernel_rfl) ?_ _
                exact HSH x21 g1 g2 HBx21.out
              refine AllReadyH.cons rfl (fun KK hKK => ?_) ?_
              · skip
                have hcv := conv11 x21 g2 ya yq HHx21.out
                rw [← HSB.out] at hcv
                refine step_alloc (by rfl) (.string sB) x21 (by go_simp) (some 31) rfl ?_
                clear hcv
                refine hKK.out _ _ HXx21.out (fun hHeld => ?_)
                clear hKK KK
                simp only [Act.put, List.setIfInBounds_toArray, List.set_cons_zero, List.set_cons_succ]
                refine wpAnyH_ready (rs := [5]) (by kernel_rfl) (by simp) ?_
                refine AllReadyH.cons rfl (fun KK hKK => ?_) AllReadyH.nil
                have hcv := conv3 x21 g1 y0 yk HGx21.out
                rw [← HSA.out] at hcv
                refine step_alloc (by rfl) (.string sA) x21 (by go_simp) (some 19) rfl ?_
                clear hcv
                refine hKK.out _ _ HXx21.out (fun hHeld => ?_)
                clear hKK KK
                simp only [Act.put, List.setIfInBounds_toArray, List.set_cons_zero, List.set_cons_succ]
                refine takeH (i := 9) (v := ?_) rfl (by kernel_rfl) (by kernel_rfl) (by kernel_rfl) (fun _ _ _ h => h) (some 23) rfl (Or.inl ⟨by rfl, ?_⟩) (by assumption) ?_
                rotate_left 1
                · intro wz hSw
                  go_simp
                  try with_reducible rfl
                simp only [Act.put, List.setIfInBounds_toArray, List.set_cons_zero, List.set_cons_succ]
                refine takeH (i := 18) (v := ?_) rfl (by kernel_rfl) (by kernel_rfl) (by kernel_rfl) (fun _ _ _ h => h) (some 32) rfl (Or.inl ⟨by rfl, ?_⟩) (by assumption) ?_
                rotate_left 1
                · intro wz hSw
                  go_simp
                  try with_reducible rfl
                simp only [Act.put, List.setIfInBounds_toArray, List.set_cons_zero, List.set_cons_succ]
                rw [HBS.out]
                refine takeH (i := 19) (v := ?_) rfl (by kernel_rfl) (by kernel_rfl) (by kernel_rfl) (fun _ _ _ h => h) (some 2) rfl (Or.inl ⟨by rfl, ?_⟩) (by assumption) ?_
                rotate_left 1
                · intro wz hSw
                  go_simp
                  try with_reducible rfl
                simp only [Act.put, List.setIfInBounds_toArray, List.set_cons_zero, List.set_cons_succ]
                refine takeH (i := 20) (v := ?_) rfl (by kernel_rfl) (by kernel_rfl) (by kernel_rfl) (fun _ _ _ h => h) (some 3) rfl (Or.inl ⟨by rfl, ?_⟩) (by assumption) ?_
                rotate_left 1
                · intro wz hSw
                  go_simp
                  try with_reducible rfl
                simp only [Act.put, List.setIfInBounds_toArray, List.set_cons_zero, List.set_cons_succ]
                refine wpAnyH_done (by kernel_rfl) ?_ _
                exact HSH x21 g1 g2 HBx21.out
              exact AllReadyH.nil
            refine AllReadyH.cons rfl (fun KK hKK => ?_) ?_
            · skip
              have hcv := conv11 x20 g2 ya yq HHx20.out
              rw [← HSB.out] at hcv
              refine step_alloc (by rfl) (.string sB) x20 (by go_simp) (some 31) rfl ?_
              clear hcv
              refine hKK.out _ _ HXx20.out (fun hHeld => ?_)
              clear hKK KK
              simp only [Act.put, List.setIfInBounds_toArray, List.set_cons_zero, List.set_cons_succ]
              refine wpAnyH_ready (rs := [4]) (by kernel_rfl) (by simp) ?_
              refine AllReadyH.cons rfl (fun KK hKK => ?_) AllReadyH.nil
              refine step_alloc (by rfl) (.slice (some ⟨x20.heap.size, 0, none⟩) 3 3) (x20.alloc (.cells (c3 y0 yk) 5)) (by go_simp) (some 18) rfl ?_
              skip
              refine hKK.out _ _ ?_ (fun hHeld => ?_)
              · exact (HXx20.out.alloc _)
              clear hKK KK
              simp only [Act.put, List.setIfInBounds_toArray, List.set_cons_zero, List.set_cons_succ]
              change wpAnyH _ _ _ _ _ _ _ _ (x20.alloc (.cells (c3 y0 yk) 5))
              have hb := (Below.refl x20.heap.size x20).alloc (Nat.le_refl _) (.cells (c3 y0 yk) 5)
              have HGx22 := Lib.hid (Blk.new x20 5 (c3 y0 yk))
              have HBx22 := Lib.hid (HBx20.out.trans (hb.mono HBx20.out.size))
              have HXx22 := Lib.hid (HXx20.out.below hb HXx20.out.lt)
              have HHx22 := Lib.hid (HHx20.out.below hb HHx20.out.lt)
              clear hb
              generalize x20.alloc (.cells (c3 y0 yk) 5) = x22 at *
              obtain ⟨g1, hg⟩ : ∃ g, g = x20.heap.size := ⟨_, rfl⟩
              skip
              rw [← hg] at HGx22 ⊢; clear hg
              refine wpAnyH_ready (rs := [5]) (by kernel_rfl) (by simp) ?_
              refine AllReadyH.cons rfl (fun KK hKK => ?_) AllReadyH.nil
              have hcv := conv3 x22 g1 y0 yk HGx22.out
              rw [← HSA.out] at hcv
              refine step_alloc (by rfl) (.string sA) x22 (by go_simp) (some 19) rfl ?_
              clear hcv
              refine hKK.out _ _ HXx22.out (fun hHeld => ?_)
              clear hKK KK
              simp only [Act.put, List.setIfInBounds_toArray, List.set_cons_zero, List.set_cons_succ]
              refine takeH (i := 9) (v := ?_) rfl (by kernel_rfl) (by kernel_rfl) (by kernel_rfl) (fun _ _ _ h => h) (some 23) rfl (Or.inl ⟨by rfl, ?_⟩) (by assumption) ?_
              rotate_left 1
              · intro wz hSw
                go_simp
                try with_reducible rfl
              simp only [Act.put, List.setIfInBounds_toArray, List.set_cons_zero, List.set_cons_succ]
              refine takeH (i := 18) (v := ?_) rfl (by kernel_rfl) (by kernel_rfl) (by kernel_rfl) (fun _ _ _ h => h) (some 32) rfl (Or.inl ⟨by rfl, ?_⟩) (by assumption) ?_
              rotate_left 1
              · intro wz hSw
                go_simp
                try with_reducible rfl
              simp only [Act.put, List.setIfInBounds_toArray, List.set_cons_zero, List.set_cons_succ]
              rw [HBS.out]
              refine takeH (i := 19) (v := ?_) rfl (by kernel_rfl) (by kernel_rfl) (by kernel_rfl) (fun _ _ _ h => h) (some 2) rfl (Or.inl ⟨by rfl, ?_⟩) (by assumption) ?_
              rotate_left 1
              · intro wz hSw
                go_simp
                try with_reducible rfl
              simp only [Act.put, List.setIfInBounds_toArray, List.set_cons_zero, List.set_cons_succ]
              refine takeH (i := 20) (v := ?_) rfl (by kernel_rfl) (by kernel_rfl) (by kernel_rfl) (fun _ _ _ h => h) (some 3) rfl (Or.inl ⟨by rfl, ?_⟩) (by assumption) ?_
              rotate_left 1
              · intro wz hSw
                go_simp
                try with_reducible rfl
              simp only [Act.put, List.setIfInBounds_toArray, List.set_cons_zero, List.set_cons_succ]
              refine wpAnyH_done (by kernel_rfl) ?_ _
              exact HSH x22 g1 g2 HBx22.out
            exact AllReadyH.nil
          exact AllReadyH.nil
        refine AllReadyH.cons rfl (fun KK hKK => ?_) ?_
        · skip
          refine step_alloc (by rfl) (.slice (some ⟨x0.heap.size, 0, none⟩) 11 11) (x0.alloc (.cells (c11 ya yq) 5)) (by go_simp) (some 30) rfl ?_
          skip
          refine hKK.out _ _ ?_ (fun hHeld => ?_)
          · exact (HXd.out.alloc _)
          clear hKK KK
          simp only [Act.put, List.setIfInBounds_toArray, List.set_cons_zero, List.set_cons_succ]
          change wpAnyH _ _ _ _ _ _ _ _ (x0.alloc (.cells (c11 ya yq) 5))
          have hb := (Below.refl x0.heap.size x0).alloc (Nat.le_refl _) (.cells (c11 ya yq) 5)
          have HHx23 := Lib.hid (Blk.new x0 5 (c11 ya yq))
          have HBx23 := Lib.hid (HBd.out.trans (hb.mono HBd.out.size))
          have HXx23 := Lib.hid (HXd.out.below hb HXd.out.lt)
          clear hb
          generalize x0.alloc (.cells (c11 ya yq) 5) = x23 at *
          obtain ⟨g2, hg⟩ : ∃ g, g = x0.heap.size := ⟨_, rfl⟩
          skip
          rw [← hg] at HHx23 ⊢; clear hg
          refine wpAnyH_ready (rs := [4, 8, 17]) (by kernel_rfl) (by simp) ?_
          refine AllReadyH.cons rfl (fun KK hKK => ?_) ?_
          · skip
            refine step_alloc (by rfl) (.slice (some ⟨x23.heap.size, 0, none⟩) 3 3) (x23.alloc (.cells (c3 y0 yk) 5)) (by go_simp) (some 18) rfl ?_
            skip
            refine hKK.out _ _ ?_ (fun hHeld => ?_)
            · exact (HXx23.out.alloc _)
            clear hKK KK
            simp only [Act.put, List.setIfInBounds_toArray, List.set_cons_zero, List.set_cons_succ]
            change wpAnyH _ _ _ _ _ _ _ _ (x23.alloc (.cells (c3 y0 yk) 5))
            have hb := (Below.refl x23.heap.size x23).alloc (Nat.le_refl _) (.cells (c3 y0 yk) 5)
            have HGx24 := Lib.hid (Blk.new x23 5 (c3 y0 yk))
            have HBx24 := Lib.hid (HBx23.out.trans (hb.mono HBx23.out.size))
            have HXx24 := Lib.hid (HXx23.out.below hb HXx23.out.lt)
            have HHx24 := Lib.hid (HHx23.out.below hb HHx23.out.lt)
            clear hb
            generalize x23.alloc (.cells (c3 y0 yk) 5) = x24 at *
            obtain ⟨g1, hg⟩ : ∃ g, g = x23.heap.size := ⟨_, rfl⟩
            skip
            rw [← hg] at HGx24 ⊢; clear hg
            refine wpAnyH_ready (rs := [5, 8, 17]) (by kernel_rfl) (by simp) ?_
            refine AllReadyH.cons rfl (fun KK hKK => ?_) ?_
            · skip
              have hcv := conv3 x24 g1 y0 yk HGx24.out
              rw [← HSA.out] at hcv
              refine step_alloc (by rfl) (.string sA) x24 (by go_simp) (some 19) rfl ?_
              clear hcv
              refine hKK.out _ _ HXx24.out (fun hHeld => ?_)
              clear hKK KK
              simp only [Act.put, List.setIfInBounds_toArray, List.set_cons_zero, List.set_cons_succ]
              refine wpAnyH_ready (rs := [8, 17]) (by kernel_rfl) (by simp) ?_
              refine AllReadyH.cons rfl (fun KK hKK => ?_) ?_
              · skip
                refine step_call2 (by rfl) 20 _ _ _ (by rfl) _ _ (by rfl) (by rfl) (fun _ _ => rfl) _ (HPB.out x24) (some 22) rfl ?_
                rintro e x25 ⟨rfl, hb⟩
                refine ⟨_, rfl, ?_⟩
                have HBx25 := Lib.hid (HBx24.out.trans (hb.mono HBx24.out.size))
                have HXx25 := Lib.hid (HXx24.out.below hb HXx24.out.lt)
                have HHx25 := Lib.hid (HHx24.out.below hb HHx24.out.lt)
                have HGx25 := Lib.hid (HGx24.out.below hb HGx24.out.lt)
                clear hb
                refine hKK.out _ _ ?_ (fun hHeld => ?_)
                · exact HXx25.out
                clear hKK KK
                simp only [Act.put, List.setIfInBounds_toArray, List.set_cons_zero, List.set_cons_succ]
                refine takeH (i := 9) (v := ?_) rfl (by kernel_rfl) (by kernel_rfl) (by kernel_rfl) (fun _ _ _ h => h) (some 23) rfl (Or.inl ⟨by rfl, ?_⟩) (by assumption) ?_
                rotate_left 1
                · intro wz hSw
                  go_simp
                  try with_reducible rfl
                simp only [Act.put, List.setIfInBounds_toArray, List.set_cons_zero, List.set_cons_succ]
                refine wpAnyH_ready (rs := [17]) (by kernel_rfl) (by simp) ?_
                refine AllReadyH.cons rfl (fun KK hKK => ?_) AllReadyH.nil
                have hcv := conv11 x25 g2 ya yq HHx25.out
                rw [← HSB.out] at hcv
                refine step_alloc (by rfl) (.string sB) x25 (by go_simp) (some 31) rfl ?_
                clear hcv
                refine hKK.out _ _ HXx25.out (fun hHeld => ?_)
                clear hKK KK
                simp only [Act.put, List.setIfInBounds_toArray, List.set_cons_zero, List.set_cons_succ]
                refine takeH (i := 18) (v := ?_) rfl (by kernel_rfl) (by kernel_rfl) (by kernel_rfl) (fun _ _ _ h => h) (some 32) rfl (Or.inl ⟨by rfl, ?_⟩) (by assumption) ?_
                rotate_left 1
                · intro wz hSw
                  go_simp
                  try with_reducible rfl
                simp only [Act.put, List.setIfInBounds_toArray, List.set_cons_zero, List.set_cons_succ]
                rw [HBS.out]
                refine takeH (i := 19) (v := ?_) rfl (by kernel_rfl) (by kernel_rfl) (by kernel_rfl) (fun _ _ _ h => h) (some 2) rfl (Or.inl ⟨by rfl, ?_⟩) (by assumption) ?_
                rotate_left 1
                · intro wz hSw
                  go_simp
                  try with_reducible rfl
                simp only [Act.put, List.setIfInBounds_toArray, List.set_cons_zero, List.set_cons_succ]
                refine takeH (i := 20) (v := ?_) rfl (by kernel_rfl) (by kernel_rfl) (by kernel_rfl) (fun _ _ _ h => h) (some 3) rfl (Or.inl ⟨by rfl, ?_⟩) (by assumption) ?_
                rotate_left 1
                · intro wz hSw
                  go_simp
                  try with_reducible rfl
                simp only [Act.put, List.setIfInBounds_toArray, List.set_cons_zero, List.set_cons_succ]
                refine wpAnyH_done (by kernel_rfl) ?_ _
                exact HSH x25 g1 g2 HBx25.out
              refine AllReadyH.cons rfl (fun KK hKK => ?_) ?_
              · skip
                have hcv := conv11 x24 g2 ya yq HHx24.out
                rw [← HSB.out] at hcv
                refine step_alloc (by rfl) (.string sB) x24 (by go_simp) (some 31) rfl ?_
                clear hcv
                refine hKK.out _ _ HXx24.out (fun hHeld => ?_)
                clear hKK KK
                simp only [Act.put, List.setIfInBounds_toArray, List.set_cons_zero, List.set_cons_succ]
                refine wpAnyH_ready (rs := [8]) (by kernel_rfl) (by simp) ?_
                refine AllReadyH.cons rfl (fun KK hKK => ?_) AllReadyH.nil
                refine step_call2 (by rfl) 20 _ _ _ (by rfl) _ _ (by rfl) (by rfl) (fun _ _ => rfl) _ (HPB.out x24) (some 22) rfl ?_
                rintro e x26 ⟨rfl, hb⟩
                refine ⟨_, rfl, ?_⟩
                have HBx26 := Lib.hid (HBx24.out.trans (hb.mono HBx24.out.size))
                have HXx26 := Lib.hid (HXx24.out.below hb HXx24.out.lt)
                have HHx26 := Lib.hid (HHx24.out.below hb HHx24.out.lt)
                have HGx26 := Lib.hid (HGx24.out.below hb HGx24.out.lt)
                clear hb
                refine hKK.out _ _ ?_ (fun hHeld => ?_)
                · exact HXx26.out
                clear hKK KK
                simp only [Act.put, List.setIfInBounds_toArray, List.set_cons_zero, List.set_cons_succ]
                refine takeH (i := 9) (v := ?_) rfl (by kernel_rfl) (by kernel_rfl) (by kernel_rfl) (fun _ _ _ h => h) (some 23) rfl (Or.inl ⟨by rfl, ?_⟩) (by assumption) ?_
                rotate_left 1
                · intro wz hSw
                  go_simp
                  try with_reducible rfl
                simp only [Act.put, List.setIfInBounds_toArray, List.set_cons_zero, List.set_cons_succ]
                refine takeH (i := 18) (v := ?_) rfl (by kernel_rfl) (by kernel_rfl) (by kernel_rfl) (fun _ _ _ h => h) (some 32) rfl (Or.inl ⟨by rfl, ?_⟩) (by assumption) ?_
                rotate_left 1
                · intro wz hSw
                  go_simp
                  try with_reducible rfl
                simp only [Act.put, List.setIfInBounds_toArray, List.set_cons_zero, List.set_cons_succ]
                rw [HBS.out]
                refine takeH (i := 19) (v := ?_) rfl (by kernel_rfl) (by kernel_rfl) (by kernel_rfl) (fun _ _ _ h => h) (some 2) rfl (Or.inl ⟨by rfl, ?_⟩) (by assumption) ?_
                rotate_left 1
                · intro wz hSw
                  go_simp
                  try with_reducible rfl
                simp only [Act.put, List.setIfInBounds_toArray, List.set_cons_zero, List.set_cons_succ]
                refine takeH (i := 20) (v := ?_) rfl (by kernel_rfl) (by kernel_rfl) (by kernel_rfl) (fun _ _ _ h => h) (some 3) rfl (Or.inl ⟨by rfl, ?_⟩) (by assumption) ?_
                rotate_left 1
                · intro wz hSw
                  go_simp
                  try with_reducible rfl
                simp only [Act.put, List.setIfInBounds_toArray, List.set_cons_zero, List.set_cons_succ]
                refine wpAnyH_done (by kernel_rfl) ?_ _
                exact HSH x26 g1 g2 HBx26.out
              exact AllReadyH.nil
            refine AllReadyH.cons rfl (fun KK hKK => ?_) ?_
            · skip
              refine step_call2 (by rfl) 20 _ _ _ (by rfl) _ _ (by rfl) (by rfl) (fun _ _ => rfl) _ (HPB.out x24) (some 22) rfl ?_
              rintro e x27 ⟨rfl, hb⟩
              refine ⟨_, rfl, ?_⟩
              have HBx27 := Lib.hid (HBx24.out.trans (hb.mono HBx24.out.size))
              have HXx27 := Lib.hid (HXx24.out.below hb HXx24.out.lt)
              have HHx27 := Lib.hid (HHx24.out.below hb HHx24.out.lt)
              have HGx27 := Lib.hid (HGx24.out.below hb HGx24.out.lt)
              clear hb
              refine hKK.out _ _ ?_ (fun hHeld => ?_)
              · exact HXx27.out
              clear hKK KK
              simp only [Act.put, List.setIfInBounds_toArray, List.set_cons_zero, List.set_cons_succ]
              refine wpAnyH_ready (rs := [5, 17]) (by kernel_rfl) (by simp) ?_
              refine AllReadyH.cons rfl (fun KK hKK => ?_) ?_
              · skip
                have hcv := conv3 x27 g1 y0 yk HGx27.out
                rw [← HSA.out] at hcv
                refine step_alloc (by rfl) (.string sA) x27 (by go_simp) (some 19) rfl ?_
                clear hcv
                refine hKK.out _ _ HXx27.out (fun hHeld => ?_)
                clear hKK KK
                simp only [Act.put, List.setIfInBounds_toArray, List.set_cons_zero, List.set_cons_succ]
                refine takeH (i := 9) (v := ?_) rfl (by kernel_rfl) (by kernel_rfl) (by kernel_rfl) (fun _ _ _ h => h) (some 23) rfl (Or.inl ⟨by rfl, ?_⟩) (by assumption) ?_
                rotate_left 1
                · intro wz hSw
                  go_simp
                  try with_reducible rfl
                simp only [Act.put, List.setIfInBounds_toArray, List.set_cons_zero, List.set_cons_succ]
                refine wpAnyH_ready (rs := [17]) (by kernel_rfl) (by simp) ?_
                refine AllReadyH.cons rfl (fun KK hKK => ?_) AllReadyH.nil
                have hcv := conv11 x27 g2 ya yq HHx27.out
                rw [← HSB.out] at hcv
                refine step_alloc (by rfl) (.string sB) x27 (by go_simp) (some 31) rfl ?_
                clear hcv
                refine hKK.out _ _ HXx27.out (fun hHeld => ?_)
                clear hKK KK
                simp only [Act.put, List.setIfInBounds_toArray, List.set_cons_zero, List.set_cons_succ]
                refine takeH (i := 18) (v := ?_) rfl (by kernel_rfl) (by kernel_rfl) (by kernel_rfl) (fun _ _ _ h => h) (some 32) rfl (Or.inl ⟨by rfl, ?_⟩) (by assumption) ?_
                rotate_left 1
                · intro wz hSw
                  go_simp
                  try with_reducible rfl
                simp only [Act.put, List.setIfInBounds_toArray, List.set_cons_zero, List.set_cons_succ]
                rw [HBS.out]
                refine takeH (i := 19) (v := ?_) rfl (by kernel_rfl) (by kernel_rfl) (by kernel_rfl) (fun _ _ _ h => h) (some 2) rfl (Or.inl ⟨by rfl, ?_⟩) (by assumption) ?_
                rotate_left 1
                · intro wz hSw
                  go_simp
                  try with_reducible rfl
                simp only [Act.put, List.setIfInBounds_toArray, List.set_cons_zero, List.set_cons_succ]
                refine takeH (i := 20) (v := ?_) rfl (by kernel_rfl) (by kernel_rfl) (by kernel_rfl) (fun _ _ _ h => h) (some 3) rfl (Or.inl ⟨by rfl, ?_⟩) (by assumption) ?_
                rotate_left 1
                · intro wz hSw
                  go_simp
                  try with_reducible rfl
                simp only [Act.put, List.setIfInBounds_toArray, List.set_cons_zero, List.set_cons_succ]
                refine wpAnyH_done (by kernel_rfl) ?_ _
                exact HSH x27 g1 g2 HBx27.out
              refine AllReadyH.cons rfl (fun KK hKK => ?_) ?_
              · skip
                have hcv := conv11 x27 g2 ya yq HHx27.out
                rw [← HSB.out] at hcv
                refine step_alloc (by rfl) (.string sB) x27 (by go_simp) (some 31) rfl ?_
                clear hcv
                refine hKK.out _ _ HXx27.out (fun hHeld => ?_)
                clear hKK KK
                simp only [Act.put, List.setIfInBounds_toArray, List.set_cons_zero, List.set_cons_succ]
                refine wpAnyH_ready (rs := [5]) (by kernel_rfl) (by simp) ?_
                refine AllReadyH.cons rfl (fun KK hKK => ?_) AllReadyH.nil
                have hcv := conv3 x27 g1 y0 yk HGx27.out
                rw [← HSA.out] at hcv
                refine step_alloc (by rfl) (.string sA) x27 (by go_simp) (some 19) rfl ?_
                clear hcv
                refine hKK.out _ _ HXx27.out (fun hHeld => ?_)
                clear hKK KK
                simp only [Act.put, List.setIfInBounds_toArray, List.set_cons_zero, List.set_cons_succ]
                refine takeH (i := 9) (v := ?_) rfl (by kernel_rfl) (by kernel_rfl) (by kernel_rfl) (fun _ _ _ h => h) (some 23) rfl (Or.inl ⟨by rfl, ?_⟩) (by assumption) ?_
                rotate_left 1
                · intro wz hSw
                  go_simp
                  try with_reducible rfl
                simp only [Act.put, List.setIfInBounds_toArray, List.set_cons_zero, List.set_cons_succ]
                refine takeH (i := 18) (v := ?_) rfl (by kernel_rfl) (by kernel_rfl) (by kernel_rfl) (fun _ _ _ h => h) (some 32) rfl (Or.inl ⟨by rfl, ?_⟩) (by assumption) ?_
                rotate_left 1
                · intro wz hSw
                  go_simp
                  try with_reducible rfl
                simp only [Act.put, List.setIfInBounds_toArray, List.set_cons_zero, List.set_cons_succ]
                rw [HBS.out]
                refine takeH (i := 19) (v := ?_) rfl (by kernel_rfl) (by kernel_rfl) (by kernel_rfl) (fun _ _ _ h => h) (some 2) rfl (Or.inl ⟨by rfl, ?_⟩) (by assumption) ?_
                rotate_left 1
                · intro wz hSw
                  go_simp
                  try with_reducible rfl
                simp only [Act.put, List.setIfInBounds_toArray, List.set_cons_zero, List.set_cons_succ]
                refine takeH (i := 20) (v := ?_) rfl (by kernel_rfl) (by kernel_rfl) (by kernel_rfl) (fun _ _ _ h => h) (some 3) rfl (Or.inl ⟨by rfl, ?_⟩) (by assumption) ?_
                rotate_left 1
                · intro wz hSw
                  go_simp
                  try with_reducible rfl
                simp only [Act.put, List.setIfInBounds_toArray, List.set_cons_zero, List.set_cons_succ]
                refine wpAnyH_done (by kernel_rfl) ?_ _
                exact HSH x27 g1 g2 HBx27.out
              exact AllReadyH.nil
            refine AllReadyH.cons rfl (fun KK hKK => ?_) ?_
            · skip
              have hcv := conv11 x24 g2 ya yq HHx24.out
              rw [← HSB.out] at hcv
              refine step_alloc (by rfl) (.string sB) x24 (by go_simp) (some 31) rfl ?_
              clear hcv
              refine hKK.out _ _ HXx24.out (fun hHeld => ?_)
              clear hKK KK
              simp only [Act.put, List.setIfInBounds_toArray, List.set_cons_zero, List.set_cons_succ]
              refine wpAnyH_ready (rs := [5, 8]) (by kernel_rfl) (by simp) ?_
              refine AllReadyH.cons rfl (fun KK hKK => ?_) ?_
              · skip
                have hcv := conv3 x24 g1 y0 yk HGx24.out
                rw [← HSA.out] at hcv
                refine step_alloc (by rfl) (.string sA) x24 (by go_simp) (some 19) rfl ?_
                clear hcv
                refine hKK.out _ _ HXx24.out (fun hHeld => ?_)
                clear hKK KK
                simp only [Act.put, List.setIfInBounds_toArray, List.set_cons_zero, List.set_cons_succ]
                refine wpAnyH_ready (rs := [8]) (by kernel_rfl) (by simp) ?_
                refine AllReadyH.cons rfl (fun KK hKK => ?_) AllReadyH.nil
                refine step_call2 (by rfl) 20 _ _ _ (by rfl) _ _ (by rfl) (by rfl) (fun _ _ => rfl) _ (HPB.out x24) (some 22) rfl ?_
                rintro e x28 ⟨rfl, hb⟩
                refine ⟨_, rfl, ?_⟩
                have HBx28 := Lib.hid (HBx24.out.trans (hb.mono HBx24.out.size))
                have HXx28 := Lib.hid (HXx24.out.below hb HXx24.out.lt)
                have HHx28 := Lib.hid (HHx24.out.below hb HHx24.out.lt)
                have HGx28 := Lib.hid (HGx24.out.below hb HGx24.out.lt)
                clear hb
                refine hKK.out _ _ ?_ (fun hHeld => ?_)
                · exact HXx28.out
                clear hKK KK
                simp only [Act.put, List.setIfInBounds_toArray, List.set_cons_zero, List.set_cons_succ]
                refine takeH (i := 9) (v := ?_) rfl (by kernel_rfl) (by kernel_rfl) (by kernel_rfl) (fun _ _ _ h => h) (some 23) rfl (Or.inl ⟨by rfl, ?_⟩) (by assumption) ?_
                rotate_left 1
                · intro wz hSw
                  go_simp
                  try with_reducible rfl
                simp only [Act.put, List.setIfInBounds_toArray, List.set_cons_zero, List.set_cons_succ]
                refine takeH (i := 18) (v := ?_) rfl (by kernel_rfl) (by kernel_rfl) (by kernel_rfl) (fun _ _ _ h => h) (some 32) rfl (Or.inl ⟨by rfl, ?_⟩) (by assumption) ?_
                rotate_left 1
                · intro wz hSw
                  go_simp
                  try with_reducible rfl
                simp only [Act.put, List.setIfInBounds_toArray, List.set_cons_zero, List.set_cons_succ]
                rw [HBS.out]
                refine takeH (i := 19) (v := ?_) rfl (by kernel_rfl) (by kernel_rfl) (by kernel_rfl) (fun _ _ _ h => h) (some 2) rfl (Or.inl ⟨by rfl, ?_⟩) (by assumption) ?_
                rotate_left 1
                · intro wz hSw
                  go_simp
                  try with_reducible rfl
                simp only [Act.put, List.setIfInBounds_toArray, List.set_cons_zero, List.set_cons_succ]
                refine takeH (i := 20) (v := ?_) rfl (by kernel_rfl) (by kernel_rfl) (by kernel_rfl) (fun _ _ _ h => h) (some 3) rfl (Or.inl ⟨by rfl, ?_⟩) (by assumption) ?_
                rotate_left 1
                · intro wz hSw
                  go_simp
                  try with_reducible rfl
                simp only [Act.put, List.setIfInBounds_toArray, List.set_cons_zero, List.set_cons_succ]
                refine wpAnyH_done (by kernel_rfl) ?_ _
                exact HSH x28 g1 g2 HBx28.out
              refine AllReadyH.cons rfl (fun KK hKK => ?_) ?_
              · skip
                refine step_call2 (by rfl) 20 _ _ _ (by rfl) _ _ (by rfl) (by rfl) (fun _ _ => rfl) _ (HPB.out x24) (some 22) rfl ?_
                rintro e x29 ⟨rfl, hb⟩
                refine ⟨_, rfl, ?_⟩
                have HBx29 := Lib.hid (HBx24.out.trans (hb.mono HBx24.out.size))
                have HXx29 := Lib.hid (HXx24.out.below hb HXx24.out.lt)
                have HHx29 := Lib.hid (HHx24.out.below hb HHx24.out.lt)
                have HGx29 := Lib.hid (HGx24.out.below hb HGx24.out.lt)
                clear hb
                refine hKK.out _ _ ?_ (fun hHeld => ?_)
                · exact HXx29.out
                clear hKK KK
                simp only [Act.put, List.setIfInBounds_toArray, List.set_cons_zero, List.set_cons_succ]
                refine wpAnyH_ready (rs := [5]) (by kernel_rfl) (by simp) ?_
                refine AllReadyH.cons rfl (fun KK hKK => ?_) AllReadyH.nil
                have hcv := conv3 x29 g1 y0 yk HGx29.out
                rw [← HSA.out] at hcv
                refine step_alloc (by rfl) (.string sA) x29 (by go_simp) (some 19) rfl ?_
                clear hcv
                refine hKK.out _ _ HXx29.out (fun hHeld => ?_)
                clear hKK KK
                simp only [Act.put, List.setIfInBounds_toArray, List.set_cons_zero, List.set_cons_succ]
                refine takeH (i := 9) (v := ?_) rfl (by kernel_rfl) (by kernel_rfl) (by kernel_rfl) (fun _ _ _ h => h) (some 23) rfl (Or.inl ⟨by rfl, ?_⟩) (by assumption) ?_
                rotate_left 1
                · intro wz hSw
                  go_simp
                  try with_reducible rfl
                simp only [Act.put, List.setIfInBounds_toArray, List.set_cons_zero, List.set_cons_succ]
                refine takeH (i := 18) (v := ?_) rfl (by kernel_rfl) (by kernel_rfl) (by kernel_rfl) (fun _ _ _ h => h) (some 32) rfl (Or.inl ⟨by rfl, ?_⟩) (by assumption) ?_
                rotate_left 1
                · intro wz hSw
                  go_simp
                  try with_reducible rfl
                simp only [Act.put, List.setIfInBounds_toArray, List.set_cons_zero, List.set_cons_succ]
                rw [HBS.out]
                refine takeH (i := 19) (v := ?_) rfl (by kernel_rfl) (by kernel_rfl) (by kernel_rfl) (fun _ _ _ h => h) (some 2) rfl (Or.inl ⟨by rfl, ?_⟩) (by assumption) ?_
                rotate_left 1
                · intro wz hSw
                  go_simp
                  try with_reducible rfl
                simp only [Act.put, List.setIfInBounds_toArray, List.set_cons_zero, List.set_cons_succ]
                refine takeH (i := 20) (v := ?_) rfl (by kernel_rfl) (by kernel_rfl) (by kernel_rfl) (fun _ _ _ h => h) (some 3) rfl (Or.inl ⟨by rfl, ?_⟩) (by assumption) ?_
                rotate_left 1
                · intro wz hSw
                  go_simp
                  try with_reducible rfl
                simp only [Act.put, List.setIfInBounds_toArray, List.set_cons_zero, List.set_cons_succ]
                refine wpAnyH_done (by kernel_rfl) ?_ _
                exact HSH x29 g1 g2 HBx29.out
              exact AllReadyH.nil
            exact AllReadyH.nil
          refine AllReadyH.cons rfl (fun KK hKK => ?_) ?_
          · skip
            refine step_call2 (by rfl) 20 _ _ _ (by rfl) _ _ (by rfl) (by rfl) (fun _ _ => rfl) _ (HPB.out x23) (some 22) rfl ?_
            rintro e x30 ⟨rfl, hb⟩
            refine ⟨_, rfl, ?_⟩
            have HBx30 := Lib.hid (HBx23.out.trans (hb.mono HBx23.out.size))
            have HXx30 := Lib.hid (HXx23.out.below hb HXx23.out.lt)
            have HHx30 := Lib.hid (HHx23.out.below hb HHx23.out.lt)
            clear hb
            refine hKK.out _ _ ?_ (fun hHeld => ?_)
            · exact HXx30.out
            clear hKK KK
            simp only [Act.put, List.setIfInBounds_toArray, List.set_cons_zero, List.set_cons_succ]
            refine wpAnyH_ready (rs := [4, 17]) (by kernel_rfl) (by simp) ?_
            refine AllReadyH.cons rfl (fun KK hKK => ?_) ?_
            · skip
              refine step_alloc (by rfl) (.slice (some ⟨x30.heap.size, 0, none⟩) 3 3) (x30.alloc (.cells (c3 y0 yk) 5)) (by go_simp) (some 18) rfl ?_
              skip
              refine hKK.out _ _ ?_ (fun hHeld => ?_)
              · exact (HXx30.out.alloc _)
              clear hKK KK
              simp only [Act.put, List.setIfInBounds_toArray, List.set_cons_zero, List.set_cons_succ]
              change wpAnyH _ _ _ _ _ _ _ _ (x30.alloc (.cells (c3 y0 yk) 5))
              have hb := (Below.refl x30.heap.size x30).alloc (Nat.le_refl _) (.cells (c3 y0 yk) 5)
              have HGx31 := Lib.hid (Blk.new x30 5 (c3 y0 yk))
              have HBx31 := Lib.hid (HBx30.out.trans (hb.mono HBx30.out.size))
              have HXx31 := Lib.hid (HXx30.out.below hb HXx30.out.lt)
              have HHx31 := Lib.hid (HHx30.out.below hb HHx30.out.lt)
              clear hb
              generalize x30.alloc (.cells (c3 y0 yk) 5) = x31 at *
              obtain ⟨g1, hg⟩ : ∃ g, g = x30.heap.size := ⟨_, rfl⟩
              skip
              rw [← hg] at HGx31 ⊢; clear hg
              refine wpAnyH_ready (rs := [5, 17]) (by kernel_rfl) (by simp) ?_
              refine AllReadyH.cons rfl (fun KK hKK => ?_) ?_
              · skip
                have hcv := conv3 x31 g1 y0 yk HGx31.out
                rw [← HSA.out] at hcv
                refine step_alloc (by rfl) (.string sA) x31 (by go_simp) (some 19) rfl ?_
                clear hcv
                refine hKK.out _ _ HXx31.out (fun hHeld => ?_)
                clear hKK KK
                simp only [Act.put, List.setIfInBounds_toArray, List.set_cons_zero, List.set_cons_succ]
                refine takeH (i := 9) (v := ?_) rfl (by kernel_rfl) (by kernel_rfl) (by kernel_rfl) (fun _ _ _ h => h) (some 23) rfl (Or.inl ⟨by rfl, ?_⟩) (by assumption) ?_
                rotate_left 1
                · intro wz hSw
                  go_simp
                  try with_reducible rfl
                simp only [Act.put, List.setIfInBounds_toArray, List.set_cons_zero, List.set_cons_succ]
                refine wpAnyH_ready (rs := [17]) (by kernel_rfl) (by simp) ?_
                refine AllReadyH.cons rfl (fun KK hKK => ?_) AllReadyH.nil
                have hcv := conv11 x31 g2 ya yq HHx31.out
                rw [← HSB.out] at hcv
                refine step_alloc (by rfl) (.string sB) x31 (by go_simp) (some 31) rfl ?_
                clear hcv
                refine hKK.out _ _ HXx31.out (fun hHeld => ?_)
                clear hKK KK
                simp only [Act.put, List.setIfInBounds_toArray, List.set_cons_zero, List.set_cons_succ]
                refine takeH (i := 18) (v := ?_) rfl (by kernel_rfl) (by kernel_rfl) (by kernel_rfl) (fun _ _ _ h => h) (some 32) rfl (Or.inl ⟨by rfl, ?_⟩) (by assumption) ?_
                rotate_left 1
                · intro wz hSw
                  go_simp
                  try with_reducible rfl
                simp only [Act.put, List.setIfInBounds_toArray, List.set_cons_zero, List.set_cons_succ]
                rw [HBS.out]
                refine takeH (i := 19) (v := ?_) rfl (by kernel_rfl) (by kernel_rfl) (by kernel_rfl) (fun _ _ _ h => h) (some 2) rfl (Or.inl ⟨by rfl, ?_⟩) (by assumption) ?_
                rotate_left 1
                · intro wz hSw
                  go_simp
                  try with_reducible rfl
                simp only [Act.put, List.setIfInBounds_toArray, List.set_cons_zero, List.set_cons_succ]
                refine takeH (i := 20) (v := ?_) rfl (by kernel_rfl) (by kernel_rfl) (by kernel_rfl) (fun _ _ _ h => h) (some 3) rfl (Or.inl ⟨by rfl, ?_⟩) (by assumption) ?_
                rotate_left 1
                · intro wz hSw
                  go_simp
                  try with_reducible rfl
                simp only [Act.put, List.setIfInBounds_toArray, List.set_cons_zero, List.set_cons_succ]
                refine wpAnyH_done (by kernel_rfl) ?_ _
                exact HSH x31 g1 g2 HBx31.out
              refine AllReadyH.cons rfl (fun KK hKK => ?_) ?_
              · skip
                have hcv := conv11 x31 g2 ya yq HHx31.out
                rw [← HSB.out] at hcv
                refine step_alloc (by rfl) (.string sB) x31 (by go_simp) (some 31) rfl ?_
                clear hcv
                refine hKK.out _ _ HXx31.out (fun hHeld => ?_)
                clear hKK KK
                simp only [Act.put, List.setIfInBounds_toArray, List.set_cons_zero, List.set_cons_succ]
                refine wpAnyH_ready (rs := [5]) (by kernel_rfl) (by simp) ?_
                refine AllReadyH.cons rfl (fun KK hKK => ?_) AllReadyH.nil
                have hcv := conv3 x31 g1 y0 yk HGx31.out
                rw [← HSA.out] at hcv
                refine step_alloc (by rfl) (.string sA) x31 (by go_simp) (some 19) rfl ?_
                clear hcv
                refine hKK.out _ _ HXx31.out (fun hHeld => ?_)
                clear hKK KK
                simp only [Act.put, List.setIfInBounds_toArray, List.set_cons_zero, List.set_cons_succ]
                refine takeH (i := 9) (v := ?_) rfl (by kernel_rfl) (by kernel_rfl) (by kernel_rfl) (fun _ _ _ h => h) (some 23) rfl (Or.inl ⟨by rfl, ?_⟩) (by assumption) ?_
                rotate_left 1
                · intro wz hSw
                  go_simp
                  try with_reducible rfl
                simp only [Act.put, List.setIfInBounds_toArray, List.set_cons_zero, List.set_cons_succ]
                refine takeH (i := 18) (v := ?_) rfl (by kernel_rfl) (by kernel_rfl) (by kernel_rfl) (fun _ _ _ h => h) (some 32) rfl (Or.inl ⟨by rfl, ?_⟩) (by assumption) ?_
                rotate_left 1
                · intro wz hSw
                  go_simp
                  try with_reducible rfl
                simp only [Act.put, List.setIfInBounds_toArray, List.set_cons_zero, List.set_cons_succ]
                rw [HBS.out]
                refine takeH (i := 19) (v := ?_) rfl (by kernel_rfl) (by kernel_rfl) (by kernel_rfl) (fun _ _ _ h => h) (some 2) rfl (Or.inl ⟨by rfl, ?_⟩) (by assumption) ?_
                rotate_left 1
                · intro wz hSw
                  go_simp
                  try with_reducible rfl
                simp only [Act.put, List.setIfInBounds_toArray, List.set_cons_zero, List.set_cons_succ]
                refine takeH (i := 20) (v := ?_) rfl (by kernel_rfl) (by kernel_rfl) (by kernel_rfl) (fun _ _ _ h => h) (some 3) rfl (Or.inl ⟨by rfl, ?_⟩) (by assumption) ?_
                rotate_left 1
                · intro wz hSw
                  go_simp
                  try with_reducible rfl
                simp only [Act.put, List.setIfInBounds_toArray, List.set_cons_zero, List.set_cons_succ]
                refine wpAnyH_done (by kernel_rfl) ?_ _
                exact HSH x31 g1 g2 HBx31.out
              exact AllReadyH.nil
            refine AllReadyH.cons rfl (fun KK hKK => ?_) ?_
            · skip
              have hcv := conv11 x30 g2 ya yq HHx30.out
              rw [← HSB.out] at hcv
              refine step_alloc (by rfl) (.string sB) x30 (by go_simp) (some 31) rfl ?_
              clear hcv
              refine hKK.out _ _ HXx30.out (fun hHeld => ?_)
              clear hKK KK
              simp only [Act.put, List.setIfInBounds_toArray, List.set_cons_zero, List.set_cons_succ]
              refine wpAnyH_ready (rs := [4]) (by kernel_rfl) (by simp) ?_
              refine AllReadyH.cons rfl (fun KK hKK => ?_) AllReadyH.nil
              refine step_alloc (by rfl) (.slice (some ⟨x30.heap.size, 0, none⟩) 3 3) (x30.alloc (.cells (c3 y0 yk) 5)) (by go_simp) (some 18) rfl ?_
              skip
              refine hKK.out _ _ ?_ (fun hHeld => ?_)
              · exact (HXx30.out.alloc _)
              clear hKK KK
              simp only [Act.put, List.setIfInBounds_toArray, List.set_cons_zero, List.set_cons_succ]
              change wpAnyH _ _ _ _ _ _ _ _ (x30.alloc (.cells (c3 y0 yk) 5))
              have hb := (Below.refl x30.heap.size x30).alloc (Nat.le_refl _) (.cells (c3 y0 yk) 5)
              have HGx32 := Lib.hid (Blk.new x30 5 (c3 y0 yk))
              have HBx32 := Lib.hid (HBx30.out.trans (hb.mono HBx30.out.size))
              have HXx32 := Lib.hid (HXx30.out.below hb HXx30.out.lt)
              have HHx32 := Lib.hid (HHx30.out.below hb HHx30.out.lt)
              clear hb
              generalize x30.alloc (.cells (c3 y0 yk) 5) = x32 at *
              obtain ⟨g1, hg⟩ : ∃ g, g = x30.heap.size := ⟨_, rfl⟩
              skip
              rw [← hg] at HGx32 ⊢; clear hg
              refine wpAnyH_ready (rs := [5]) (by kernel_rfl) (by simp) ?_
              refine AllReadyH.cons rfl (fun KK hKK => ?_) AllReadyH.nil
              have hcv := conv3 x32 g1 y0 yk HGx32.out
              rw [← HSA.out] at hcv
              refine step_alloc (by rfl) (.string sA) x32 (by go_simp) (some 19) rfl ?_
              clear hcv
              refine hKK.out _ _ HXx32.out (fun hHeld => ?_)
              clear hKK KK
              simp only [Act.put, List.setIfInBounds_toArray, List.set_cons_zero, List.set_cons_succ]
              refine takeH (i := 9) (v := ?_) rfl (by kernel_rfl) (by kernel_rfl) (by kernel_rfl) (fun _ _ _ h => h) (some 23) rfl (Or.inl ⟨by rfl, ?_⟩) (by assumption) ?_
              rotate_left 1
              · intro wz hSw
                go_simp
                try with_reducible rfl
              simp only [Act.put, List.setIfInBounds_toArray, List.set_cons_zero, List.set_cons_succ]
              refine takeH (i := 18) (v := ?_) rfl (by kernel_rfl) (by kernel_rfl) (by kernel_rfl) (fun _ _ _ h => h) (some 32) rfl (Or.inl ⟨by rfl, ?_⟩) (by assumption) ?_
              rotate_left 1
              · intro wz hSw
                go_simp
                try with_reducible rfl
              simp only [Act.put, List.setIfInBounds_toArray, List.set_cons_zero, List.set_cons_succ]
              rw [HBS.out]
              refine takeH (i := 19) (v := ?_) rfl (by kernel_rfl) (by kernel_rfl) (by kernel_rfl) (fun _ _ _ h => h) (some 2) rfl (Or.inl ⟨by rfl, ?_⟩) (by assumption) ?_
              rotate_left 1
              · intro wz hSw
                go_simp
                try with_reducible rfl
              simp only [Act.put, List.setIfInBounds_toArray, List.set_cons_zero, List.set_cons_succ]
              refine takeH (i := 20) (v := ?_) rfl (by kernel_rfl) (by kernel_rfl) (by kernel_rfl) (fun _ _ _ h => h) (some 3) rfl (Or.inl ⟨by rfl, ?_⟩) (by assumption) ?_
              rotate_left 1
              · intro wz hSw
                go_simp
                try with_reducible rfl
              simp only [Act.put, List.setIfInBounds_toArray, List.set_cons_zero, List.set_cons_succ]
              refine wpAnyH_done (by kernel_rfl) ?_ _
              exact HSH x32 g1 g2 HBx32.out
            exact AllReadyH.nil
          refine AllReadyH.cons rfl (fun KK hKK => ?_) ?_
          · skip
            have hcv := conv11 x23 g2 ya yq HHx23.out
            rw [← HSB.out] at hcv
            refine step_alloc (by rfl) (.string sB) x23 (by go_simp) (some 31) rfl ?_
            clear hcv
            refine hKK.out _ _ HXx23.out (fun hHeld => ?_)
            clear hKK KK
            simp only [Act.put, List.setIfInBounds_toArray, List.set_cons_zero, List.set_cons_succ]
            refine wpAnyH_ready (rs := [4, 8]) (by kernel_rfl) (by simp) ?_
            refine AllReadyH.cons rfl (fun KK hKK => ?_) ?_
            · skip
              refine step_alloc (by rfl) (.slice (some ⟨x23.heap.size, 0, none⟩) 3 3) (x23.alloc (.cells (c3 y0 yk) 5)) (by go_simp) (some 18) rfl ?_
              skip
              refine hKK.out _ _ ?_ (fun hHeld => ?_)
              · exact (HXx23.out.alloc _)
              clear hKK KK
              simp only [Act.put, List.setIfInBounds_toArray, List.set_cons_zero, List.set_cons_succ]
              change wpAnyH _ _ _ _ _ _ _ _ (x23.alloc (.cells (c3 y0 yk) 5))
              have hb := (Below.refl x23.heap.size x23).alloc (Nat.le_refl _) (.cells (c3 y0 yk) 5)
              have HGx33 := Lib.hid (Blk.new x23 5 (c3 y0 yk))
              have HBx33 := Lib.hid (HBx23.out.trans (hb.mono HBx23.out.size))
              have HXx33 := Lib.hid (HXx23.out.below hb HXx23.out.lt)
              have HHx33 := Lib.hid (HHx23.out.below hb HHx23.out.lt)
              clear hb
              generalize x23.alloc (.cells (c3 y0 yk) 5) = x33 at *
              obtain ⟨g1, hg⟩ : ∃ g, g = x23.heap.size := ⟨_, rfl⟩
              skip
              rw [← hg] at HGx33 ⊢; clear hg
              refine wpAnyH_ready (rs := [5, 8]) (by kernel_rfl) (by simp) ?_
              refine AllReadyH.cons rfl (fun KK hKK => ?_) ?_
              · skip
                have hcv := conv3 x33 g1 y0 yk HGx33.out
                rw [← HSA.out] at hcv
                refine step_alloc (by rfl) (.string sA) x33 (by go_simp) (some 19) rfl ?_
                clear hcv
                refine hKK.out _ _ HXx33.out (fun hHeld => ?_)
                clear hKK KK
                simp only [Act.put, List.setIfInBounds_toArray, List.set_cons_zero, List.set_cons_succ]
                refine wpAnyH_ready (rs := [8]) (by kernel_rfl) (by simp) ?_
                refine AllReadyH.cons rfl (fun KK hKK => ?_) AllReadyH.nil
                refine step_call2 (by rfl) 20 _ _ _ (by rfl) _ _ (by rfl) (by rfl) (fun _ _ => rfl) _ (HPB.out x33) (some 22) rfl ?_
                rintro e x34 ⟨rfl, hb⟩
                refine ⟨_, rfl, ?_⟩
                have HBx34 := Lib.hid (HBx33.out.trans (hb.mono HBx33.out.size))
                have HXx34 := Lib.hid (HXx33.out.below hb HXx33.out.lt)
                have HHx34 := Lib.hid (HHx33.out.below hb HHx33.out.lt)
                have HGx34 := Lib.hid (HGx33.out.below hb HGx33.out.lt)
                clear hb
                refine hKK.out _ _ ?_ (fun hHeld => ?_)
                · exact HXx34.out
                clear hKK KK
                simp only [Act.put, List.setIfInBounds_toArray, List.set_cons_zero, List.set_cons_succ]
                refine takeH (i := 9) (v := ?_) rfl (by kernel_rfl) (by kernel_rfl) (by kernel_rfl) (fun _ _ _ h => h) (some 23) rfl (Or.inl ⟨by rfl, ?_⟩) (by assumption) ?_
                rotate_left 1
                · intro wz hSw
                  go_simp
                  try with_reducible rfl
                simp only [Act.put, List.setIfInBounds_toArray, List.set_cons_zero, List.set_cons_succ]
                refine takeH (i := 18) (v := ?_) rfl (by kernel_rfl) (by kernel_rfl) (by kernel_rfl) (fun _ _ _ h => h) (some 32) rfl (Or.inl ⟨by rfl, ?_⟩) (by assumption) ?_
                rotate_left 1
                · intro wz hSw
                  go_simp
                  try with_reducible rfl
                simp only [Act.put, List.setIfInBounds_toArray, List.set_cons_zero, List.set_cons_succ]
                rw [HBS.out]
                refine takeH (i := 19) (v := ?_) rfl (by kernel_rfl) (by kernel_rfl) (by kernel_rfl) (fun _ _ _ h => h) (some 2) rfl (Or.inl ⟨by rfl, ?_⟩) (by assumption) ?_
                rotate_left 1
                · intro wz hSw
                  go_simp
                  try with_reducible rfl
                simp only [Act.put, List.setIfInBounds_toArray, List.set_cons_zero, List.set_cons_succ]
                refine takeH (i := 20) (v := ?_) rfl (by kernel_rfl) (by kernel_rfl) (by kernel_rfl) (fun _ _ _ h => h) (some 3) rfl (Or.inl ⟨by rfl, ?_⟩) (by assumption) ?_
                rotate_left 1
                · intro wz hSw
                  go_simp
                  try with_reducible rfl
                simp only [Act.put, List.setIfInBounds_toArray, List.set_cons_zero, List.set_cons_succ]
                refine wpAnyH_done (by kernel_rfl) ?_ _
                exact HSH x34 g1 g2 HBx34.out
              refine AllReadyH.cons rfl (fun KK hKK => ?_) ?_
              · skip
                refine step_call2 (by rfl) 20 _ _ _ (by rfl) _ _ (by rfl) (by rfl) (fun _ _ => rfl) _ (HPB.out x33) (some 22) rfl ?_
                rintro e x35 ⟨rfl, hb⟩
                refine ⟨_, rfl, ?_⟩
                have HBx35 := Lib.hid (HBx33.out.trans (hb.mono HBx33.out.size))
                have HXx35 := Lib.hid (HXx33.out.below hb HXx33.out.lt)
                have HHx35 := Lib.hid (HHx33.out.below hb HHx33.out.lt)
                have HGx35 := Lib.hid (HGx33.out.below hb HGx33.out.lt)
                clear hb
                refine hKK.out _ _ ?_ (fun hHeld => ?_)
                · exact HXx35.out
                clear hKK KK
                simp only [Act.put, List.setIfInBounds_toArray, List.set_cons_zero, List.set_cons_succ]
                refine wpAnyH_ready (rs := [5]) (by kernel_rfl) (by simp) ?_
                refine AllReadyH.cons rfl (fun KK hKK => ?_) AllReadyH.nil
                have hcv := conv3 x35 g1 y0 yk HGx35.out
                rw [← HSA.out] at hcv
                refine step_alloc (by rfl) (.string sA) x35 (by go_simp) (some 19) rfl ?_
                clear hcv
                refine hKK.out _ _ HXx35.out (fun hHeld => ?_)
                clear hKK KK
                simp only [Act.put, List.setIfInBounds_toArray, List.set_cons_zero, List.set_cons_succ]
                refine takeH (i := 9) (v := ?_) rfl (by kernel_rfl) (by kernel_rfl) (by kernel_rfl) (fun _ _ _ h => h) (some 23) rfl (Or.inl ⟨by rfl, ?_⟩) (by assumption) ?_
                rotate_left 1
                · intro wz hSw
                  go_simp
                  try with_reducible rfl
                simp only [Act.put, List.setIfInBounds_toArray, List.set_cons_zero, List.set_cons_succ]
                refine takeH (i := 18) (v := ?_) rfl (by kernel_rfl) (by kernel_rfl) (by kernel_rfl) (fun _ _ _ h => h) (some 32) rfl (Or.inl ⟨by rfl, ?_⟩) (by assumption) ?_
                rotate_left 1
                · intro wz hSw
                  go_simp
                  try with_reducible rfl
                simp only [Act.put, List.setIfInBounds_toArray, List.set_cons_zero, List.set_cons_succ]
                rw [HBS.out]
                refine takeH (i := 19) (v := ?_) rfl (by kernel_rfl) (by kernel_rfl) (by kernel_rfl) (fun _ _ _ h => h) (some 2) rfl (Or.inl ⟨by rfl, ?_⟩) (by assumption) ?_
                rotate_left 1
                · intro wz hSw
                  go_simp
                  try with_reducible rfl
                simp only [Act.put, List.setIfInBounds_toArray, List.set_cons_zero, List.set_cons_succ]
                refine takeH (i := 20) (v := ?_) rfl (by kernel_rfl) (by kernel_rfl) (by kernel_rfl) (fun _ _ _ h => h) (some 3) rfl (Or.inl ⟨by rfl, ?_⟩) (by assumption) ?_
                rotate_left 1
                · intro wz hSw
                  go_simp
                  try with_reducible rfl
                simp only [Act.put, List.setIfInBounds_toArray, List.set_cons_zero, List.set_cons_succ]
                refine wpAnyH_done (by kernel_rfl) ?_ _
                exact HSH x35 g1 g2 HBx35.out
              exact AllReadyH.nil
            refine AllReadyH.cons rfl (fun KK hKK => ?_) ?_
            · skip
              refine step_call2 (by rfl) 20 _ _ _ (by rfl) _ _ (by rfl) (by rfl) (fun _ _ => rfl) _ (HPB.out x23) (some 22) rfl ?_
              rintro e x36 ⟨rfl, hb⟩
              refine ⟨_, rfl, ?_⟩
              have HBx36 := Lib.hid (HBx23.out.trans (hb.mono HBx23.out.size))
              have HXx36 := Lib.hid (HXx23.out.below hb HXx23.out.lt)
              have HHx36 := Lib.hid (HHx23.out.below hb HHx23.out.lt)
              clear hb
              refine hKK.out _ _ ?_ (fun hHeld => ?_)
              · exact HXx36.out
              clear hKK KK
              simp only [Act.put, List.setIfInBounds_toArray, List.set_cons_zero, List.set_cons_succ]
              refine wpAnyH_ready (rs := [4]) (by kernel_rfl) (by simp) ?_
              refine AllReadyH.cons rfl (fun KK hKK => ?_) AllReadyH.nil
              refine step_alloc (by rfl) (.slice (some ⟨x36.heap.size, 0, none⟩) 3 3) (x36.alloc (.cells (c3 y0 yk) 5)) (by go_simp) (some 18) rfl ?_
              skip
              refine hKK.out _ _ ?_ (fun hHeld => ?_)
              · exact (HXx36.out.alloc _)
              clear hKK KK
              simp only [Act.put, List.setIfInBounds_toArray, List.set_cons_zero, List.set_cons_succ]
              change wpAnyH _ _ _ _ _ _ _ _ (x36.alloc (.cells (c3 y0 yk) 5))
              have hb := (Below.refl x36.heap.size x36).alloc (Nat.le_refl _) (.cells (c3 y0 yk) 5)
              have HGx37 := Lib.hid (Blk.new x36 5 (c3 y0 yk))
              have HBx37 := Lib.hid (HBx36.out.trans (hb.mono HBx36.out.size))
              have HXx37 := Lib.hid (HXx36.out.below hb HXx36.out.lt)
              have HHx37 := Lib.hid (HHx36.out.below hb HHx36.out.lt)
              clear hb
              generalize x36.alloc (.cells (c3 y0 yk) 5) = x37 at *
              obtain ⟨g1, hg⟩ : ∃ g, g = x36.heap.size := ⟨_, rfl⟩
              skip
              rw [← hg] at HGx37 ⊢; clear hg
              refine wpAnyH_ready (rs := [5]) (by kernel_rfl) (by simp) ?_
              refine AllReadyH.cons rfl (fun KK hKK => ?_) AllReadyH.nil
              have hcv := conv3 x37 g1 y0 yk HGx37.out
              rw [← HSA.out] at hcv
              refine step_alloc (by rfl) (.string sA) x37 (by go_simp) (some 19) rfl ?_
              clear hcv
              refine hKK.out _ _ HXx37.out (fun hHeld => ?_)
              clear hKK KK
              simp only [Act.put, List.setIfInBounds_toArray, List.set_cons_zero, List.set_cons_succ]
              refine takeH (i := 9) (v := ?_) rfl (by kernel_rfl) (by kernel_rfl) (by kernel_rfl) (fun _ _ _ h => h) (some 23) rfl (Or.inl ⟨by rfl, ?_⟩) (by assumption) ?_
              rotate_left 1
              · intro wz hSw
                go_simp
                try with_reducible rfl
              simp only [Act.put, List.setIfInBounds_toArray, List.set_cons_zero, List.set_cons_succ]
              refine takeH (i := 18) (v := ?_) rfl (by kernel_rfl) (by kernel_rfl) (by kernel_rfl) (fun _ _ _ h => h) (some 32) rfl (Or.inl ⟨by rfl, ?_⟩) (by assumption) ?_
              rotate_left 1
              · intro wz hSw
                go_simp
                try with_reducible rfl
              simp only [Act.put, List.setIfInBounds_toArray, List.set_cons_zero, List.set_cons_succ]
              rw [HBS.out]
              refine takeH (i := 19) (v := ?_) rfl (by kernel_rfl) (by kernel_rfl) (by kernel_rfl) (fun _ _ _ h => h) (some 2) rfl (Or.inl ⟨by rfl, ?_⟩) (by assumption) ?_
              rotate_left 1
              · intro wz hSw
                go_simp
                try with_reducible rfl
              simp only [Act.put, List.setIfInBounds_toArray, List.set_cons_zero, List.set_cons_succ]
              refine takeH (i := 20) (v := ?_) rfl (by kernel_rfl) (by kernel_rfl) (by kernel_rfl) (fun _ _ _ h => h) (some 3) rfl (Or.inl ⟨by rfl, ?_⟩) (by assumption) ?_
              rotate_left 1
              · intro wz hSw
                go_simp
                try with_reducible rfl
              simp only [Act.put, List.setIfInBounds_toArray, List.set_cons_zero, List.set_cons_succ]
              refine wpAnyH_done (by kernel_rfl) ?_ _
              exact HSH x37 g1 g2 HBx37.out
            exact AllReadyH.nil
          exact AllReadyH.nil
        exact AllReadyH.nil
      rintro v2 g1 g2 hB2
      have HB2 := Lib.hid hB2
      clear hB2
      go_wp2_with (fail)
      go_ret2
      exact ⟨by rw [HV.out]; rfl, HB2.out⟩
end Go.Proofs.YthcaeihpdlgcaaaDoor
