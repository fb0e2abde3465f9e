/- The document's pages, capacity and list of units. -/
import Derived.Test.YtgncllhhajjnlaaInA
import Derived.Deep.DeepCutAuto
namespace Go.Proofs.Ytgncllhhajjnlaa
open Go.RowKit
section
variable {P : Program} {ops : Array Oper} {S : World → Prop} {o : Oper} {a : Act} {w : World} {K : Act → World → Prop} {Q : Exit → Act → World → Prop} {E : Prop}
theorem takeH {md : Region.Mode} {i : Nat} {oi : Oper} {v : Value} {fuel : Nat} {listed : Array Bool} (hi : ops[i]? = some oi)
    (hs : Region.noSelect ops = true) (hf : Region.free md ops listed i = true) (hr : (Region.ready md ops listed).contains i = true)
    (hQ : ∀ c a w, Q (.panic c) (a.put oi.dst v) w → Q (.panic c) a w) (d0 : Option Tmp) (hd0 : oi.dst = d0) (hy : YieldsIf P ops S oi v a) (hS : S w)
    (h : wpAnyH P md ops Q S fuel (listed.setIfInBounds i true) (a.put d0 v) w) : wpAnyH P md ops Q S (fuel + 1) listed a w := by
  subst hd0
  exact wpAnyH_take hi hs hf hr hQ hy hS h
theorem step_alloc (hw : Region.wanted o (yielded ops a.tmps) = true) (v : Value) (w' : World) (hr : (execOp a.eval o).run P w = .ok (.value v) w') (d0 : Option Tmp) (hd0 : o.dst = d0) (h : K (a.put d0 v) w') :
    if Region.wanted o (yielded ops a.tmps) = true then Oper.wp P o a w K Q else E := by
  subst hd0
  rw [if_pos hw]
  unfold Oper.wp
  rw [hr, Oper.upon_value]
  exact h
theorem step_call1 (hw : Region.wanted o (yielded ops a.tmps) = true) (f : Nat) (x : Operand) (ty : Array TypeId) (ho : o.op = .call { callee := .value (.func f), args := #[x], argTypes := ty })
    (u : Value) (hx : a.eval x = u) (hcf : ∀ args v, (callFunc f args).run P v = .ok (.enter f args) v) (post : Ending → World → Prop) (hc : Calls P f #[u] w post) (d0 : Option Tmp) (hd0 : o.dst = d0) (h : ∀ e w', post e w' → ∃ v, e = .returned v ∧ K (a.put d0 v) w') :
    if Region.wanted o (yielded ops a.tmps) = true then Oper.wp P o a w K Q else E := by
  subst hd0
  rw [if_pos hw]
  have hr : (execOp a.eval o).run P w = .ok (.enter f #[u]) w := by
    unfold execOp
    simp only [ho, resolve, invoke, Sem.run_bind, List.map_toArray, List.map_cons, List.map_nil, hx]
    simp [go_sem, hcf]
  unfold Oper.wp
  rw [hr, Oper.upon_enter]
  refine hc.mono ?_
  intro e w' hp
  obtain ⟨v, rfl, hk⟩ := h e w' hp
  exact hk
end
theorem share3 {T : Prop} {G : World → Nat → Nat → Prop} (F : World → Nat → Nat → Prop) (main : (∀ v p g, F v p g → G v p g) → T) (pf : ∀ v p g, F v p g → G v p g) : T := main pf
theorem sh1 {T : Prop} {G : World → Nat → Prop} (F : World → Nat → Prop) (main : (∀ v g, F v g → G v g) → T) (pf : ∀ v g, F v g → G v g) : T := main pf
def pageV (o : Option ByteArray) : Value := .tuple #[.string (o.getD ⟨#[]⟩), .int .i64 (if o.isSome = true then 0 else 180)]
/-- A unit, in memory. -/
abbrev unC (n : Int) (id : ByteArray) : Array Value := #[.int .i64 n, .string id]
abbrev unV (n : Int) (id : ByteArray) : Value := .agg (unC n id)
theorem zer_put (k x n : Nat) (N : Nat) {s : ByteArray} (hs : s.size = N) (h1 : 1 ≤ n) (h8 : n ≤ 8) (hm : k + n ≤ N) : (put s k x n).size = N := (put_size' h1 h8 (hs ▸ hm)).trans hs
set_option maxRecDepth 100000 in
set_option maxHeartbeats 8000000 in
theorem page_std (n : Int) (id : ByteArray) (th : Bool) (w : World) : Calls Try.prog 10 #[unV n id, .bool th, .int .i64 0] w fun e w' => e = .returned (.tuple #[.string (stdS th), .int .i64 0]) ∧ Below w.heap.size w w' := by
  have HZ := Lib.hid (fun v => refZeros_any 8 (by decide) v)
  obtain ⟨s0, hs0⟩ : ∃ z, z = zerS 8 := ⟨_, rfl⟩
  have z0 : s0.size = 8 := by rw [hs0]; exact zerS_size _
  have HP1 := Lib.hid (fun v => refPut_any s0 2 6 1 v (by omega) (by decide) (by decide) (by omega) (by decide))
  obtain ⟨s1, hs1⟩ : ∃ z, z = put s0 2 6 1 := ⟨_, rfl⟩
  have z1 : s1.size = 8 := by rw [hs1]; exact zer_put _ _ _ _ z0 (by decide) (by decide) (by decide)
  rw [← hs1] at HP1
  have HP2 := Lib.hid (fun v => refPut_any s1 3 2 1 v (by omega) (by decide) (by decide) (by omega) (by decide))
  obtain ⟨s2, hs2⟩ : ∃ z, z = put s1 3 2 1 := ⟨_, rfl⟩
  have z2 : s2.size = 8 := by rw [hs2]; exact zer_put _ _ _ _ z1 (by decide) (by decide) (by decide)
  rw [← hs2] at HP2
  have HP3 := Lib.hid (fun v => refPut_any s2 4 31 1 v (by omega) (by decide) (by decide) (by omega) (by decide))
  obtain ⟨s3, hs3⟩ : ∃ z, z = put s2 4 31 1 := ⟨_, rfl⟩
  have z3 : s3.size = 8 := by rw [hs3]; exact zer_put _ _ _ _ z2 (by decide) (by decide) (by decide)
  rw [← hs3] at HP3
  have HE := Lib.hid (show s3 ++ hgS = stdS true by rw [hs3, hs2, hs1, hs0, std_put]; rfl)
  have zt : (stdS true).size = 36 := by kernel_rfl
  have HQ := Lib.hid (fun v => refPut_any (stdS true) 0 127 1 v (by omega) (by decide) (by decide) (by omega) (by decide))
  rw [std_not] at HQ
  rw [← hs0] at HZ
  have hg : (⟨#[72, 69, 65, 68, 71, 65, 84, 69, 66, 76, 79, 67, 75, 32, 85, 78, 73, 84, 32, 32, 32, 32, 32, 32, 48, 48, 48, 49]⟩ : ByteArray).size = 28 := rfl
  have hcc : ¬ 9223372036854775807 < s3.size + (⟨#[72, 69, 65, 68, 71, 65, 84, 69, 66, 76, 79, 67, 75, 32, 85, 78, 73, 84, 32, 32, 32, 32, 32, 32, 48, 48, 48, 49]⟩ : ByteArray).size := by omega
  have HE2 : Hid (s3 ++ ⟨#[72, 69, 65, 68, 71, 65, 84, 69, 66, 76, 79, 67, 75, 32, 85, 78, 73, 84, 32, 32, 32, 32, 32, 32, 48, 48, 48, 49]⟩ = stdS true) := HE
  clear hs0 hs1 hs2 hs3 z0 z1 z2 HE zt
  cases th with
  | true =>
    have HB0 := Lib.hid ((Below.refl w.heap.size w).alloc (Nat.le_refl _) (.cells (unC n id) 23))
    have HX0 := Lib.hid (Blk.new w 23 (unC n id))
    go_enter Try.func10, Try.ntmps10
    go_upto_region 1 with (fail)
    change Code.wp _ _ _ _ (w.alloc (.cells (unC n id) 23))
    generalize w.alloc (.cells (unC n id) 23) = v0 at *
    obtain ⟨p, hp⟩ : ∃ p, p = w.heap.size := ⟨_, rfl⟩
    rw [← hp] at HX0 ⊢
    clear hp
    have c1 : v0.cell? ⟨p, 1, none⟩ = some (.string id) := HX0.out.cell 1
    go_wp2_with (fail)
    refine (HZ.out _).mono ?_; rintro e v1 ⟨rfl, hb⟩
    replace HB0 := Lib.hid (HB0.out.trans (hb.mono HB0.out.size)); clear hb
    go_wp2_with (fail)
    refine (HP1.out _).mono ?_; rintro e v2 ⟨rfl, hb⟩
    replace HB0 := Lib.hid (HB0.out.trans (hb.mono HB0.out.size)); clear hb
    go_wp2_with (fail)
    refine (HP2.out _).mono ?_; rintro e v3 ⟨rfl, hb⟩
    replace HB0 := Lib.hid (HB0.out.trans (hb.mono HB0.out.size)); clear hb
    go_wp2_with (fail)
    refine (HP3.out _).mono ?_; rintro e v4 ⟨rfl, hb⟩
    replace HB0 := Lib.hid (HB0.out.trans (hb.mono HB0.out.size)); clear hb
    go_wp2_with (fail)
    go_ret2
    rw [HE2.out]
    exact ⟨rfl, HB0.out⟩
  | false =>
    have HB0 := Lib.hid ((Below.refl w.heap.size w).alloc (Nat.le_refl _) (.cells (unC n id) 23))
    have HX0 := Lib.hid (Blk.new w 23 (unC n id))
    go_enter Try.func10, Try.ntmps10
    go_upto_region 1 with (fail)
    change Code.wp _ _ _ _ (w.alloc (.cells (unC n id) 23))
    generalize w.alloc (.cells (unC n id) 23) = v0 at *
    obtain ⟨p, hp⟩ : ∃ p, p = w.heap.size := ⟨_, rfl⟩
    rw [← hp] at HX0 ⊢
    clear hp
    have c1 : v0.cell? ⟨p, 1, none⟩ = some (.string id) := HX0.out.cell 1
    go_wp2_with (fail)
    refine (HZ.out _).mono ?_; rintro e v1 ⟨rfl, hb⟩
    replace HB0 := Lib.hid (HB0.out.trans (hb.mono HB0.out.size)); clear hb
    go_wp2_with (fail)
    refine (HP1.out _).mono ?_; rintro e v2 ⟨rfl, hb⟩
    replace HB0 := Lib.hid (HB0.out.trans (hb.mono HB0.out.size)); clear hb
    go_wp2_with (fail)
    refine (HP2.out _).mono ?_; rintro e v3 ⟨rfl, hb⟩
    replace HB0 := Lib.hid (HB0.out.trans (hb.mono HB0.out.size)); clear hb
    go_wp2_with (fail)
    refine (HP3.out _).mono ?_; rintro e v4 ⟨rfl, hb⟩
    replace HB0 := Lib.hid (HB0.out.trans (hb.mono HB0.out.size)); clear hb
    go_wp2_with (fail)
    rw [HE2.out]
    refine (HQ.out _).mono ?_; rintro e v5 ⟨rfl, hb⟩
    replace HB0 := Lib.hid (HB0.out.trans (hb.mono HB0.out.size)); clear hb
    go_wp2_with (fail)
    go_ret2
    exact ⟨rfl, HB0.out⟩
set_option maxRecDepth 100000 in
set_option maxHeartbeats 8000000 in
theorem page_lim (n : Int) (id : ByteArray) (w : World) : Calls Try.prog 10 #[unV n id, .bool true, .int .i64 432] w fun e w' => e = .returned (.tuple #[.string limP, .int .i64 0]) ∧ Below w.heap.size w w' := by
  have HZ := Lib.hid (fun v => refZeros_any 64 (by decide) v)
  obtain ⟨s0, hs0⟩ : ∃ z, z = zerS 64 := ⟨_, rfl⟩
  have z0 : s0.size = 64 := by rw [hs0]; exact zerS_size _
  have HP1 := Lib.hid (fun v => refPut_any s0 1 176 1 v (by omega) (by decide) (by decide) (by omega) (by decide))
  obtain ⟨s1, hs1⟩ : ∃ z, z = put s0 1 176 1 := ⟨_, rfl⟩
  have z1 : s1.size = 64 := by rw [hs1]; exact zer_put _ _ _ _ z0 (by decide) (by decide) (by decide)
  rw [← hs1] at HP1
  have HP2 := Lib.hid (fun v => refPut_any s1 3 60 1 v (by omega) (by decide) (by decide) (by omega) (by decide))
  obtain ⟨s2, hs2⟩ : ∃ z, z = put s1 3 60 1 := ⟨_, rfl⟩
  have z2 : s2.size = 64 := by rw [hs2]; exact zer_put _ _ _ _ z1 (by decide) (by decide) (by decide)
  rw [← hs2] at HP2
  have HP3 := Lib.hid (fun v => refPut_any s2 5 32 1 v (by omega) (by decide) (by decide) (by omega) (by decide))
  obtain ⟨s3, hs3⟩ : ∃ z, z = put s2 5 32 1 := ⟨_, rfl⟩
  have z3 : s3.size = 64 := by rw [hs3]; exact zer_put _ _ _ _ z2 (by decide) (by decide) (by decide)
  rw [← hs3] at HP3
  have HP4 := Lib.hid (fun v => refPut_any s3 8 64 4 v (by omega) (by decide) (by decide) (by omega) (by decide))
  obtain ⟨s4, hs4⟩ : ∃ z, z = put s3 8 64 4 := ⟨_, rfl⟩
  have z4 : s4.size = 64 := by rw [hs4]; exact zer_put _ _ _ _ z3 (by decide) (by decide) (by decide)
  rw [← hs4] at HP4
  have HP5 := Lib.hid (fun v => refPut_any s4 20 4096 4 v (by omega) (by decide) (by decide) (by omega) (by decide))
  obtain ⟨s5, hs5⟩ : ∃ z, z = put s4 20 4096 4 := ⟨_, rfl⟩
  have z5 : s5.size = 64 := by rw [hs5]; exact zer_put _ _ _ _ z4 (by decide) (by decide) (by decide)
  rw [← hs5] at HP5
  have HP6 := Lib.hid (fun v => refPut_any s5 24 16 4 v (by omega) (by decide) (by decide) (by omega) (by decide))
  obtain ⟨s6, hs6⟩ : ∃ z, z = put s5 24 16 4 := ⟨_, rfl⟩
  have z6 : s6.size = 64 := by rw [hs6]; exact zer_put _ _ _ _ z5 (by decide) (by decide) (by decide)
  rw [← hs6] at HP6
  have HE := Lib.hid (show s6 = limP by rw [hs6, hs5, hs4, hs3, hs2, hs1, hs0]; rfl)
  rw [← hs0] at HZ
  clear hs0 hs1 hs2 hs3 hs4 hs5 hs6 z0 z1 z2 z3 z4 z5 z6
  have HB0 := Lib.hid ((Below.refl w.heap.size w).alloc (Nat.le_refl _) (.cells (unC n id) 23))
  have HX0 := Lib.hid (Blk.new w 23 (unC n id))
  go_enter Try.func10, Try.ntmps10
  go_upto_region 1 with (fail)
  change Code.wp _ _ _ _ (w.alloc (.cells (unC n id) 23))
  generalize w.alloc (.cells (unC n id) 23) = v0 at *
  obtain ⟨p, hp⟩ : ∃ p, p = w.heap.size := ⟨_, rfl⟩
  rw [← hp] at HX0 ⊢
  clear hp
  have c1 : v0.cell? ⟨p, 1, none⟩ = some (.string id) := HX0.out.cell 1
  go_wp2_with (fail)
  refine (HZ.out _).mono ?_; rintro e v1 ⟨rfl, hb⟩
  replace HB0 := Lib.hid (HB0.out.trans (hb.mono HB0.out.size)); clear hb
  go_wp2_with (fail)
  refine (HP1.out _).mono ?_; rintro e v2 ⟨rfl, hb⟩
  replace HB0 := Lib.hid (HB0.out.trans (hb.mono HB0.out.size)); clear hb
  go_wp2_with (fail)
  refine (HP2.out _).mono ?_; rintro e v3 ⟨rfl, hb⟩
  replace HB0 := Lib.hid (HB0.out.trans (hb.mono HB0.out.size)); clear hb
  go_wp2_with (fail)
  refine (HP3.out _).mono ?_; rintro e v4 ⟨rfl, hb⟩
  replace HB0 := Lib.hid (HB0.out.trans (hb.mono HB0.out.size)); clear hb
  go_wp2_with (fail)
  refine (HP4.out _).mono ?_; rintro e v5 ⟨rfl, hb⟩
  replace HB0 := Lib.hid (HB0.out.trans (hb.mono HB0.out.size)); clear hb
  go_wp2_with (fail)
  refine (HP5.out _).mono ?_; rintro e v6 ⟨rfl, hb⟩
  replace HB0 := Lib.hid (HB0.out.trans (hb.mono HB0.out.size)); clear hb
  go_wp2_with (fail)
  refine (HP6.out _).mono ?_; rintro e v7 ⟨rfl, hb⟩
  replace HB0 := Lib.hid (HB0.out.trans (hb.mono HB0.out.size)); clear hb
  rw [HE.out]
  go_wp2_with (fail)
  go_ret2
  exact ⟨rfl, HB0.out⟩
set_option maxRecDepth 100000 in
set_option maxHeartbeats 8000000 in
theorem page_off (n : Int) (id : ByteArray) (p : Int) (hp0 : ¬ p = 0) (w : World) : Calls Try.prog 10 #[unV n id, .bool false, .int .i64 p] w fun e w' => e = .returned (.tuple #[.string ⟨#[]⟩, .int .i64 180]) ∧ Below w.heap.size w w' := by
  have q0 : (p == 0) = false := by simp [hp0]
  have HB0 := Lib.hid ((Below.refl w.heap.size w).alloc (Nat.le_refl _) (.cells (unC n id) 23))
  have HX0 := Lib.hid (Blk.new w 23 (unC n id))
  go_enter Try.func10, Try.ntmps10
  go_upto_region 1 with (fail)
  change Code.wp _ _ _ _ (w.alloc (.cells (unC n id) 23))
  generalize w.alloc (.cells (unC n id) 23) = v0 at *
  obtain ⟨pp, hp⟩ : ∃ p, p = w.heap.size := ⟨_, rfl⟩
  rw [← hp] at HX0 ⊢
  clear hp
  have c1 : v0.cell? ⟨pp, 1, none⟩ = some (.string id) := HX0.out.cell 1
  go_wp2_with (fail)
  go_ret2
  exact ⟨rfl, HB0.out⟩
set_option maxRecDepth 100000 in
set_option maxHeartbeats 8000000 in
theorem page_list (n : Int) (id : ByteArray)  (w : World) : Calls Try.prog 10 #[unV n id, .bool true, .int .i64 256] w fun e w' => e = .returned (.tuple #[.string listP, .int .i64 0]) ∧ Below w.heap.size w w' := by
  have HB0 := Lib.hid ((Below.refl w.heap.size w).alloc (Nat.le_refl _) (.cells (unC n id) 23))
  have HX0 := Lib.hid (Blk.new w 23 (unC n id))
  go_enter Try.func10, Try.ntmps10
  go_upto_region 1 with (fail)
  change Code.wp _ _ _ _ (w.alloc (.cells (unC n id) 23))
  generalize w.alloc (.cells (unC n id) 23) = v0 at *
  obtain ⟨p, hp⟩ : ∃ p, p = w.heap.size := ⟨_, rfl⟩
  rw [← hp] at HX0 ⊢
  clear hp
  have c1 : v0.cell? ⟨p, 1, none⟩ = some (.string id) := HX0.out.cell 1
  go_wp2_with (fail)
  go_ret2
  exact ⟨rfl, HB0.out⟩
set_option maxRecDepth 100000 in
set_option maxHeartbeats 8000000 in
theorem page_id (n : Int) (id : ByteArray) (h : id.size = 16) (w : World) : Calls Try.prog 10 #[unV n id, .bool true, .int .i64 387] w fun e w' => e = .returned (.tuple #[.string (idP ++ id), .int .i64 0]) ∧ Below w.heap.size w w' := by
  have q1 : ((id.size : Int) == 16) = true := by rw [h]; rfl
  have q2 : (id.size : Int) = 16 := by rw [h]; rfl
  have hz : (⟨#[0, 131, 0, 20, 1, 1, 0, 16]⟩ : ByteArray).size = 8 := rfl
  have hcc : ¬ 9223372036854775807 < (⟨#[0, 131, 0, 20, 1, 1, 0, 16]⟩ : ByteArray).size + id.size := by omega
  clear h
  have HB0 := Lib.hid ((Below.refl w.heap.size w).alloc (Nat.le_refl _) (.cells (unC n id) 23))
  have HX0 := Lib.hid (Blk.new w 23 (unC n id))
  go_enter Try.func10, Try.ntmps10
  go_upto_region 1 with (fail)
  change Code.wp _ _ _ _ (w.alloc (.cells (unC n id) 23))
  generalize w.alloc (.cells (unC n id) 23) = v0 at *
  obtain ⟨p, hp⟩ : ∃ p, p = w.heap.size := ⟨_, rfl⟩
  rw [← hp] at HX0 ⊢
  clear hp
  have c1 : v0.cell? ⟨p, 1, none⟩ = some (.string id) := HX0.out.cell 1
  go_wp2_with (fail)
  go_ret2
  exact ⟨rfl, HB0.out⟩
set_option maxRecDepth 100000 in
set_option maxHeartbeats 8000000 in
theorem page_no (n : Int) (id : ByteArray) (p : Int) (h0 : ¬ p = 0) (h1 : ¬ p = 256) (h2 : ¬ (p = 387 ∧ id.size = 16)) (h3 : ¬ p = 432) (w : World) : Calls Try.prog 10 #[unV n id, .bool true, .int .i64 p] w fun e w' => e = .returned (.tuple #[.string ⟨#[]⟩, .int .i64 180]) ∧ Below w.heap.size w w' := by
  have q0 : (p == 0) = false := by simp [h0]
  have q1 : (p == 256) = false := by simp [h1]
  have q3 : (p == 432) = false := by simp [h3]
  have q2 : ¬ p = 387 ∨ ¬ (id.size : Int) = 16 := by omega
  clear h2
  have HB0 := Lib.hid ((Below.refl w.heap.size w).alloc (Nat.le_refl _) (.cells (unC n id) 23))
  have HX0 := Lib.hid (Blk.new w 23 (unC n id))
  go_enter Try.func10, Try.ntmps10
  go_upto_region 1 with (fail)
  change Code.wp _ _ _ _ (w.alloc (.cells (unC n id) 23))
  generalize w.alloc (.cells (unC n id) 23) = v0 at *
  obtain ⟨pp, hp⟩ : ∃ p, p = w.heap.size := ⟨_, rfl⟩
  rw [← hp] at HX0 ⊢
  clear hp
  have c1 : v0.cell? ⟨pp, 1, none⟩ = some (.string id) := HX0.out.cell 1
  rcases q2 with q2 | q2
  · have q4 : (p == 387) = false := by simp [q2]
    go_wp2_with (fail)
    go_ret2
    exact ⟨rfl, HB0.out⟩
  · have q4 : ((id.size : Int) == 16) = false := by simp; omega
    cases q5 : (p == 387) with
    | true =>
      go_wp2_with (fail)
      go_ret2
      exact ⟨rfl, HB0.out⟩
    | false =>
      go_wp2_with (fail)
      go_ret2
      exact ⟨rfl, HB0.out⟩
theorem refPage_any (n : Int) (id : ByteArray) (th : Bool) (p : Int) (w : World) : Calls Try.prog 10 #[unV n id, .bool th, .int .i64 p] w fun e w' => e = .returned (pageV (pageX id th p)) ∧ Below w.heap.size w w' := by
  unfold pageX
  by_cases h0 : p = 0
  · subst h0; rw [if_pos rfl]; exact page_std n id th w
  · rw [if_neg h0]
    cases th with
    | false => rw [if_pos rfl]; exact page_off n id p h0 w
    | true =>
      rw [if_neg (by decide)]
      by_cases h1 : p = 256
      · subst h1; rw [if_pos rfl]; exact page_list n id w
      · rw [if_neg h1]
        by_cases h2 : p = 387 ∧ id.size = 16
        · rw [if_pos h2]; obtain ⟨rfl, h⟩ := h2; exact page_id n id h w
        · rw [if_neg h2]
          by_cases h3 : p = 432
          · subst h3; rw [if_pos rfl]; exact page_lim n id w
          · rw [if_neg h3]; exact page_no n id p h0 h1 h2 h3 w
end Go.Proofs.Ytgncllhhajjnlaa
