/- Lists of ranges in memory; the list of any ranges: the document's Unmap. -/
import Derived.Test.YtgncllhhajjnlaaInF
namespace Go.Proofs.Ytgncllhhajjnlaa
open Go.RowKit
/-- A range: where it begins, how many blocks. -/
structure Rn where
  l : Int
  b : Int
structure Rn.Wf (x : Rn) : Prop where
  l : In64 x.l
  b : In64 x.b
/-- A list of ranges in memory. -/
def Rngs (w : World) (A : Option Addr) (l : List Rn) : Prop :=
  0 < l.length → ∃ b o, A = some ⟨b, o, none⟩ ∧ ∀ (j : Nat) (x : Rn), l[j]? = some x → x.Wf ∧ w.cell? ⟨b, o + j * 2, none⟩ = some (.int .i64 x.l) ∧ w.cell? ⟨b, o + j * 2 + 1, none⟩ = some (.int .i64 x.b)
theorem Rngs.kept {w w' : World} {A : Option Addr} {l : List Rn} (h : Rngs w A l) (hb : 0 < l.length → ∀ a, A = some a → w'.heap[a.block]? = w.heap[a.block]?) : Rngs w' A l := fun hn => by
  obtain ⟨b, o, rfl, hc⟩ := h hn
  have e := hb hn _ rfl
  refine ⟨b, o, rfl, fun j v hj => ?_⟩
  obtain ⟨h0, h1, h2⟩ := hc j v hj
  exact ⟨h0, (World.cell?_of_block (a := ⟨b, o + j * 2, none⟩) e).trans h1, (World.cell?_of_block (a := ⟨b, o + j * 2 + 1, none⟩) e).trans h2⟩
theorem Rngs.lt {w : World} {A : Option Addr} {l : List Rn} (h : Rngs w A l) (hn : 0 < l.length) (a : Addr) (ha : A = some a) : a.block < w.heap.size := by
  obtain ⟨b, o, rfl, hc⟩ := h hn
  injection ha with ha
  subst ha
  exact World.block_lt_of_cell? w ⟨b, o + 0 * 2, none⟩ (hc 0 _ (List.getElem?_eq_getElem hn)).2.1
theorem Rngs.below {w w' : World} {A : Option Addr} {l : List Rn} (h : Rngs w A l) (hb : Below w.heap.size w w') : Rngs w' A l :=
  h.kept fun hn a ha => hb.block _ (h.lt hn a ha)
theorem Rngs.at_ {w : World} {A : Option Addr} {l : List Rn} (h : Rngs w A l) {j : Nat} (hj : j < l.length) : ∃ b o x, A = some ⟨b, o, none⟩ ∧ l[j]? = some x ∧ x.Wf ∧ w.cell? ⟨b, o + j * 2, none⟩ = some (.int .i64 x.l) ∧ w.cell? ⟨b, o + j * 2 + 1, none⟩ = some (.int .i64 x.b) := by
  obtain ⟨b, o, rfl, hc⟩ := h (by omega)
  exact ⟨b, o, _, rfl, List.getElem?_eq_getElem hj, hc j _ (List.getElem?_eq_getElem hj)⟩
section
variable {P : Program} {ops : Array Oper} {o : Oper} {a : Act} {w : World} {K : Act → World → Prop} {Q : Exit → Act → World → Prop} {E : Prop}
theorem step_call2 (hw : Region.wanted o (yielded ops a.tmps) = true) (f : Nat) (x y : Operand) (ty : Array TypeId) (ho : o.op = .call { callee := .value (.func f), args := #[x, y], argTypes := ty })
    (u v : Value) (hx : a.eval x = u) (hy : a.eval y = v) (hcf : ∀ args v, (callFunc f args).run P v = .ok (.enter f args) v) (post : Ending → World → Prop) (hc : Calls P f #[u, v] w post) (d0 : Option Tmp) (hd0 : o.dst = d0) (h : ∀ e w', post e w' → ∃ v, e = .returned v ∧ K (a.put d0 v) w') :
    if Region.wanted o (yielded ops a.tmps) = true then Oper.wp P o a w K Q else E := by
  subst hd0
  rw [if_pos hw]
  have hr : (execOp a.eval o).run P w = .ok (.enter f #[u, v]) w := by
    unfold execOp
    simp only [ho, resolve, invoke, Sem.run_bind, List.map_toArray, List.map_cons, List.map_nil, hx, hy]
    simp [go_sem, hcf]
  unfold Oper.wp
  rw [hr, Oper.upon_enter]
  refine hc.mono ?_
  intro e w' hp
  obtain ⟨v, rfl, hk⟩ := h e w' hp
  exact hk
end
theorem sh0 {T : Prop} {G : World → Prop} (F : World → Prop) (main : (∀ v, F v → G v) → T) (pf : ∀ v, F v → G v) : T := main pf
def goodR (x : Rn) : Bool := decide (0 ≤ x.l ∧ x.l < 2147483648 ∧ 0 ≤ x.b ∧ x.b < 4294967296)
def rowR (x : Rn) : ByteArray := putHi x.l.toNat ((8 : Nat) : Int) ++ putHi x.b.toNat ((4 : Nat) : Int) ++ zerS 4
def rowsR (l : List Rn) : ByteArray := l.foldl (fun s x => s ++ rowR x) ⟨#[]⟩
def headR (n : Nat) : ByteArray := putHi (6 + 16 * n) ((2 : Nat) : Int) ++ putHi (16 * n) ((2 : Nat) : Int) ++ zerS 4
/-- The list of these ranges. -/
def unX (l : List Rn) : Option ByteArray := if l.length ≤ 16 ∧ l.all goodR = true then some (headR l.length ++ rowsR l) else none
theorem rowsR_step {l : List Rn} {k : Nat} {x : Rn} (h : l[k]? = some x) : rowsR (l.take (k + 1)) = rowsR (l.take k) ++ rowR x := by
  unfold rowsR
  rw [List.take_add_one, h]
  simp
theorem rowR_size (x : Rn) : (rowR x).size = 16 := by
  unfold rowR
  rw [ByteArray.size_append, ByteArray.size_append, zerS_size, putHi_size _ 8 (by decide) (by decide), putHi_size _ 4 (by decide) (by decide)]
theorem headR_size (n : Nat) : (headR n).size = 8 := by
  unfold headR
  rw [ByteArray.size_append, ByteArray.size_append, zerS_size, putHi_size _ 2 (by decide) (by decide), putHi_size _ 2 (by decide) (by decide)]
theorem rowsR_size (l : List Rn) : ∀ k, k ≤ l.length → (rowsR (l.take k)).size = 16 * k
  | 0, _ => rfl
  | k + 1, h => by
    rw [rowsR_step (List.getElem?_eq_getElem (by omega)), ByteArray.size_append, rowsR_size l k (by omega), rowR_size]; omega
set_option maxRecDepth 100000 in
set_option maxHeartbeats 8000000 in
theorem refUnmap_any (A : Option Addr) (c : Nat) (l : List Rn) (w : World) (hl : Rngs w A l) (hn : l.length ≤ 100000) : Calls Try.prog 17 #[.slice A l.length c] w fun e w' => e = .returned (pageV (unX l)) ∧ Below w.heap.size w w' := by
  by_cases h16 : l.length ≤ 16
  · have q : ¬ (16 : Int) < (l.length : Int) := by omega
    have HRS := Lib.hid hl
    obtain ⟨n, hln⟩ : ∃ n, n = l.length := ⟨_, rfl⟩
    have HLN := Lib.hid hln
    rw [← hln] at q h16 ⊢
    have HP := Lib.hid (fun v => refPutBig_any (6 + 16 * n) ((2 : Nat) : Int) v (by omega))
    have HP2 := Lib.hid (fun v => refPutBig_any (16 * n) ((2 : Nat) : Int) v (by omega))
    have HQ := Lib.hid (fun v => refZeros_any 4 (by decide) v)
    have a1 : (putHi (6 + 16 * n) ((2 : Nat) : Int)).size = 2 := putHi_size _ 2 (by decide) (by decide)
    have a2 : (putHi (16 * n) ((2 : Nat) : Int)).size = 2 := putHi_size _ 2 (by decide) (by decide)
    have a3 : (zerS 4).size = 4 := zerS_size 4
    have a4 : (putHi (6 + 16 * n) ((2 : Nat) : Int) ++ putHi (16 * n) ((2 : Nat) : Int)).size = 4 := by rw [ByteArray.size_append, a1, a2]
    have e1 : IntKind.i64.wrap (16 * (n : Int)) = 16 * (n : Int) := IntWalk.i64_in _ (by omega)
    have e2 : IntKind.i64.wrap (6 + 16 * (n : Int)) = 6 + 16 * (n : Int) := IntWalk.i64_in _ (by omega)
    have e3 : IntKind.u64.wrap (16 * (n : Int)) = 16 * (n : Int) := IntWalk.u64_in _ (by omega)
    have e4 : IntKind.u64.wrap (6 + 16 * (n : Int)) = 6 + 16 * (n : Int) := IntWalk.u64_in _ (by omega)
    obtain ⟨T, hT⟩ : ∃ T, T = headR n := ⟨_, rfl⟩
    have HTS := Lib.hid (show T.size = 8 by rw [hT]; exact headR_size n)
    have HT := Lib.hid (show putHi (6 + 16 * n) ((2 : Nat) : Int) ++ putHi (16 * n) ((2 : Nat) : Int) ++ zerS 4 = T ++ rowsR (l.take 0) by rw [hT]; exact (ByteArray.append_empty (b := _)).symm)
    have HTH := Lib.hid hT
    clear hT hl hln hn
    generalize hp1 : putHi (6 + 16 * n) ((2 : Nat) : Int) = p1 at *
    generalize hp2 : putHi (16 * n) ((2 : Nat) : Int) = p2 at *
    generalize hz4 : zerS 4 = z4 at *
    have HZ4 := Lib.hid hz4
    clear hp1 hp2 hz4
    go_enter Try.func17, Try.ntmps17
    go_wp2_with (fail)
    refine (HP.out _).mono ?_; rintro e w1 ⟨rfl, hb⟩
    have HB := Lib.hid hb; clear hb
    go_wp2_with (fail)
    refine (HP2.out _).mono ?_; rintro e w2 ⟨rfl, hb⟩
    replace HB := Lib.hid (HB.out.trans (hb.mono HB.out.size)); clear hb
    go_wp2_with (fail)
    refine (HQ.out _).mono ?_; rintro e w3 ⟨rfl, hb⟩
    replace HB := Lib.hid (HB.out.trans (hb.mono HB.out.size)); clear hb
    go_wp2_with (fail)
    clear HP HP2 a1 a2 a4 e1 e2 e3 e4 q
    go_loopw [4, 5] (fun s i wr => ∃ k : Nat, k ≤ n ∧ s = .string (T ++ rowsR (l.take k)) ∧ i = .int .i64 k ∧ Hid (Below w.heap.size w wr) ∧ Hid (Rngs wr A l) ∧ Hid (∀ j, j < k → ∀ y, l[j]? = some y → goodR y = true)) (fun _ i _ => n - (intOf i).toNat)
    case atStart => exact ⟨0, by omega, by rw [← HT.out], rfl, HB, Lib.hid (HRS.out.below HB.out), Lib.hid (fun j h => by omega)⟩
    case round =>
      clear HB HRS
      obtain ⟨k, hk, rfl, rfl, HB, HR, HJ⟩ := hrel
      by_cases hkM : (k : Int) < (n : Int)
      · obtain ⟨b, o, x, rfl, hx, hwf, d0, d1⟩ := HR.out.at_ (j := k) (by have := HLN.out; omega)
        have HXK := Lib.hid hx
        have HBAD := Lib.hid (show goodR x = false → unX l = none by
          intro h
          unfold unX
          rw [if_neg]
          intro h2
          have := (List.all_eq_true.1 h2.2) x (List.mem_of_getElem? hx)
          rw [h] at this
          cases this)
        clear HQ HT
        cases hg : goodR x with
        | false =>
          have HV := Lib.hid (HBAD.out hg)
          have hg2 := of_decide_eq_false hg
          clear hg hx hwf HBAD
          by_cases h0 : x.l < 0
          · go_wp2_with (fail)
            go_ret2
            exact ⟨by rw [HV.out]; rfl, HB.out⟩
          by_cases h1 : 2147483648 ≤ x.l
          · go_wp2_with (fail)
            go_ret2
            exact ⟨by rw [HV.out]; rfl, HB.out⟩
          by_cases h2 : x.b < 0
          · go_wp2_with (fail)
            go_ret2
            exact ⟨by rw [HV.out]; rfl, HB.out⟩
          have h3 : 4294967296 ≤ x.b := by omega
          go_wp2_with (fail)
          go_ret2
          exact ⟨by rw [HV.out]; rfl, HB.out⟩
        | true =>
          obtain ⟨g0, g1, g2, g3⟩ := of_decide_eq_true hg
          have HG1 := Lib.hid (show ∀ j, j < k + 1 → ∀ y, l[j]? = some y → goodR y = true from fun j hj y hy => by
            by_cases h : j = k
            · subst h
              obtain rfl := Option.some.inj (hx.symm.trans hy)
              exact hg
            · exact HJ.out j (by omega) y hy)
          have HQ := Lib.hid (fun v => refZeros_any 4 (by decide) v)
          have HRK0 := Lib.hid (show putHi x.l.toNat ((8 : Nat) : Int) ++ putHi x.b.toNat ((4 : Nat) : Int) ++ zerS 4 = rowR x from rfl)
          have HNX := Lib.hid (show T ++ rowsR (l.take k) ++ rowR x = T ++ rowsR (l.take (k + 1)) by rw [rowsR_step hx, ByteArray.append_assoc])
          have hs6 : (T ++ rowsR (l.take k)).size = 8 + 16 * k := by rw [ByteArray.size_append, HTS.out, rowsR_size l k (by have := HLN.out; omega)]
          have hs5 : (rowR x).size = 16 := rowR_size x
          have HAT := Lib.hid (show ∀ v, Rngs v (some ⟨b, o, none⟩) l → v.cell? ⟨b, o + k * 2, none⟩ = some (.int .i64 x.l) ∧ v.cell? ⟨b, o + k * 2 + 1, none⟩ = some (.int .i64 x.b) from fun v hv => by
            obtain ⟨b2, o2, h1, h2⟩ := hv (by have := HLN.out; omega)
            cases h1
            exact (h2 k x hx).2)
          clear HBAD hg hwf hx HJ
          have n0 : ¬ x.l < 0 := by omega
          have n1 : ¬ 2147483648 ≤ x.l := by omega
          have n2 : ¬ x.b < 0 := by omega
          have n3 : ¬ 4294967296 ≤ x.b := by omega
          have HGB := Lib.hid (show 0 ≤ x.l ∧ x.l < 2147483648 ∧ 0 ≤ x.b ∧ x.b < 4294967296 from ⟨g0, g1, g2, g3⟩)
          have HS6 := Lib.hid hs6; have HS5 := Lib.hid hs5
          clear g0 g1 g2 g3 hs5 hs6
          go_upto_region 9 with (fail)
          clear d0 d1 n0 n1 n2 n3
          obtain ⟨g0, g1, g2, g3⟩ := HGB.out
          have hs6 := HS6.out; have hs5 := HS5.out
          clear HGB HS6 HS5
          obtain ⟨xl, xb⟩ := x
          dsimp only at *
          obtain ⟨Ln, rfl⟩ : ∃ Ln : Nat, xl = (Ln : Int) := ⟨xl.toNat, by omega⟩
          obtain ⟨Bn, rfl⟩ : ∃ Bn : Nat, xb = (Bn : Int) := ⟨xb.toNat, by omega⟩
          rw [Int.toNat_natCast, Int.toNat_natCast] at HRK0
          have HPL := Lib.hid (fun v => refPutBig_any Ln ((8 : Nat) : Int) v (by omega))
          have HPB := Lib.hid (fun v => refPutBig_any Bn ((4 : Nat) : Int) v (by omega))
          have z1 : (putHi Ln ((8 : Nat) : Int)).size = 8 := putHi_size _ 8 (by decide) (by decide)
          have z2 : (putHi Bn ((4 : Nat) : Int)).size = 4 := putHi_size _ 4 (by decide) (by decide)
          have z3 : (zerS 4).size = 4 := zerS_size 4
          have z4' : (putHi Ln ((8 : Nat) : Int) ++ putHi Bn ((4 : Nat) : Int)).size = 12 := by rw [ByteArray.size_append, z1, z2]
          have w1 : IntKind.u64.wrap (Ln : Int) = (Ln : Int) := IntWalk.u64_in _ (by omega)
          have w2 : IntKind.u64.wrap (Bn : Int) = (Bn : Int) := IntWalk.u64_in _ (by omega)
          have hc1 : ¬ 9223372036854775807 < (putHi Ln ((8 : Nat) : Int)).size + (putHi Bn ((4 : Nat) : Int)).size := by omega
          have hc2 : ¬ 9223372036854775807 < (putHi Ln ((8 : Nat) : Int) ++ putHi Bn ((4 : Nat) : Int)).size + (zerS 4).size := by omega
          have hc4 : ¬ 9223372036854775807 < 8 + 16 * k + 16 := by omega
          have HRK := HRK0
          clear HRK0
          generalize zerS 4 = q4 at *
          generalize putHi Ln ((8 : Nat) : Int) = yl at *
          generalize putHi Bn ((4 : Nat) : Int) = yb at *
          generalize rowR _ = rk at *
          generalize T ++ rowsR (l.take k) = tk at *
          apply sh0 (fun v => Below w.heap.size w v ∧ Rngs v (some ⟨b, o, none⟩) l)
          · intro HSH
            refine wp_region_held_drew (S := fun v => Rngs v (some ⟨b, o, none⟩) l) (by kernel_rfl) ?_ (fun hHeld => ?_)
            · exact HR.out.below (Below.refl _ _).drew
            have HBd := Lib.hid HB.out.drew; have HRd := Lib.hid (HR.out.below (Below.refl _ _).drew)
            generalize wr.drew = x0 at *
            refine takeH (i := 0) (v := ?_) rfl (by kernel_rfl) (by kernel_rfl) (by kernel_rfl) (fun _ _ _ h => h) (some 59) rfl (Or.inl ⟨by rfl, ?_⟩) (by assumption) ?_
            rotate_left 1
            · intro wz hSw
              go_simp
              try with_reducible rfl
            simp only [Act.put, List.setIfInBounds_toArray, List.set_cons_zero, List.set_cons_succ]
            refine takeH (i := 1) (v := ?_) rfl (by kernel_rfl) (by kernel_rfl) (by kernel_rfl) (fun _ _ _ h => h) (some 60) rfl (Or.inl ⟨by rfl, ?_⟩) (by assumption) ?_
            rotate_left 1
            · intro wz hSw
              go_simp
              try with_reducible rfl
            simp only [Act.put, List.setIfInBounds_toArray, List.set_cons_zero, List.set_cons_succ]
            refine takeH (i := 2) (v := ?_) rfl (by kernel_rfl) (by kernel_rfl) (by kernel_rfl) (fun _ _ _ h => h) (some 61) rfl (Or.inl ⟨by rfl, ?_⟩) (by assumption) ?_
            rotate_left 1
            · intro wz hSw
              go_simp
              try with_reducible rfl
            simp only [Act.put, List.setIfInBounds_toArray, List.set_cons_zero, List.set_cons_succ]
            refine takeH (i := 3) (v := ?_) rfl (by kernel_rfl) (by kernel_rfl) (by kernel_rfl) (fun _ _ _ h => h) (some 62) rfl (Or.inl ⟨by rfl, ?_⟩) (by assumption) ?_
            rotate_left 1
            · intro wz hSw
              go_simp
              try with_reducible rfl
            simp only [Act.put, List.setIfInBounds_toArray, List.set_cons_zero, List.set_cons_succ]
            refine takeH (i := 4) (v := ?_) rfl (by kernel_rfl) (by kernel_rfl) (by kernel_rfl) (fun _ _ _ h => h) (some 63) rfl (Or.inl ⟨by rfl, ?_⟩) (by assumption) ?_
            rotate_left 1
            · intro wz hSw
              go_simp
              try with_reducible rfl
            simp only [Act.put, List.setIfInBounds_toArray, List.set_cons_zero, List.set_cons_succ]
            refine takeH (i := 5) (v := ?_) rfl (by kernel_rfl) (by kernel_rfl) (by kernel_rfl) (fun _ _ _ h => h) (some 64) rfl (Or.inl ⟨by rfl, ?_⟩) (by assumption) ?_
            rotate_left 1
            · intro wz hSw
              obtain ⟨c0, c1⟩ := HAT.out wz hSw
              go_simp
              try with_reducible rfl
            simp only [Act.put, List.setIfInBounds_toArray, List.set_cons_zero, List.set_cons_succ]
            refine takeH (i := 6) (v := ?_) rfl (by kernel_rfl) (by kernel_rfl) (by kernel_rfl) (fun _ _ _ h => h) (some 65) rfl (Or.inl ⟨by rfl, ?_⟩) (by assumption) ?_
            rotate_left 1
            · intro wz hSw
              go_simp
              try with_reducible rfl
            simp only [Act.put, List.setIfInBounds_toArray, List.set_cons_zero, List.set_cons_succ]
            refine takeH (i := 8) (v := ?_) rfl (by kernel_rfl) (by kernel_rfl) (by kernel_rfl) (fun _ _ _ h => h) (some 67) rfl (Or.inl ⟨by rfl, ?_⟩) (by assumption) ?_
            rotate_left 1
            · intro wz hSw
              go_simp
              try with_reducible rfl
            simp only [Act.put, List.setIfInBounds_toArray, List.set_cons_zero, List.set_cons_succ]
            refine takeH (i := 9) (v := ?_) rfl (by kernel_rfl) (by kernel_rfl) (by kernel_rfl) (fun _ _ _ h => h) (some 68) rfl (Or.inl ⟨by rfl, ?_⟩) (by assumption) ?_
            rotate_left 1
            · intro wz hSw
              go_simp
              try with_reducible rfl
            simp only [Act.put, List.setIfInBounds_toArray, List.set_cons_zero, List.set_cons_succ]
            refine takeH (i := 10) (v := ?_) rfl (by kernel_rfl) (by kernel_rfl) (by kernel_rfl) (fun _ _ _ h => h) (some 69) rfl (Or.inl ⟨by rfl, ?_⟩) (by assumption) ?_
            rotate_left 1
            · intro wz hSw
              go_simp
              try with_reducible rfl
            simp only [Act.put, List.setIfInBounds_toArray, List.set_cons_zero, List.set_cons_succ]
            refine takeH (i := 11) (v := ?_) rfl (by kernel_rfl) (by kernel_rfl) (by kernel_rfl) (fun _ _ _ h => h) (some 70) rfl (Or.inl ⟨by rfl, ?_⟩) (by assumption) ?_
            rotate_left 1
            · intro wz hSw
              go_simp
              try with_reducible rfl
            simp only [Act.put, List.setIfInBounds_toArray, List.set_cons_zero, List.set_cons_succ]
            refine takeH (i := 12) (v := ?_) rfl (by kernel_rfl) (by kernel_rfl) (by kernel_rfl) (fun _ _ _ h => h) (some 71) rfl (Or.inl ⟨by rfl, ?_⟩) (by assumption) ?_
            rotate_left 1
            · intro wz hSw
              obtain ⟨c0, c1⟩ := HAT.out wz hSw
              go_simp
              try with_reducible rfl
            simp only [Act.put, List.setIfInBounds_toArray, List.set_cons_zero, List.set_cons_succ]
            refine takeH (i := 13) (v := ?_) rfl (by kernel_rfl) (by kernel_rfl) (by kernel_rfl) (fun _ _ _ h => h) (some 72) rfl (Or.inl ⟨by rfl, ?_⟩) (by assumption) ?_
            rotate_left 1
            · intro wz hSw
              go_simp
              try with_reducible rfl
            simp only [Act.put, List.setIfInBounds_toArray, List.set_cons_zero, List.set_cons_succ]
            refine wpAnyH_ready (rs := [7]) (by kernel_rfl) (by simp) ?_
            refine AllReadyH.cons rfl (fun KK hKK => ?_) AllReadyH.nil
            refine step_call2 (by rfl) 29 _ _ _ (by rfl) _ _ (by rfl) (by rfl) (fun _ _ => rfl) _ (HPL.out x0) (some 66) rfl ?_
            rintro e x1 ⟨rfl, hb⟩
            refine ⟨_, rfl, ?_⟩
            have HBx1 := Lib.hid (HBd.out.trans (hb.mono HBd.out.size))
            have HRx1 := Lib.hid (HRd.out.below hb)
            clear hb
            refine hKK.out _ _ ?_ (fun hHeld => ?_)
            · exact HRx1.out
            clear hKK KK
            simp only [Act.put, List.setIfInBounds_toArray, List.set_cons_zero, List.set_cons_succ]
            refine wpAnyH_ready (rs := [14]) (by kernel_rfl) (by simp) ?_
            refine AllReadyH.cons rfl (fun KK hKK => ?_) AllReadyH.nil
            refine step_call2 (by rfl) 29 _ _ _ (by rfl) _ _ (by rfl) (by rfl) (fun _ _ => rfl) _ (HPB.out x1) (some 73) rfl ?_
            rintro e x2 ⟨rfl, hb⟩
            refine ⟨_, rfl, ?_⟩
            have HBx2 := Lib.hid (HBx1.out.trans (hb.mono HBx1.out.size))
            have HRx2 := Lib.hid (HRx1.out.below hb)
            clear hb
            refine hKK.out _ _ ?_ (fun hHeld => ?_)
            · exact HRx2.out
            clear hKK KK
            simp only [Act.put, List.setIfInBounds_toArray, List.set_cons_zero, List.set_cons_succ]
            refine takeH (i := 15) (v := ?_) rfl (by kernel_rfl) (by kernel_rfl) (by kernel_rfl) (fun _ _ _ h => h) (some 74) rfl (Or.inl ⟨by rfl, ?_⟩) (by assumption) ?_
            rotate_left 1
            · intro wz hSw
              go_simp
              try with_reducible rfl
            simp only [Act.put, List.setIfInBounds_toArray, List.set_cons_zero, List.set_cons_succ]
            refine wpAnyH_ready (rs := [16]) (by kernel_rfl) (by simp) ?_
            refine AllReadyH.cons rfl (fun KK hKK => ?_) AllReadyH.nil
            refine step_call1 (by rfl) 26 _ _ (by rfl) _ (by rfl) (fun _ _ => rfl) _ (HQ.out x2) (some 75) rfl ?_
            rintro e x3 ⟨rfl, hb⟩
            refine ⟨_, rfl, ?_⟩
            have HBx3 := Lib.hid (HBx2.out.trans (hb.mono HBx2.out.size))
            have HRx3 := Lib.hid (HRx2.out.below hb)
            clear hb
            refine hKK.out _ _ ?_ (fun hHeld => ?_)
            · exact HRx3.out
            clear hKK KK
            simp only [Act.put, List.setIfInBounds_toArray, List.set_cons_zero, List.set_cons_succ]
            refine takeH (i := 17) (v := ?_) rfl (by kernel_rfl) (by kernel_rfl) (by kernel_rfl) (fun _ _ _ h => h) (some 76) rfl (Or.inl ⟨by rfl, ?_⟩) (by assumption) ?_
            rotate_left 1
            · intro wz hSw
              go_simp
              try with_reducible rfl
            simp only [Act.put, List.setIfInBounds_toArray, List.set_cons_zero, List.set_cons_succ]
            rw [HRK.out]
            refine takeH (i := 18) (v := ?_) rfl (by kernel_rfl) (by kernel_rfl) (by kernel_rfl) (fun _ _ _ h => h) (some 77) rfl (Or.inl ⟨by rfl, ?_⟩) (by assumption) ?_
            rotate_left 1
            · intro wz hSw
              go_simp
              try with_reducible rfl
            simp only [Act.put, List.setIfInBounds_toArray, List.set_cons_zero, List.set_cons_succ]
            refine takeH (i := 19) (v := ?_) rfl (by kernel_rfl) (by kernel_rfl) (by kernel_rfl) (fun _ _ _ h => h) (some 4) rfl (Or.inl ⟨by rfl, ?_⟩) (by assumption) ?_
            rotate_left 1
            · intro wz hSw
              go_simp
              try with_reducible rfl
            simp only [Act.put, List.setIfInBounds_toArray, List.set_cons_zero, List.set_cons_succ]
            refine wpAnyH_done (by kernel_rfl) ?_ _
            exact HSH x3 ⟨HBx3.out, HRx3.out⟩
          rintro v2 ⟨hB2, hR2⟩
          clear HB HR
          have HB := Lib.hid hB2; have HR := Lib.hid hR2
          clear hB2 hR2
          go_wp2_with (fail)
          go_roundw
          case rel => exact ⟨k + 1, by omega, by rw [HNX.out], by go_num, HB, HR, HG1⟩
          case measure => simp [intOf]; omega
      · have HKM := Lib.hid (show k = n by omega)
        have HV := Lib.hid (show unX l = some (T ++ rowsR (l.take k)) by
          unfold unX
          rw [if_pos ⟨by have := HLN.out; omega, List.all_eq_true.2 fun y hy => by
            obtain ⟨j, hj⟩ := List.getElem?_of_mem hy
            exact HJ.out j (by have := (List.getElem?_eq_some_iff.1 hj).1; have := HLN.out; omega) y hj⟩, HTH.out, HKM.out, HLN.out, List.take_length])
        generalize T ++ rowsR (l.take k) = tk at *
        go_wp2_with (fail)
        go_ret2
        exact ⟨by rw [HV.out]; rfl, HB.out⟩
  · have q : (16 : Int) < (l.length : Int) := by omega
    have e : unX l = none := if_neg fun h => h16 h.1
    rw [e]
    clear h16 hn e
    have HB := Lib.hid (Below.refl w.heap.size w)
    generalize l.length = n at *
    clear hl
    go_enter Try.func17, Try.ntmps17
    go_wp2_with (fail)
    go_ret2
    exact ⟨rfl, HB.out⟩
end Go.Proofs.Ytgncllhhajjnlaa
