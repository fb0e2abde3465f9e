/- The code's Unmap: which ranges are wrong, and the list of the others. -/
import Derived.Test.YtgncllhhajjnlaaInR
namespace Go.Proofs.Ytgncllhhajjnlaa
open Go.RowKit
section
variable {P : Program} {ops : Array Oper} {S : World → Prop} {o : Oper} {a : Act} {w : World} {K : Act → World → Prop} {Q : Exit → Act → World → Prop} {E : Prop}
theorem step_enter (hw : Region.wanted o (yielded ops a.tmps) = true) (f : Nat) (args : Array Value) (hr : (execOp a.eval o).run P w = .ok (.enter f args) w) (post : Ending → World → Prop) (hc : Calls P f args w post) (d0 : Option Tmp) (hd0 : o.dst = d0) (h : ∀ e w', post e w' → ∃ v, e = .returned v ∧ K (a.put d0 v) w') :
    if Region.wanted o (yielded ops a.tmps) = true then Oper.wp P o a w K Q else E := by
  subst hd0
  rw [if_pos hw]
  unfold Oper.wp
  rw [hr, Oper.upon_enter]
  refine hc.mono ?_
  intro e w' hp
  obtain ⟨v, rfl, hk⟩ := h e w' hp
  exact hk
theorem step_append (hw : Region.wanted o (yielded ops a.tmps) = true) (s x : Operand) (t1 t2 : TypeId) (ho : o.op = .call { callee := .builtin .append, args := #[s, x], argTypes := #[t1, t2] })
    (vs vx v' : Value) (hs : a.eval s = vs) (hx : a.eval x = vx) (ty : TypeId) (hty : o.type = ty) (w' : World) (hr : (Builtin.append_ #[t1, t2] ty #[vs, vx]).run P w = .ok v' w') (d0 : Option Tmp) (hd0 : o.dst = d0) (h : K (a.put d0 v') w') :
    if Region.wanted o (yielded ops a.tmps) = true then Oper.wp P o a w K Q else E := by
  subst hd0 hty
  rw [if_pos hw]
  unfold Oper.wp execOp
  simp only [ho, resolve, invoke, builtin, Sem.run_bind, Sem.run_pure, Result.andThen_ok, List.map_toArray, List.map_cons, List.map_nil, hs, hx, hr]
  exact h
end
abbrev rgC (x : Rn) : Array Value := #[.int .i64 x.l, .int .i64 x.b]
theorem lbaAt_any (k : Nat) (hk : k ≤ 1000) (w : World) : Calls Try.prog 32 #[.int .i64 (k : Int)] w fun e w' => e = .returned (.int .i64 ((8 + 16 * k : Nat) : Int)) ∧ w' = w := by
  obtain ⟨J, hJ⟩ : ∃ J : Nat, J = 16 * k := ⟨_, rfl⟩
  obtain ⟨R, hR⟩ : ∃ R : Nat, R = 8 + 16 * k := ⟨_, rfl⟩
  have e1 : IntKind.i64.wrap ((k : Int) * 16) = (J : Int) := by rw [IntWalk.i64_in _ (by omega)]; omega
  have e2 : IntKind.i64.wrap (8 + (J : Int)) = (R : Int) := by rw [IntWalk.i64_in _ (by omega)]; omega
  rw [← hR]
  clear hJ hR hk
  go_enter Try.func32, Try.ntmps32
  go_wp2_with (fail)
  go_ret
  exact ⟨rfl, rfl⟩
theorem blocksAt_any (k : Nat) (hk : k ≤ 1000) (w : World) : Calls Try.prog 33 #[.int .i64 (k : Int)] w fun e w' => e = .returned (.int .i64 ((16 + 16 * k : Nat) : Int)) ∧ w' = w := by
  have HL := Lib.hid (lbaAt_any k hk w)
  obtain ⟨J, hJ⟩ : ∃ J : Nat, J = 8 + 16 * k := ⟨_, rfl⟩
  obtain ⟨R, hR⟩ : ∃ R : Nat, R = 16 + 16 * k := ⟨_, rfl⟩
  have e2 : IntKind.i64.wrap ((J : Int) + 8) = (R : Int) := by rw [IntWalk.i64_in _ (by omega)]; omega
  rw [← hJ] at HL
  rw [← hR]
  clear hJ hR hk
  go_enter Try.func33, Try.ntmps33
  go_wp2_with (fail)
  refine HL.out.mono ?_; rintro e v1 ⟨rfl, rfl⟩
  go_wp2_with (fail)
  go_ret
  exact ⟨rfl, rfl⟩
set_option maxRecDepth 100000 in
set_option maxHeartbeats 4000000 in
theorem wrong_a (x : Rn) (h0 : x.l < 0) (w : World) : Calls Try.prog 31 #[.agg (rgC x)] w fun e w' => e = .returned (.bool true) ∧ Below w.heap.size w w' := by
  have HB0 := Lib.hid ((Below.refl w.heap.size w).alloc (Nat.le_refl _) (.cells (rgC x) 58))
  have HX0 := Lib.hid (Blk.new w 58 (rgC x))
  go_enter Try.func31, Try.ntmps31
  go_upto_region 1 with (fail)
  change Code.wp _ _ _ _ (w.alloc (.cells (rgC x) 58))
  generalize w.alloc (.cells (rgC x) 58) = v0 at *
  obtain ⟨g, hg⟩ : ∃ g, g = w.heap.size := ⟨_, rfl⟩
  rw [← hg] at HX0 ⊢
  clear hg
  have c0 : v0.cell? ⟨g, 0, none⟩ = some (.int .i64 x.l) := HX0.out.cell 0
  have c1 : v0.cell? ⟨g, 1, none⟩ = some (.int .i64 x.b) := HX0.out.cell 1
  go_wp2_with (fail)
  go_ret
  exact ⟨rfl, HB0.out⟩
set_option maxRecDepth 100000 in
set_option maxHeartbeats 4000000 in
theorem wrong_b (x : Rn) (h0 : ¬ x.l < 0) (h1 : 2147483648 ≤ x.l) (w : World) : Calls Try.prog 31 #[.agg (rgC x)] w fun e w' => e = .returned (.bool true) ∧ Below w.heap.size w w' := by
  have HB0 := Lib.hid ((Below.refl w.heap.size w).alloc (Nat.le_refl _) (.cells (rgC x) 58))
  have HX0 := Lib.hid (Blk.new w 58 (rgC x))
  go_enter Try.func31, Try.ntmps31
  go_upto_region 1 with (fail)
  change Code.wp _ _ _ _ (w.alloc (.cells (rgC x) 58))
  generalize w.alloc (.cells (rgC x) 58) = v0 at *
  obtain ⟨g, hg⟩ : ∃ g, g = w.heap.size := ⟨_, rfl⟩
  rw [← hg] at HX0 ⊢
  clear hg
  have c0 : v0.cell? ⟨g, 0, none⟩ = some (.int .i64 x.l) := HX0.out.cell 0
  have c1 : v0.cell? ⟨g, 1, none⟩ = some (.int .i64 x.b) := HX0.out.cell 1
  go_wp2_with (fail)
  go_ret
  exact ⟨rfl, HB0.out⟩
set_option maxRecDepth 100000 in
set_option maxHeartbeats 4000000 in
theorem wrong_c (x : Rn) (h0 : ¬ x.l < 0) (h1 : ¬ 2147483648 ≤ x.l) (h2 : x.b < 0) (w : World) : Calls Try.prog 31 #[.agg (rgC x)] w fun e w' => e = .returned (.bool true) ∧ Below w.heap.size w w' := by
  have HB0 := Lib.hid ((Below.refl w.heap.size w).alloc (Nat.le_refl _) (.cells (rgC x) 58))
  have HX0 := Lib.hid (Blk.new w 58 (rgC x))
  go_enter Try.func31, Try.ntmps31
  go_upto_region 1 with (fail)
  change Code.wp _ _ _ _ (w.alloc (.cells (rgC x) 58))
  generalize w.alloc (.cells (rgC x) 58) = v0 at *
  obtain ⟨g, hg⟩ : ∃ g, g = w.heap.size := ⟨_, rfl⟩
  rw [← hg] at HX0 ⊢
  clear hg
  have c0 : v0.cell? ⟨g, 0, none⟩ = some (.int .i64 x.l) := HX0.out.cell 0
  have c1 : v0.cell? ⟨g, 1, none⟩ = some (.int .i64 x.b) := HX0.out.cell 1
  go_wp2_with (fail)
  go_ret
  exact ⟨rfl, HB0.out⟩
set_option maxRecDepth 100000 in
set_option maxHeartbeats 4000000 in
theorem wrong_d (x : Rn) (h0 : ¬ x.l < 0) (h1 : ¬ 2147483648 ≤ x.l) (h2 : ¬ x.b < 0) (h3 : 4294967296 ≤ x.b) (w : World) : Calls Try.prog 31 #[.agg (rgC x)] w fun e w' => e = .returned (.bool true) ∧ Below w.heap.size w w' := by
  have HB0 := Lib.hid ((Below.refl w.heap.size w).alloc (Nat.le_refl _) (.cells (rgC x) 58))
  have HX0 := Lib.hid (Blk.new w 58 (rgC x))
  go_enter Try.func31, Try.ntmps31
  go_upto_region 1 with (fail)
  change Code.wp _ _ _ _ (w.alloc (.cells (rgC x) 58))
  generalize w.alloc (.cells (rgC x) 58) = v0 at *
  obtain ⟨g, hg⟩ : ∃ g, g = w.heap.size := ⟨_, rfl⟩
  rw [← hg] at HX0 ⊢
  clear hg
  have c0 : v0.cell? ⟨g, 0, none⟩ = some (.int .i64 x.l) := HX0.out.cell 0
  have c1 : v0.cell? ⟨g, 1, none⟩ = some (.int .i64 x.b) := HX0.out.cell 1
  go_wp2_with (fail)
  go_ret
  exact ⟨rfl, HB0.out⟩
set_option maxRecDepth 100000 in
set_option maxHeartbeats 4000000 in
theorem wrong_e (x : Rn) (h0 : ¬ x.l < 0) (h1 : ¬ 2147483648 ≤ x.l) (h2 : ¬ x.b < 0) (h3 : ¬ 4294967296 ≤ x.b) (w : World) : Calls Try.prog 31 #[.agg (rgC x)] w fun e w' => e = .returned (.bool false) ∧ Below w.heap.size w w' := by
  have HB0 := Lib.hid ((Below.refl w.heap.size w).alloc (Nat.le_refl _) (.cells (rgC x) 58))
  have HX0 := Lib.hid (Blk.new w 58 (rgC x))
  go_enter Try.func31, Try.ntmps31
  go_upto_region 1 with (fail)
  change Code.wp _ _ _ _ (w.alloc (.cells (rgC x) 58))
  generalize w.alloc (.cells (rgC x) 58) = v0 at *
  obtain ⟨g, hg⟩ : ∃ g, g = w.heap.size := ⟨_, rfl⟩
  rw [← hg] at HX0 ⊢
  clear hg
  have c0 : v0.cell? ⟨g, 0, none⟩ = some (.int .i64 x.l) := HX0.out.cell 0
  have c1 : v0.cell? ⟨g, 1, none⟩ = some (.int .i64 x.b) := HX0.out.cell 1
  go_wp2_with (fail)
  go_ret
  exact ⟨rfl, HB0.out⟩
theorem wrong_any (x : Rn) (w : World) : Calls Try.prog 31 #[.agg (rgC x)] w fun e w' => e = .returned (.bool (!goodR x)) ∧ Below w.heap.size w w' := by
  unfold goodR
  by_cases h0 : x.l < 0
  · rw [decide_eq_false (by omega)]; exact wrong_a x h0 w
  · by_cases h1 : 2147483648 ≤ x.l
    · rw [decide_eq_false (by omega)]; exact wrong_b x h0 h1 w
    · by_cases h2 : x.b < 0
      · rw [decide_eq_false (by omega)]; exact wrong_c x h0 h1 h2 w
      · by_cases h3 : 4294967296 ≤ x.b
        · rw [decide_eq_false (by omega)]; exact wrong_d x h0 h1 h2 h3 w
        · rw [decide_eq_true (by omega)]; exact wrong_e x h0 h1 h2 h3 w
theorem all_to {l : List Rn} (h : ∀ j, j < l.length → ∀ y, l[j]? = some y → goodR y = true) : l.all goodR = true := by
  rw [List.all_eq_true]
  intro x hx
  obtain ⟨j, hj⟩ := List.getElem?_of_mem hx
  exact h j (List.getElem?_eq_some_iff.1 hj).1 x hj
set_option maxRecDepth 100000 in
set_option maxHeartbeats 4000000 in
theorem index_any (A : Option Addr) (c : Nat) (l : List Rn) (w : World) (hl : Rngs w A l) (hn : l.length ≤ 100000) : Calls Try.prog 39 #[.slice A l.length c, .func (.func 31) #[] #[]] w fun e w' => (∃ r : Int, e = .returned (.int .i64 r) ∧ decide (0 ≤ r) = !(l.all goodR)) ∧ Below w.heap.size w w' := by
  obtain ⟨n, hln⟩ : ∃ n, n = l.length := ⟨_, rfl⟩
  have HLN := Lib.hid hln
  have HRS := Lib.hid hl
  have HNN := Lib.hid hn
  rw [← hln]
  have HB0 := Lib.hid (Below.refl w.heap.size w)
  clear hln hl hn
  go_enter Try.func39, Try.ntmps39
  go_wp2_with (fail)
  go_loopw [8] (fun i wr => ∃ k : Nat, k ≤ n ∧ i = .int .i64 k ∧ Hid (Below w.heap.size w wr) ∧ Hid (∀ j, j < k → ∀ y, l[j]? = some y → goodR y = true)) (fun i _ => n - (intOf i).toNat)
  case atStart => exact ⟨0, by omega, rfl, HB0, Lib.hid (fun j h => by omega)⟩
  case round =>
    clear HB0
    obtain ⟨k, hk, rfl, HB, HJ⟩ := hrel
    by_cases hkn : (k : Int) < (n : Int)
    · obtain ⟨b, o, x, rfl, hx, hwf, d0, d1⟩ := (HRS.out.below HB.out).at_ (j := k) (by have := HLN.out; omega)
      have HXK := Lib.hid hx
      have HWR := Lib.hid (fun v => wrong_any x v)
      have HWW := Lib.hid (show IntKind.i64.wrap ((k : Int) + 1) = ((k + 1 : Nat) : Int) by rw [IntWalk.i64_in _ (by have := HNN.out; have := HLN.out; omega)]; omega)
      have hwk := HWW.out
      have hk0 : (0 : Int) ≤ (k : Int) := by omega
      clear hx hwf
      go_wp2_with (fail)
      refine (HWR.out wr).mono ?_; rintro e v1 ⟨rfl, hb⟩
      replace HB := Lib.hid (HB.out.trans (hb.mono HB.out.size))
      clear hb d0 d1
      cases hg : goodR x with
      | false =>
        have HV := Lib.hid (show l.all goodR = false from by
          cases h : l.all goodR with
          | false => rfl
          | true => exact absurd ((List.all_eq_true.1 h) x (List.mem_of_getElem? HXK.out)) (by rw [hg]; decide))
        have hg2 : (!false) = true := rfl
        clear hg
        go_wp2_with (fail)
        go_ret
        exact ⟨⟨_, rfl, by rw [HV.out, decide_eq_true hk0]; rfl⟩, HB.out⟩
      | true =>
        have HJ1 := Lib.hid (show ∀ j, j < k + 1 → ∀ y, l[j]? = some y → goodR y = true from fun j hj y hy => by
          by_cases h : j = k
          · subst h
            obtain rfl := Option.some.inj (HXK.out.symm.trans hy)
            exact hg
          · exact HJ.out j (by omega) y hy)
        clear hg
        go_wp2_with (fail)
        go_roundw
        case rel => exact ⟨k + 1, by omega, by go_num, HB, HJ1⟩
        case measure => simp [intOf]; omega
    · obtain rfl : k = n := by omega
      have HV := Lib.hid (show l.all goodR = true from all_to (fun j hj => HJ.out j (by have := HLN.out; omega)))
      go_wp2_with (fail)
      go_ret
      exact ⟨⟨_, rfl, by rw [HV.out]; rfl⟩, HB.out⟩
theorem contains_any (A : Option Addr) (c : Nat) (l : List Rn) (w : World) (hl : Rngs w A l) (hn : l.length ≤ 100000) : Calls Try.prog 30 #[.slice A l.length c, .func (.func 31) #[] #[]] w fun e w' => e = .returned (.bool (!(l.all goodR))) ∧ Below w.heap.size w w' := by
  have HI := Lib.hid (index_any A c l w hl hn)
  clear hl hn
  generalize l.length = n at *
  generalize l.all goodR = B at *
  go_enter Try.func30, Try.ntmps30
  go_wp2_with (fail)
  refine HI.out.mono ?_; rintro e v1 ⟨⟨r, rfl, hr⟩, hb⟩
  have HB := Lib.hid hb; clear hb
  go_wp2_with (fail)
  go_ret
  exact ⟨rfl, HB.out⟩
set_option maxRecDepth 100000 in
theorem unmap_many (A : Option Addr) (c n : Nat) (hn : 16 < n) (w : World) : Calls Try.prog 16 #[.slice A n c] w fun e w' => e = .returned (.tuple #[.string ⟨#[]⟩, .int .i64 180]) ∧ Below w.heap.size w w' := by
  have q : (16 : Int) < (n : Int) := by omega
  clear hn
  go_enter Try.func16, Try.ntmps16
  go_wp2_with (fail)
  go_ret2
  exact ⟨rfl, Below.refl _ _⟩
set_option maxRecDepth 100000 in
theorem unmap_bad (A : Option Addr) (c : Nat) (l : List Rn) (w : World) (hl : Rngs w A l) (hn : l.length ≤ 16) (hb : l.all goodR = false) : Calls Try.prog 16 #[.slice A l.length c] w fun e w' => e = .returned (.tuple #[.string ⟨#[]⟩, .int .i64 180]) ∧ Below w.heap.size w w' := by
  have HI := Lib.hid (contains_any A c l w hl (by omega))
  rw [hb] at HI
  have q : ¬ (16 : Int) < (l.length : Int) := by omega
  clear hl hn hb
  generalize l.length = n at *
  go_enter Try.func16, Try.ntmps16
  go_wp2_with (fail)
  refine HI.out.mono ?_; rintro e v1 ⟨rfl, hb⟩
  have HB := Lib.hid hb; clear hb
  go_wp2_with (fail)
  go_ret2
  exact ⟨rfl, HB.out⟩
set_option maxRecDepth 100000 in
set_option maxHeartbeats 4000000 in
theorem unmap_good (A : Option Addr) (c : Nat) (l : List Rn) (w : World) (hl : Rngs w A l) (hn : l.length ≤ 16) (hgd : l.all goodR = true) : Calls Try.prog 16 #[.slice A l.length c] w fun e w' => e = .returned (.tuple #[.string (headR l.length ++ rowsR l), .int .i64 0]) ∧ Below w.heap.size w w' := by
  have HI := Lib.hid (contains_any A c l w hl (by omega))
  rw [hgd] at HI
  have HGD := Lib.hid (show ∀ (k : Nat) (x : Rn), l[k]? = some x → 0 ≤ x.l ∧ x.l < 2147483648 ∧ 0 ≤ x.b ∧ x.b < 4294967296 from fun k x hx => of_decide_eq_true ((List.all_eq_true.1 hgd) x (List.mem_of_getElem? hx)))
  have HRS := Lib.hid hl
  obtain ⟨n, hln⟩ : ∃ n, n = l.length := ⟨_, rfl⟩
  have HLN := Lib.hid hln
  have HN16 := Lib.hid (show n ≤ 16 by omega)
  have q : ¬ (16 : Int) < (n : Int) := by omega
  obtain ⟨x1, hx1⟩ : ∃ x, x = putHi (6 + 16 * l.length) ((2 : Nat) : Int) := ⟨_, rfl⟩
  obtain ⟨x2, hx2⟩ : ∃ x, x = putHi (16 * l.length) ((2 : Nat) : Int) := ⟨_, rfl⟩
  obtain ⟨J, hJ⟩ : ∃ J : Nat, J = 16 * n := ⟨_, rfl⟩
  obtain ⟨J6, hJ6⟩ : ∃ J : Nat, J = 6 + 16 * n := ⟨_, rfl⟩
  obtain ⟨Z, hZ⟩ : ∃ J : Nat, J = 8 + 16 * n := ⟨_, rfl⟩
  have HN1 : Hid (∀ v, Calls Try.prog 28 #[.int .i64 0, .int .i64 2, .int .i64 (J6 : Int)] v fun e w' => e = .returned (.agg #[.int .i64 0, .string x1]) ∧ Below v.heap.size v w') := Lib.hid (fun v => by rw [hx1, hJ6, hln]; exact number_any 0 2 (6 + 16 * l.length) (by omega) v)
  have HN2 : Hid (∀ v, Calls Try.prog 28 #[.int .i64 2, .int .i64 2, .int .i64 (J : Int)] v fun e w' => e = .returned (.agg #[.int .i64 2, .string x2]) ∧ Below v.heap.size v w') := Lib.hid (fun v => by rw [hx2, hJ, hln]; exact number_any 2 2 (16 * l.length) (by omega) v)
  have e1 : IntKind.i64.wrap ((n : Int) * 16) = (J : Int) := by rw [IntWalk.i64_in _ (by omega)]; omega
  have e2 : IntKind.i64.wrap (8 + (J : Int)) = (Z : Int) := by rw [IntWalk.i64_in _ (by omega)]; omega
  have e3 : IntKind.i64.wrap ((Z : Int) - 2) = (J6 : Int) := by rw [IntWalk.i64_in _ (by omega)]; omega
  have HX0 := Lib.hid (show pcs (ptsR l 0) = [.int .i64 0, .string x1, .int .i64 2, .string x2] by rw [hx1, hx2]; rfl)
  have HC : Hid (∀ (g c : Nat) (v : World), v.ownsRow w.heap.size 50 2 (.slice (some ⟨g, 0, none⟩) (2 * n + 2) c) (2 * n + 2) (pcs (ptsR l n)) → Calls Try.prog 27 #[.int .i64 (Z : Int), .slice (some ⟨g, 0, none⟩) (2 * n + 2) c] v fun e w' => e = .returned (.string (headR l.length ++ rowsR l)) ∧ Below v.heap.size v w') := Lib.hid (fun g c v h => by
    have h1 := compose_any Z (2 * n + 2) c g w.heap.size (ptsR l n) v (by omega) (by rw [hln]; exact ptsR_length l l.length (Nat.le_refl _)) (by omega) (by omega) (fun p hp => by rw [hln] at hp; rw [hZ, hln]; exact ptsR_ok l l.length (Nat.le_refl _) p hp) h
    have h2 := ranges_cm l l.length (Nat.le_refl _)
    rw [Nat.sub_self, List.take_length] at h2
    have h3 : cmS Z (ptsR l n) = headR l.length ++ rowsR l := by
      rw [hZ, hln]
      exact h2.trans (ByteArray.append_empty (b := _))
    rw [h3] at h1
    exact h1)
  rw [← hln] at HI HC ⊢
  obtain ⟨i0, hi0, hz0, hz1, hz2⟩ := info_parts infoPt
  generalize headR n ++ rowsR l = R at *
  clear hl hn hgd hln hx1 hx2 hJ hJ6 hZ
  go_enter Try.func16, Try.ntmps16
  go_wp2_with (fail)
  refine HI.out.mono ?_; rintro e v1 ⟨rfl, hb⟩
  have HB1 := Lib.hid hb; clear hb
  go_wp2_with (fail)
  refine (HN1.out _).mono ?_; rintro e v2 ⟨rfl, hb⟩
  have HB2 := Lib.hid (HB1.out.trans (hb.mono HB1.out.size)); clear hb
  go_wp2_with (fail)
  refine (HN2.out _).mono ?_; rintro e v3 ⟨rfl, hb⟩
  have HB3 := Lib.hid (HB2.out.trans (hb.mono HB2.out.size)); clear hb
  have HB := Lib.hid (HB3.out.alloc HB3.out.size (.cells #[.int .i64 0, .string x1, .int .i64 2, .string x2] 50))
  have HOW : Hid ((v3.alloc (.cells #[.int .i64 0, .string x1, .int .i64 2, .string x2] 50)).ownsRow w.heap.size 50 2 (.slice (some ⟨v3.heap.size, 0, none⟩) 2 2) 2 (pcs (ptsR l 0))) := Lib.hid (by rw [HX0.out]; exact World.ownsRow_lit v3 #[.int .i64 0, .string x1, .int .i64 2, .string x2] 2 HB3.out.size (by decide) rfl)
  go_wp2_with (fail)
  go_loopw [5, 29] (fun v i wr => ∃ k : Nat, k ≤ n ∧ i = .int .i64 k ∧ Hid (wr.ownsRow w.heap.size 50 2 v (2 * k + 2) (pcs (ptsR l k))) ∧ Hid (Below w.heap.size w wr)) (fun _ i _ => n - (intOf i).toNat)
  case atStart => exact ⟨0, by omega, rfl, HOW, HB⟩
  case round =>
    clear HB HOW HB1 HB2 HB3 HX0
    obtain ⟨k, hk, rfl, HOW, HB⟩ := hrel
    obtain ⟨A1, c1, rfl⟩ := own_form HOW.out
    clear e1 e2 e3
    by_cases hkn : (k : Int) < (n : Int)
    · obtain ⟨b, o, x, rfl, hx, hwf, d0, d1⟩ := (HRS.out.below HB.out).at_ (j := k) (by have := HLN.out; omega)
      obtain ⟨g0, g1, g2, g3⟩ := HGD.out k x hx
      obtain ⟨ma, hma⟩ : ∃ m, m = putHi x.l.toNat ((8 : Nat) : Int) := ⟨_, rfl⟩
      obtain ⟨mb, hmb⟩ : ∃ m, m = putHi x.b.toNat ((4 : Nat) : Int) := ⟨_, rfl⟩
      have hk16 : k ≤ 16 := by have := HN16.out; omega
      have HPT := Lib.hid (show ptsR l (k + 1) = ptsR l k ++ [⟨8 + 16 * k, ma⟩, ⟨16 + 16 * k, mb⟩] by rw [ptsR_step hx, hma, hmb]; rfl)
      have HLA := Lib.hid (fun v => lbaAt_any k (by omega) v)
      have HBA := Lib.hid (fun v => blocksAt_any k (by omega) v)
      have HNA : Hid (∀ v, Calls Try.prog 28 #[.int .i64 ((8 + 16 * k : Nat) : Int), .int .i64 8, .int .i64 x.l] v fun e w' => e = .returned (.agg #[.int .i64 ((8 + 16 * k : Nat) : Int), .string ma]) ∧ Below v.heap.size v w') := Lib.hid (fun v => by have h := number_any (8 + 16 * k) 8 x.l.toNat (by omega) v; rw [Int.toNat_of_nonneg g0, ← hma] at h; exact h)
      have HNB : Hid (∀ v, Calls Try.prog 28 #[.int .i64 ((16 + 16 * k : Nat) : Int), .int .i64 4, .int .i64 x.b] v fun e w' => e = .returned (.agg #[.int .i64 ((16 + 16 * k : Nat) : Int), .string mb]) ∧ Below v.heap.size v w') := Lib.hid (fun v => by have h := number_any (16 + 16 * k) 4 x.b.toNat (by omega) v; rw [Int.toNat_of_nonneg g2, ← hmb] at h; exact h)
      generalize 8 + 16 * k = Ja at *
      generalize 16 + 16 * k = Jb at *
      have HM1 := Lib.hid (show 2 * k + 2 + 2 ≤ maxLen by unfold maxLen; omega)
      have HM2 := Lib.hid (show (2 * k + 2 + 2) * 24 ≤ 140737488355328 by omega)
      have HWW := Lib.hid (show IntKind.i64.wrap ((k : Int) + 1) = ((k + 1 : Nat) : Int) by rw [IntWalk.i64_in _ (by omega)]; omega)
      clear hx hwf g0 g1 g2 g3 hma hmb
      go_upto_region 8 with (fail)
      change Code.wp _ _ _ _ (wr.alloc (.cells (rgC x) 58))
      have hal := (Below.refl wr.heap.size wr).alloc (Nat.le_refl _) (.cells (rgC x) 58)
      have HB1 := Lib.hid (HB.out.trans (hal.mono HB.out.size)); have HO1 := Lib.hid (own_belowP HOW.out hal)
      have HX1 := Lib.hid (Blk.new wr 58 (rgC x))
      obtain ⟨p, hp⟩ : ∃ p, p = wr.heap.size := ⟨_, rfl⟩
      rw [← hp] at HX1 ⊢
      clear hp hal d0 d1 HB HOW
      generalize wr.alloc (.cells (rgC x) 58) = v1 at *
      refine wp_region_held_drew (S := fun v => Blk v p 58 (rgC x)) (by kernel_rfl) ?_ (fun hHeld => ?_)
      · exact HX1.out.drew
      have HB := Lib.hid HB1.out.drew; have HX := Lib.hid HX1.out.drew; have HO := Lib.hid (own_keep (w' := v1.drew) HO1.out (fun g _ => rfl))
      generalize v1.drew = x0 at *
      clear HB1 HX1 HO1
      refine takeH (i := 0) (v := ?_) rfl (by kernel_rfl) (by kernel_rfl) (by kernel_rfl) (fun _ _ _ h => h) (some 34) rfl (Or.inl ⟨by rfl, ?_⟩) (by assumption) ?_
      rotate_left 1
      · intro wz hSw
        go_simp
        try with_reducible rfl
      simp only [Act.put, List.setIfInBounds_toArray, List.set_cons_zero, List.set_cons_succ]
      refine takeH (i := 1) (v := ?_) rfl (by kernel_rfl) (by kernel_rfl) (by kernel_rfl) (fun _ _ _ h => h) (some 35) rfl (Or.inl ⟨by rfl, ?_⟩) (by assumption) ?_
      rotate_left 1
      · intro wz hSw
        go_simp
        try with_reducible rfl
      simp only [Act.put, List.setIfInBounds_toArray, List.set_cons_zero, List.set_cons_succ]
      refine takeH (i := 3) (v := ?_) rfl (by kernel_rfl) (by kernel_rfl) (by kernel_rfl) (fun _ _ _ h => h) (some 37) rfl (Or.inl ⟨by rfl, ?_⟩) (by assumption) ?_
      rotate_left 1
      · intro wz hSw
        go_simp
        try with_reducible rfl
      simp only [Act.put, List.setIfInBounds_toArray, List.set_cons_zero, List.set_cons_succ]
      refine takeH (i := 4) (v := ?_) rfl (by kernel_rfl) (by kernel_rfl) (by kernel_rfl) (fun _ _ _ h => h) (some 38) rfl (Or.inl ⟨by rfl, ?_⟩) (by assumption) ?_
      rotate_left 1
      · intro wz hSw
        have c0 : wz.cell? ⟨p, 0, none⟩ = some (.int .i64 x.l) := hSw.cell 0
        have c1 : wz.cell? ⟨p, 1, none⟩ = some (.int .i64 x.b) := hSw.cell 1
        go_simp
        try with_reducible rfl
      simp only [Act.put, List.setIfInBounds_toArray, List.set_cons_zero, List.set_cons_succ]
      refine takeH (i := 6) (v := ?_) rfl (by kernel_rfl) (by kernel_rfl) (by kernel_rfl) (fun _ _ _ h => h) (some 40) rfl (Or.inl ⟨by rfl, ?_⟩) (by assumption) ?_
      rotate_left 1
      · intro wz hSw
        go_simp
        try with_reducible rfl
      simp only [Act.put, List.setIfInBounds_toArray, List.set_cons_zero, List.set_cons_succ]
      refine takeH (i := 8) (v := ?_) rfl (by kernel_rfl) (by kernel_rfl) (by kernel_rfl) (fun _ _ _ h => h) (some 42) rfl (Or.inl ⟨by rfl, ?_⟩) (by assumption) ?_
      rotate_left 1
      · intro wz hSw
        go_simp
        try with_reducible rfl
      simp only [Act.put, List.setIfInBounds_toArray, List.set_cons_zero, List.set_cons_succ]
      refine takeH (i := 9) (v := ?_) rfl (by kernel_rfl) (by kernel_rfl) (by kernel_rfl) (fun _ _ _ h => h) (some 43) rfl (Or.inl ⟨by rfl, ?_⟩) (by assumption) ?_
      rotate_left 1
      · intro wz hSw
        have c0 : wz.cell? ⟨p, 0, none⟩ = some (.int .i64 x.l) := hSw.cell 0
        have c1 : wz.cell? ⟨p, 1, none⟩ = some (.int .i64 x.b) := hSw.cell 1
        go_simp
        try with_reducible rfl
      simp only [Act.put, List.setIfInBounds_toArray, List.set_cons_zero, List.set_cons_succ]
      refine wpAnyH_ready (rs := [2]) (by kernel_rfl) (by simp) ?_
      refine AllReadyH.cons rfl (fun KK hKK => ?_) AllReadyH.nil
      refine step_enter (by rfl) 32 _ (by go_simp) _ (HLA.out x0) (some 36) rfl ?_
      rintro e y ⟨rfl, rfl⟩
      refine ⟨_, rfl, ?_⟩
      refine hKK.out _ _ HX.out (fun hHeld => ?_)
      clear hKK KK
      simp only [Act.put, List.setIfInBounds_toArray, List.set_cons_zero, List.set_cons_succ]
      refine wpAnyH_ready (rs := [5]) (by kernel_rfl) (by simp) ?_
      refine AllReadyH.cons rfl (fun KK hKK => ?_) AllReadyH.nil
      refine step_enter (by rfl) 28 _ (by go_simp) _ (HNA.out _) (some 39) rfl ?_
      rintro e x1 ⟨rfl, hb⟩
      refine ⟨_, rfl, ?_⟩
      replace HB := Lib.hid (HB.out.trans (hb.mono HB.out.size)); replace HX := Lib.hid (HX.out.below hb HX.out.lt); replace HO := Lib.hid (own_belowP HO.out hb)
      clear hb
      refine hKK.out _ _ HX.out (fun hHeld => ?_)
      clear hKK KK
      simp only [Act.put, List.setIfInBounds_toArray, List.set_cons_zero, List.set_cons_succ]
      refine wpAnyH_ready (rs := [7]) (by kernel_rfl) (by simp) ?_
      refine AllReadyH.cons rfl (fun KK hKK => ?_) AllReadyH.nil
      refine step_enter (by rfl) 33 _ (by go_simp) _ (HBA.out x1) (some 41) rfl ?_
      rintro e y ⟨rfl, rfl⟩
      refine ⟨_, rfl, ?_⟩
      refine hKK.out _ _ HX.out (fun hHeld => ?_)
      clear hKK KK
      simp only [Act.put, List.setIfInBounds_toArray, List.set_cons_zero, List.set_cons_succ]
      refine wpAnyH_ready (rs := [10]) (by kernel_rfl) (by simp) ?_
      refine AllReadyH.cons rfl (fun KK hKK => ?_) AllReadyH.nil
      refine step_enter (by rfl) 28 _ (by go_simp) _ (HNB.out _) (some 44) rfl ?_
      rintro e x2 ⟨rfl, hb⟩
      refine ⟨_, rfl, ?_⟩
      replace HB := Lib.hid (HB.out.trans (hb.mono HB.out.size)); replace HX := Lib.hid (HX.out.below hb HX.out.lt); replace HO := Lib.hid (own_belowP HO.out hb)
      clear hb
      refine hKK.out _ _ HX.out (fun hHeld => ?_)
      clear hKK KK
      simp only [Act.put, List.setIfInBounds_toArray, List.set_cons_zero, List.set_cons_succ]
      refine wpAnyH_ready (rs := [11]) (by kernel_rfl) (by simp) ?_
      refine AllReadyH.cons rfl (fun KK hKK => ?_) AllReadyH.nil
      refine step_alloc (by rfl) (.slice (some ⟨x2.heap.size, 0, none⟩) 2 2) (x2.alloc (.cells #[.int .i64 (Ja : Int), .string ma, .int .i64 (Jb : Int), .string mb] 50)) (by go_simp) (some 45) rfl ?_
      have hal := (Below.refl x2.heap.size x2).alloc (Nat.le_refl _) (.cells #[.int .i64 (Ja : Int), .string ma, .int .i64 (Jb : Int), .string mb] 50)
      replace HX := Lib.hid (HX.out.below hal HX.out.lt); replace HO := Lib.hid (own_belowP HO.out hal)
      have HBA := Lib.hid (HB.out.trans (hal.mono HB.out.size))
      have HBS := Lib.hid (Nat.le_trans HB.out.size hal.size)
      have hcs := cells_of x2 #[.int .i64 (Ja : Int), .string ma, .int .i64 (Jb : Int), .string mb] 50 rfl
      refine hKK.out _ _ HX.out (fun hHeld => ?_)
      clear hKK KK hal HB
      simp only [Act.put, List.setIfInBounds_toArray, List.set_cons_zero, List.set_cons_succ]
      change wpAnyH _ _ _ _ _ _ _ _ (x2.alloc (.cells #[.int .i64 (Ja : Int), .string ma, .int .i64 (Jb : Int), .string mb] 50))
      generalize x2.alloc (.cells #[.int .i64 (Ja : Int), .string ma, .int .i64 (Jb : Int), .string mb] 50) = x3 at *
      obtain ⟨g9, hg9⟩ : ∃ g, g = x2.heap.size := ⟨_, rfl⟩
      rw [← hg9] at hcs ⊢
      clear hg9
      obtain ⟨v4, x4, hap, hown4, hg4, _, _⟩ := run_append_own_at (P := Try.prog) x3 w.heap.size 54 54 50 i0 _ 2 24 Try.underlying54 hi0 hz0 hz1 hz2 rfl (by decide) (.slice A1 (2 * k + 2) c1) (2 * k + 2) (pcs (ptsR l k)) HO.out ⟨g9, 0, none⟩ 2 2 (pcs [⟨Ja, ma⟩, ⟨Jb, mb⟩]) rfl hcs pcs_one HM1.out HM2.out HBS.out
      refine wpAnyH_ready (rs := [12]) (by kernel_rfl) (by simp) ?_
      refine AllReadyH.cons rfl (fun KK hKK => ?_) AllReadyH.nil
      refine step_append (by rfl) (.tmp 34) (.tmp 45) 54 54 (by rfl) (.slice A1 (2 * k + 2) c1) (.slice (some ⟨g9, 0, none⟩) 2 2) v4 (by rfl) (by rfl) 54 rfl x4 hap (some 46) rfl ?_
      have HX4 := Lib.hid (HX.out.grown hg4 (fun h => own_apart HO.out HX.out (by decide) h.symm))
      have HW4 := Lib.hid hown4
      have HB4 := Lib.hid (HBA.out.grown hg4 HBS.out (fun g hg => (HO.out.lt g hg).1))
      refine hKK.out _ _ HX4.out (fun hHeld => ?_)
      clear hKK KK hap hown4 hg4 hcs HX HO HBA
      simp only [Act.put, List.setIfInBounds_toArray, List.set_cons_zero, List.set_cons_succ]
      refine takeH (i := 13) (v := ?_) rfl (by kernel_rfl) (by kernel_rfl) (by kernel_rfl) (fun _ _ _ h => h) (some 5) rfl (Or.inl ⟨by rfl, ?_⟩) (by assumption) ?_
      rotate_left 1
      · intro wz hSw
        go_simp
        try with_reducible rfl
      simp only [Act.put, List.setIfInBounds_toArray, List.set_cons_zero, List.set_cons_succ]
      refine wpAnyH_done (by kernel_rfl) ?_ _
      clear hHeld HX4
      go_wp2_with (fail)
      go_roundw
      case rel =>
        refine ⟨k + 1, by omega, by go_num, ?_, HB4⟩
        rw [HPT.out, ← pcs_app]
        exact HW4
      case measure => simp [intOf]; omega
    · obtain rfl : k = n := by omega
      obtain ⟨g1, cur1, rfl, _, _, _⟩ := own_some HOW.out (by omega)
      go_wp2_with (fail)
      refine (HC.out g1 c1 wr HOW.out).mono ?_; rintro e v5 ⟨rfl, hb⟩
      have HB5 := Lib.hid (HB.out.trans (hb.mono HB.out.size))
      clear hb
      go_wp2_with (fail)
      go_ret2
      exact ⟨rfl, HB5.out⟩
theorem unmap_any (A : Option Addr) (c : Nat) (l : List Rn) (w : World) (hl : Rngs w A l) : Calls Try.prog 16 #[.slice A l.length c] w fun e w' => e = .returned (pageV (unX l)) ∧ Below w.heap.size w w' := by
  unfold unX
  by_cases hn : l.length ≤ 16
  · cases hg : l.all goodR with
    | false => rw [if_neg (by simp)]; exact unmap_bad A c l w hl hn hg
    | true => rw [if_pos ⟨hn, rfl⟩]; exact unmap_good A c l w hl hn hg
  · rw [if_neg (fun h => hn h.1)]
    exact unmap_many A c l.length (by omega) w
end Go.Proofs.Ytgncllhhajjnlaa
