/- Split, caught and whole. -/
import Derived.Test.YtoejfkalgmdjcaaDoorFrameSplit
import Derived.Test.YtoejfkalgmdjcaaDoorFrameGet
namespace Go.Proofs.YtoejfkalgmdjcaaDoor
open Go.RowKit
theorem catch_split_ok (a b : Value) (w : World) (Q : World → Prop) (hk : ∀ w', Q w' → Blk w' w.heap.size 24 #[.int .i64 0])
    (h : Calls Tryd.prog 33 #[a, b] (w.alloc (.cells #[.int .i64 0] 24)) fun e w' => e = .returned (.tuple #[]) ∧ Q w') :
    Calls Tryd.prog 27 #[.func (.func 33) #[] #[a, b]] w fun e w' => e = .returned (.int .i64 0) ∧ Q w' := by
  have hmf : ∀ (fn : Fn) (first cap : Array Value) (w : World), (Instr.makeFunc fn first cap).run Tryd.prog w = .ok (.func fn first cap) w := fun _ _ _ _ => rfl
  go_enter_defers Tryd.func27, Tryd.ntmps27
  go_wp2_with (fail)
  refine h.mono ?_; rintro e w1 ⟨rfl, hq⟩
  have hb := hk w1 hq
  have h0 : w1.cell? ⟨w.heap.size, 0, none⟩ = some (.int .i64 0) := hb.cell 0
  have f0 := hb.free 0
  have e1 : w1.setCell ⟨w.heap.size, 0, none⟩ (.int .i64 0) = w1 := set_same hb
  have Q1 := Lib.hid hq; clear hq hb
  go_wp2
  refine leaves_cons (f := 41) (args := #[.pointer (some ⟨w.heap.size, 0, none⟩)]) (by simp) (by simp [go_sem]) ?_
  refine (idle w.heap.size _).mono ?_
  rintro e u' w'' ⟨rfl, rfl, rfl⟩
  simp [Leaves, settle, results, Tryd.results27, go_sem]
  rw [h0]
  exact ⟨_, rfl, rfl, Q1.out⟩
theorem catch_split_up (a b : Value) (w : World) (k : Nat) (Q : World → Prop) (hk : ∀ w', Q w' → Blk w' w.heap.size 24 #[.int .i64 0])
    (h : Calls Tryd.prog 33 #[a, b] (w.alloc (.cells #[.int .i64 0] 24)) fun e w' => e = up k ∧ Q w') :
    Calls Tryd.prog 27 #[.func (.func 33) #[] #[a, b]] w fun e w' => e = .returned (.int .i64 k) ∧ ∃ w2, Q w2 ∧ w' = w2.setCell ⟨w.heap.size, 0, none⟩ (.int .i64 k) := by
  have hmf : ∀ (fn : Fn) (first cap : Array Value) (w : World), (Instr.makeFunc fn first cap).run Tryd.prog w = .ok (.func fn first cap) w := fun _ _ _ _ => rfl
  go_enter_defers Tryd.func27, Tryd.ntmps27
  go_wp2_with (fail)
  refine h.mono ?_; rintro e w1 ⟨rfl, hq⟩
  have hb := hk w1 hq
  have h0 : w1.cell? ⟨w.heap.size, 0, none⟩ = some (.int .i64 0) := hb.cell 0
  have Q1 := Lib.hid hq; clear hq
  have B1 := Lib.hid hb; clear hb
  go_wp2
  refine leaves_cons (f := 41) (args := #[.pointer (some ⟨w.heap.size, 0, none⟩)]) (by simp) (by simp [go_sem]) ?_
  refine (caught w.heap.size k [] _ B1.out).mono ?_
  rintro e u' w'' ⟨rfl, rfl, rfl⟩
  simp [Leaves, settle, results, Tryd.results27, go_sem, h0]
  exact ⟨_, Q1.out, rfl⟩

set_option maxHeartbeats 1000000 in
theorem splitClo_up (s : ByteArray) (a p : Nat) (w : World) (hs : s.size ≤ 100000) (ha : w.cell? ⟨a, 0, none⟩ = some (.string s)) (he : ¬ SplitOk s) :
    Calls Tryd.prog 33 #[.pointer (some ⟨a, 0, none⟩), .pointer (some ⟨p, 0, none⟩)] w fun e w' => e = up 50 ∧ Only nobody w w' := by
  go_enter Tryd.func33, Tryd.ntmps33
  go_wp2_with (fail)
  refine (rwrites_any w.heap.size s _ (Blk.new w 64 _) hs).mono ?_; rintro e w1 ⟨hf, ho⟩
  rcases hf with ⟨h0, _⟩ | ⟨_, rfl⟩
  · exact absurd h0 he
  have P := Lib.hid (clo_world rfl ho); clear ho
  go_wp2
  exact ⟨rfl, rfl, P.out⟩
set_option maxHeartbeats 1000000 in
theorem splitClo_ok (s : ByteArray) (a p : Nat) (w : World) (hs : s.size ≤ 100000) (ha : w.cell? ⟨a, 0, none⟩ = some (.string s)) (he : SplitOk s) (b1 : Blk w p 38 #[.slice none 0 0]) :
    Calls Tryd.prog 33 #[.pointer (some ⟨a, 0, none⟩), .pointer (some ⟨p, 0, none⟩)] w fun e w' =>
      e = .returned (.tuple #[]) ∧ ∃ A c, Blk w' p 38 #[.slice A (countS s) c] ∧ Wrs w' A (splitL s (countS s)) ∧ Only (itsR p) w w' := by
  have B1 := Lib.hid b1; clear b1
  have HE := Lib.hid he; clear he
  go_enter Tryd.func33, Tryd.ntmps33
  go_wp2_with (fail)
  refine (rwrites_any w.heap.size s _ (Blk.new w 64 _) hs).mono ?_; rintro e w1 ⟨hf, ho⟩
  rcases hf with ⟨_, A, c, rfl, hw⟩ | ⟨h0, _⟩
  rotate_left
  · exact absurd HE.out h0
  have P := Lib.hid (clo_world rfl ho); clear ho
  have k1 := B1.out.only P.out (fun h => h)
  have d1 : w1.cell? ⟨p, 0, none⟩ = some (.slice none 0 0) := k1.cell 0
  have f1 := k1.free 0
  have K1 := Lib.hid k1; clear k1
  have HW := Lib.hid hw; clear hw
  go_wp2
  go_end0
  refine ⟨rfl, A, c, K1.out.put 0 _, fun hn => ?_, (P.out.mono (fun _ h => h.elim)).setCell (p := ⟨p, 0, none⟩) (.inl (show itsR p p from rfl)) _⟩
  obtain ⟨g, o, rfl, hc⟩ := HW.out hn
  refine ⟨g, o, rfl, fun j x hj => ?_⟩
  have hg : g ≠ p := fun e => by
    subst e
    have h1 := (hc j x hj).1
    have := K1.out.cell (o + j * 2)
    rw [this] at h1
    rcases Nat.eq_zero_or_pos (o + j * 2) with h0 | h0
    · rw [h0] at h1; cases h1
    · rw [Array.getElem?_eq_none (by simp; omega)] at h1; cases h1
  rw [World.cell?_setCell_other _ _ _ _ (by intro h; injection h with h1; exact hg h1.symm), World.cell?_setCell_other _ _ _ _ (by intro h; injection h with h1; exact hg h1.symm)]
  exact hc j x hj
theorem splitCatch_ok (s : ByteArray) (a p : Nat) (w : World) (hs : s.size ≤ 100000) (ha : w.cell? ⟨a, 0, none⟩ = some (.string s)) (he : SplitOk s) (b1 : Blk w p 38 #[.slice none 0 0]) :
    Calls Tryd.prog 27 #[.func (.func 33) #[] #[.pointer (some ⟨a, 0, none⟩), .pointer (some ⟨p, 0, none⟩)]] w fun e w' =>
      e = .returned (.int .i64 0) ∧ ∃ A c, Blk w' p 38 #[.slice A (countS s) c] ∧ Wrs w' A (splitL s (countS s)) ∧ Only (itsR p) w w' := by
  have hb := (Below.refl w.heap.size w).alloc (Nat.le_refl _) (.cells #[.int .i64 0] 24)
  have l1 := b1.lt
  refine (catch_split_ok _ _ w _ ?_ (splitClo_ok s a p _ hs ((hb.cell (p := ⟨a, 0, none⟩) (World.block_lt_of_cell? w _ ha)).trans ha) he (b1.alloc _))).mono ?_
  · rintro w' ⟨_, _, _, _, ho⟩
    refine (Blk.new w 24 _).only ho fun h => ?_
    unfold itsR at h
    omega
  · rintro e w' ⟨rfl, A, c, c1, c2, ho⟩
    exact ⟨rfl, A, c, c1, c2, ((Only.refl _ w).alloc _).trans ho fun i hi => .inl hi⟩
theorem splitCatch_up (s : ByteArray) (a p : Nat) (w : World) (hs : s.size ≤ 100000) (ha : w.cell? ⟨a, 0, none⟩ = some (.string s)) (he : ¬ SplitOk s) :
    Calls Tryd.prog 27 #[.func (.func 33) #[] #[.pointer (some ⟨a, 0, none⟩), .pointer (some ⟨p, 0, none⟩)]] w fun e w' => e = .returned (.int .i64 50) ∧ Only nobody w w' := by
  have hb := (Below.refl w.heap.size w).alloc (Nat.le_refl _) (.cells #[.int .i64 0] 24)
  refine (catch_split_up _ _ w 50 _ ?_ (splitClo_up s a p _ hs ((hb.cell (p := ⟨a, 0, none⟩) (World.block_lt_of_cell? w _ ha)).trans ha) he)).mono ?_
  · intro w' ho
    exact (Blk.new w 24 _).only ho fun h => h
  · rintro e w' ⟨rfl, w2, ho, rfl⟩
    exact ⟨rfl, (((Only.refl _ w).alloc _).trans ho fun i hi => .inl hi).setCell (.inr (Nat.le_refl _)) _⟩
theorem split_world (s : ByteArray) (w : World) : ∀ w4, w4 = (w.alloc (Obj.cells #[Value.string s] 9)).alloc (Obj.cells #[Value.slice none 0 0] 38) →
    w4.cell? ⟨w.heap.size, 0, none⟩ = some (.string s) ∧ Blk w4 (w.heap.size + 1) 38 #[.slice none 0 0] ∧ Below w.heap.size w w4 := by
  rintro w4 rfl
  have h1 := (Below.refl w.heap.size w).alloc (Nat.le_refl _) (Obj.cells #[Value.string s] 9)
  have h2 := h1.alloc h1.size (Obj.cells #[Value.slice none 0 0] 38)
  have b0 := (Blk.new w 9 #[Value.string s]).alloc (Obj.cells #[Value.slice none 0 0] 38)
  have b1 := Blk.new (w.alloc (Obj.cells #[Value.string s] 9)) 38 #[Value.slice none 0 0]
  exact ⟨b0.cell 0, by simpa using b1, h2⟩
set_option maxHeartbeats 1000000 in
theorem split_ok (s : ByteArray) (w : World) (hs : s.size ≤ 100000) (he : SplitOk s) :
    Calls Tryd.prog 18 #[.string s] w fun e w' => ∃ A c, e = .returned (.tuple #[.slice A (countS s) c, .int .i64 0]) ∧ Wrs w' A (splitL s (countS s)) ∧ Below w.heap.size w w' := by
  have hmf : ∀ (fn : Fn) (first cap : Array Value) (w : World), (Instr.makeFunc fn first cap).run Tryd.prog w = .ok (.func fn first cap) w := fun _ _ _ _ => rfl
  have HW := Lib.hid (split_world s w)
  have HE := Lib.hid he; clear he
  go_enter Tryd.func18, Tryd.ntmps18
  go_wp2_with (fail)
  have HF := Lib.hid (HW.out _ rfl); clear HW
  refine (splitCatch_ok s _ _ _ hs HF.out.1 HE.out HF.out.2.1).mono ?_; rintro e w5 ⟨rfl, A, c, k1, hw, ho⟩
  have d1 : w5.cell? ⟨w.heap.size + 1, 0, none⟩ = some (.slice A (countS s) c) := k1.cell 0
  have f1 := k1.free 0
  have e1 := set_same k1
  have P := Lib.hid (show Below w.heap.size w w5 from HF.out.2.2.trans (ho.toBelow HF.out.2.2.size fun k hk => by unfold itsR at hk; omega)); clear ho HF
  have HWR := Lib.hid hw; clear hw k1
  go_wp2
  refine bodyPost_ret (by simp [results, Tryd.results18, go_sem, d1]; try rfl) rfl ?_
  exact ⟨A, c, rfl, HWR.out, P.out⟩
set_option maxHeartbeats 1000000 in
theorem split_up (s : ByteArray) (w : World) (hs : s.size ≤ 100000) (he : ¬ SplitOk s) :
    Calls Tryd.prog 18 #[.string s] w fun e w' => e = .returned (.tuple #[.slice none 0 0, .int .i64 50]) ∧ Below w.heap.size w w' := by
  have hmf : ∀ (fn : Fn) (first cap : Array Value) (w : World), (Instr.makeFunc fn first cap).run Tryd.prog w = .ok (.func fn first cap) w := fun _ _ _ _ => rfl
  have HW := Lib.hid (split_world s w)
  have HE := Lib.hid he; clear he
  go_enter Tryd.func18, Tryd.ntmps18
  go_wp2_with (fail)
  have HF := Lib.hid (HW.out _ rfl); clear HW
  refine (splitCatch_up s _ _ _ hs HF.out.1 HE.out).mono ?_; rintro e w5 ⟨rfl, ho⟩
  have k1 := HF.out.2.1.only ho fun h => h
  have d1 : w5.cell? ⟨w.heap.size + 1, 0, none⟩ = some (.slice none 0 0) := k1.cell 0
  have f1 := k1.free 0
  have e1 := set_same k1
  have P := Lib.hid (show Below w.heap.size w w5 from HF.out.2.2.trans (ho.toBelow HF.out.2.2.size fun k hk => hk.elim)); clear ho HF
  clear k1
  go_wp2
  refine bodyPost_ret (by simp [results, Tryd.results18, go_sem, d1]; try rfl) rfl ?_
  exact ⟨rfl, P.out⟩
end Go.Proofs.YtoejfkalgmdjcaaDoor
