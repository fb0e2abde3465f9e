/- The functions of a row of the code's table. -/
import Derived.Test.YthcaeihpdlgcaaaDoorSnM
import Derived.Deep.MidRow
import Derived.Laws.StructEq
namespace Go.Proofs.YthcaeihpdlgcaaaDoor
open Go.RowKit
structure Rw where
  c : Int
  w : Int
  s : Int
  k : Int
  a : Int
  q : Int
deriving DecidableEq
abbrev rwC (r : Rw) : Array Value := #[.int .i64 r.c, .int .i64 r.w, .int .i64 r.s, .int .i64 r.k, .int .i64 r.a, .int .i64 r.q]
abbrev rwV (r : Rw) : Value := .agg (rwC r)
def zRw : Rw := ⟨0, 0, 0, 0, 0, 0⟩
theorem rw_info : (Tryd.prog.info? 61).map (·.size) = some 6 := by kernel_rfl
theorem rwC_one (r : Rw) : (rwC r).all (·.oneCell') = true := by simp [rwC, Value.oneCell']
def tkB (r : Rw) (t : Int) : Bool := !(r.c == 3) || fitB t 32
def senR (r : Rw) (t : Int) : Sn := ⟨r.k, r.a, r.q, if r.c = 3 then t else -1⟩
def oB (c t u : Int) (r : Rw) : Bool := (c == r.c) && ((r.w == 0) || (u == r.w)) && tkB r t
def pB (n : Int) (x : Sn) (r : Rw) : Bool := (n == r.s) && tkB r x.t && decide (x = senR r x.t)
theorem Blk.range {w : World} {g : Nat} {t : TypeId} {cs : Array Value} (h : Blk w g t cs) (o : Nat) (l : List Value) (hl : ∀ j v, l[j]? = some v → cs[o + j]? = some v) : w.rangeAt g o l :=
  fun j v hj => (h.cell (o + j)).trans (hl j v hj)
theorem sn_eq (x y : Sn) (w : World) : (binOp .eql 23 (snV x) (snV y)).run Tryd.prog w = .ok (.bool (decide (x = y))) w := by
  go_simp
  obtain ⟨k, a, q, t⟩ := x
  obtain ⟨k', a', q', t'⟩ := y
  by_cases h0 : k = k'
  · by_cases h1 : a = a'
    · by_cases h2 : q = q'
      · by_cases h3 : t = t' <;> simp [h0, h1, h2, h3]
      · simp [h0, h1, h2]
    · simp [h0, h1]
  · simp [h0]
theorem placed_any (r : Rw) (w : World) : Calls Tryd.prog 28 #[rwV r] w fun e w' => e = .returned (.bool (r.c == 3)) ∧ Below w.heap.size w w' := by
  have HR0 := Lib.hid (Blk.new w 61 (rwC r))
  have HB0 := Lib.hid ((Below.refl w.heap.size w).alloc (Nat.le_refl _) (.cells (rwC r) 61))
  obtain ⟨b, hb⟩ : ∃ b, (r.c == 3) = b := ⟨_, rfl⟩
  rw [hb]
  go_enter Tryd.func28, Tryd.ntmps28
  go_upto_region 1 with (fail)
  change Code.wp _ _ _ _ (w.alloc (.cells (rwC r) 61))
  generalize w.alloc (.cells (rwC r) 61) = v0 at *
  obtain ⟨p, hp⟩ : ∃ p, p = w.heap.size := ⟨_, rfl⟩
  rw [← hp] at HR0 ⊢
  clear hp
  have c0 : v0.cell? ⟨p, 0, none⟩ = some (.int .i64 r.c) := HR0.out.cell 0
  go_wp2_with (fail)
  go_ret
  exact ⟨rfl, HB0.out⟩
theorem takes_any (r : Rw) (t : Int) (w : World) : Calls Tryd.prog 35 #[rwV r, .int .i64 t] w fun e w' => e = .returned (.bool (tkB r t)) ∧ Below w.heap.size w w' := by
  have HR0 := Lib.hid (Blk.new w 61 (rwC r))
  have HB0 := Lib.hid ((Below.refl w.heap.size w).alloc (Nat.le_refl _) (.cells (rwC r) 61))
  have HV := Lib.hid (show tkB r t = (!(r.c == 3) || fitB t 32) from rfl)
  cases q0 : (r.c == 3) with
  | false =>
    have Q0 := Lib.hid q0; clear q0
    go_enter Tryd.func35, Tryd.ntmps35
    go_upto_region 1 with (fail)
    change Code.wp _ _ _ _ (w.alloc (.cells (rwC r) 61))
    generalize w.alloc (.cells (rwC r) 61) = v0 at *
    obtain ⟨p, hp⟩ : ∃ p, p = w.heap.size := ⟨_, rfl⟩
    rw [← hp] at HR0 ⊢
    clear hp
    refine wp_region_lit ?_
    refine wpList_load_row rfl 61 (.tmp 2) rfl p rfl 61 (rwC r) (0, 0) _ HR0.out Tryd.underlying61 rfl rw_info ?_
    go_wp2_with (fail)
    refine (placed_any r v0).mono ?_; rintro e v1 ⟨rfl, hb⟩
    have HB1 := Lib.hid (HB0.out.trans (hb.mono HB0.out.size)); clear hb
    rw [Q0.out]
    go_wp2_with (fail)
    go_ret
    exact ⟨by rw [HV.out, Q0.out]; rfl, HB1.out⟩
  | true =>
    have Q0 := Lib.hid q0; clear q0
    go_enter Tryd.func35, Tryd.ntmps35
    go_upto_region 1 with (fail)
    change Code.wp _ _ _ _ (w.alloc (.cells (rwC r) 61))
    generalize w.alloc (.cells (rwC r) 61) = v0 at *
    obtain ⟨p, hp⟩ : ∃ p, p = w.heap.size := ⟨_, rfl⟩
    rw [← hp] at HR0 ⊢
    clear hp
    refine wp_region_lit ?_
    refine wpList_load_row rfl 61 (.tmp 2) rfl p rfl 61 (rwC r) (0, 0) _ HR0.out Tryd.underlying61 rfl rw_info ?_
    go_wp2_with (fail)
    refine (placed_any r v0).mono ?_; rintro e v1 ⟨rfl, hb⟩
    have HB1 := Lib.hid (HB0.out.trans (hb.mono HB0.out.size)); clear hb
    rw [Q0.out]
    go_wp2_with (fail)
    refine (isPlace_any t v1).mono ?_; rintro e _ ⟨rfl, rfl⟩
    go_wp2_with (fail)
    go_ret
    exact ⟨by rw [HV.out, Q0.out]; rfl, HB1.out⟩
set_option maxRecDepth 100000 in
set_option maxHeartbeats 4000000 in
theorem sense_any (r : Rw) (t : Int) (w : World) : Calls Tryd.prog 25 #[rwV r, .int .i64 t] w fun e w' => e = .returned (snV (senR r t)) ∧ Below w.heap.size w w' := by
  have HR0 := Lib.hid (Blk.new w 61 (rwC r))
  have HB0 := Lib.hid ((Below.refl w.heap.size w).alloc (Nat.le_refl _) (.cells (rwC r) 61))
  cases q0 : (r.c == 3) with
  | false =>
    have Q0 := Lib.hid q0; clear q0
    have HZ0 := Lib.hid (show Blk ((w.alloc (.cells (rwC r) 61)).alloc (.cells (snC zN) 23)) (w.heap.size + 1) 23 (snC zN) by
      have := Blk.new (w.alloc (.cells (rwC r) 61)) 23 (snC zN)
      rwa [show (w.alloc (.cells (rwC r) 61)).heap.size = w.heap.size + 1 by simp] at this)
    have HV := Lib.hid (show senR r t = ⟨r.k, r.a, r.q, (-1)⟩ by unfold senR; rw [if_neg (by simpa using Q0.out)])
    go_enter Tryd.func25, Tryd.ntmps25
    go_upto_region 1 with (fail)
    change Code.wp _ _ _ _ ((w.alloc (.cells (rwC r) 61)).alloc (.cells (snC zN) 23))
    have HR1 := Lib.hid (HR0.out.alloc (.cells (snC zN) 23))
    have HB1 := Lib.hid (HB0.out.alloc HB0.out.size (.cells (snC zN) 23))
    have hsz : (w.alloc (.cells (rwC r) 61)).heap.size = w.heap.size + 1 := by simp
    generalize (w.alloc (.cells (rwC r) 61)).alloc (.cells (snC zN) 23) = v0 at *
    try rw [hsz]
    clear hsz HR0 HB0
    obtain ⟨p, hp⟩ : ∃ p, p = w.heap.size := ⟨_, rfl⟩
    have HP := Lib.hid hp
    rw [← hp] at HR1 HZ0 ⊢
    clear hp
    refine wp_region_lit ?_
    refine wpList_load_row rfl 61 (.tmp 2) rfl p rfl 61 (rwC r) (0, 0) _ HR1.out Tryd.underlying61 rfl rw_info ?_
    go_wp2_with (fail)
    refine (placed_any r v0).mono ?_; rintro e v1 ⟨rfl, hb⟩
    have HB := Lib.hid (HB1.out.trans (hb.mono HB1.out.size)); have HR := Lib.hid (HR1.out.below hb HR1.out.lt); have HZ := Lib.hid (HZ0.out.below hb HZ0.out.lt); clear hb HB1 HR1 HZ0
    rw [Q0.out]
    have c3 : v1.cell? ⟨p, 3, none⟩ = some (.int .i64 r.k) := HR.out.cell 3
    have c4 : v1.cell? ⟨p, 4, none⟩ = some (.int .i64 r.a) := HR.out.cell 4
    have c5 : v1.cell? ⟨p, 5, none⟩ = some (.int .i64 r.q) := HR.out.cell 5
    go_upto_region 3 with (fail)
    refine wp_region_lit ?_
    refine wpList_runs rfl (some 8) rfl (.pointer (some ⟨p, 3, none⟩)) v1 (by go_simp) ?_
    refine wpList_runs rfl (some 9) rfl (.int .i64 r.k) v1 (by go_simp) ?_
    refine wpList_runs rfl (some 10) rfl (.pointer (some ⟨p, 4, none⟩)) v1 (by go_simp) ?_
    refine wpList_runs rfl (some 11) rfl (.int .i64 r.a) v1 (by go_simp) ?_
    refine wpList_runs rfl (some 12) rfl (.pointer (some ⟨p, 5, none⟩)) v1 (by go_simp) ?_
    refine wpList_runs rfl (some 13) rfl (.int .i64 r.q) v1 (by go_simp) ?_
    simp only [Act.put, List.setIfInBounds_toArray, List.set_cons_zero, List.set_cons_succ]
    refine wpList_runs rfl (some 14) rfl (.int .i64 (-1)) v1 (by go_simp) ?_
    refine wpList_runs rfl (some 15) rfl (snV ⟨r.k, r.a, r.q, (-1)⟩) v1 (by go_simp) ?_
    simp only [Act.put, List.setIfInBounds_toArray, List.set_cons_zero, List.set_cons_succ]
    refine wpList_store_row rfl 23 (.tmp 4) (.tmp 15) rfl (p + 1) (snC ⟨r.k, r.a, r.q, (-1)⟩) rfl rfl 23 (snC zN) HZ.out sn_info rfl (snC_one _) ?_
    go_wp2_with (fail)
    refine bodyPost_ret_by (results_cell_row Tryd.results25 _ _ (p + 1) 23 (snC ⟨r.k, r.a, r.q, (-1)⟩) (0, 0) _ rfl (setRow_blk HZ.out) Tryd.underlying23 rfl sn_info) rfl ?_
    exact ⟨by rw [HV.out], below_setRow HB.out (by rw [← HP.out]; omega) _⟩
  | true =>
    have Q0 := Lib.hid q0; clear q0
    have HZ0 := Lib.hid (show Blk ((w.alloc (.cells (rwC r) 61)).alloc (.cells (snC zN) 23)) (w.heap.size + 1) 23 (snC zN) by
      have := Blk.new (w.alloc (.cells (rwC r) 61)) 23 (snC zN)
      rwa [show (w.alloc (.cells (rwC r) 61)).heap.size = w.heap.size + 1 by simp] at this)
    have HV := Lib.hid (show senR r t = ⟨r.k, r.a, r.q, t⟩ by unfold senR; rw [if_pos (by simpa using Q0.out)])
    go_enter Tryd.func25, Tryd.ntmps25
    go_upto_region 1 with (fail)
    change Code.wp _ _ _ _ ((w.alloc (.cells (rwC r) 61)).alloc (.cells (snC zN) 23))
    have HR1 := Lib.hid (HR0.out.alloc (.cells (snC zN) 23))
    have HB1 := Lib.hid (HB0.out.alloc HB0.out.size (.cells (snC zN) 23))
    have hsz : (w.alloc (.cells (rwC r) 61)).heap.size = w.heap.size + 1 := by simp
    generalize (w.alloc (.cells (rwC r) 61)).alloc (.cells (snC zN) 23) = v0 at *
    try rw [hsz]
    clear hsz HR0 HB0
    obtain ⟨p, hp⟩ : ∃ p, p = w.heap.size := ⟨_, rfl⟩
    have HP := Lib.hid hp
    rw [← hp] at HR1 HZ0 ⊢
    clear hp
    refine wp_region_lit ?_
    refine wpList_load_row rfl 61 (.tmp 2) rfl p rfl 61 (rwC r) (0, 0) _ HR1.out Tryd.underlying61 rfl rw_info ?_
    go_wp2_with (fail)
    refine (placed_any r v0).mono ?_; rintro e v1 ⟨rfl, hb⟩
    have HB := Lib.hid (HB1.out.trans (hb.mono HB1.out.size)); have HR := Lib.hid (HR1.out.below hb HR1.out.lt); have HZ := Lib.hid (HZ0.out.below hb HZ0.out.lt); clear hb HB1 HR1 HZ0
    rw [Q0.out]
    have c3 : v1.cell? ⟨p, 3, none⟩ = some (.int .i64 r.k) := HR.out.cell 3
    have c4 : v1.cell? ⟨p, 4, none⟩ = some (.int .i64 r.a) := HR.out.cell 4
    have c5 : v1.cell? ⟨p, 5, none⟩ = some (.int .i64 r.q) := HR.out.cell 5
    go_upto_region 3 with (fail)
    refine wp_region_lit ?_
    refine wpList_runs rfl (some 8) rfl (.pointer (some ⟨p, 3, none⟩)) v1 (by go_simp) ?_
    refine wpList_runs rfl (some 9) rfl (.int .i64 r.k) v1 (by go_simp) ?_
    refine wpList_runs rfl (some 10) rfl (.pointer (some ⟨p, 4, none⟩)) v1 (by go_simp) ?_
    refine wpList_runs rfl (some 11) rfl (.int .i64 r.a) v1 (by go_simp) ?_
    refine wpList_runs rfl (some 12) rfl (.pointer (some ⟨p, 5, none⟩)) v1 (by go_simp) ?_
    refine wpList_runs rfl (some 13) rfl (.int .i64 r.q) v1 (by go_simp) ?_
    simp only [Act.put, List.setIfInBounds_toArray, List.set_cons_zero, List.set_cons_succ]
    refine wpList_runs rfl (some 14) rfl (.int .i64 t) v1 (by go_simp) ?_
    refine wpList_runs rfl (some 15) rfl (snV ⟨r.k, r.a, r.q, t⟩) v1 (by go_simp) ?_
    simp only [Act.put, List.setIfInBounds_toArray, List.set_cons_zero, List.set_cons_succ]
    refine wpList_store_row rfl 23 (.tmp 4) (.tmp 15) rfl (p + 1) (snC ⟨r.k, r.a, r.q, t⟩) rfl rfl 23 (snC zN) HZ.out sn_info rfl (snC_one _) ?_
    go_wp2_with (fail)
    refine bodyPost_ret_by (results_cell_row Tryd.results25 _ _ (p + 1) 23 (snC ⟨r.k, r.a, r.q, t⟩) (0, 0) _ rfl (setRow_blk HZ.out) Tryd.underlying23 rfl sn_info) rfl ?_
    exact ⟨by rw [HV.out], below_setRow HB.out (by rw [← HP.out]; omega) _⟩
end Go.Proofs.YthcaeihpdlgcaaaDoor
