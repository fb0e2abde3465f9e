/- What a kind of changes allows, its command, its list: the code's allows, command and list. -/
import Derived.Test.YtdggipgieanpeaaPrR
namespace Go.Proofs.Ytdggipgieanpeaa.Pc
open Go.RowKit
theorem kc_inf : (Try.prog.info? 26).map (·.size) = some 14 := by kernel_rfl
set_option maxRecDepth 100000 in
set_option maxHeartbeats 4000000 in
theorem allows_t (op se : Int) (st : Bool) (ig : Bool) (t : Int) (k s : Nat) (a : Bool) (q0 : (t != 0) = true) (w : World) : Calls Try.prog 15 #[kdV ⟨op, se, false, st, ig⟩, .int .i64 t, lsV ⟨k, s, a⟩] w fun e w' => e = .returned (.bool (false)) ∧ Below w.heap.size w w' := by
  have HX0 := Lib.hid ((Blk.new w 50 (kdC ⟨op, se, false, st, ig⟩)).alloc (.cells (lsC ⟨k, s, a⟩) 54))
  have HL0 := Lib.hid (show Blk ((w.alloc (.cells (kdC ⟨op, se, false, st, ig⟩) 50)).alloc (.cells (lsC ⟨k, s, a⟩) 54)) (w.heap.size + 1) 54 (lsC ⟨k, s, a⟩) by
    have := Blk.new (w.alloc (.cells (kdC ⟨op, se, false, st, ig⟩) 50)) 54 (lsC ⟨k, s, a⟩)
    rwa [show (w.alloc (.cells (kdC ⟨op, se, false, st, ig⟩) 50)).heap.size = w.heap.size + 1 by simp] at this)
  have HB0 := Lib.hid (((Below.refl w.heap.size w).alloc (Nat.le_refl _) (.cells (kdC ⟨op, se, false, st, ig⟩) 50)).alloc (by simp) (.cells (lsC ⟨k, s, a⟩) 54))
  go_enter Try.func15, Try.ntmps15
  go_upto_region 1 with (fail)
  change Code.wp _ _ _ _ ((w.alloc (.cells (kdC ⟨op, se, false, st, ig⟩) 50)).alloc (.cells (lsC ⟨k, s, a⟩) 54))
  have hsz : (w.alloc (.cells (kdC ⟨op, se, false, st, ig⟩) 50)).heap.size = w.heap.size + 1 := by simp
  generalize (w.alloc (.cells (kdC ⟨op, se, false, st, ig⟩) 50)).alloc (.cells (lsC ⟨k, s, a⟩) 54) = v0 at *
  try rw [hsz]
  clear hsz
  obtain ⟨p, hp⟩ : ∃ p, p = w.heap.size := ⟨_, rfl⟩
  rw [← hp] at HX0 HL0 ⊢
  clear hp
  have c1 : v0.cell? ⟨p, 1, none⟩ = some (.int .i64 se) := HX0.out.cell 1
  have c2 : v0.cell? ⟨p, 2, none⟩ = some (.bool false) := HX0.out.cell 2
  have c3 : v0.cell? ⟨p, 3, none⟩ = some (.bool st) := HX0.out.cell 3
  have d1 : v0.cell? ⟨p + 1, 1, none⟩ = some (.int .u64 (s : Int)) := HL0.out.cell 1
  have d2 : v0.cell? ⟨p + 1, 2, none⟩ = some (.bool a) := HL0.out.cell 2
  go_wp2_with (fail)
  go_ret
  exact ⟨rfl, HB0.out⟩
set_option maxRecDepth 100000 in
set_option maxHeartbeats 4000000 in
theorem allows_z_b (op se : Int) (ty : Bool) (st : Bool) (ig : Bool) (t : Int) (k s : Nat) (a : Bool) (q0 : (t != 0) = false) (q1 : ((s : Int) != 0) = true) (q2 : (se == 0) = true) (w : World) : Calls Try.prog 15 #[kdV ⟨op, se, ty, st, ig⟩, .int .i64 t, lsV ⟨k, s, a⟩] w fun e w' => e = .returned (.bool (false)) ∧ Below w.heap.size w w' := by
  have HX0 := Lib.hid ((Blk.new w 50 (kdC ⟨op, se, ty, st, ig⟩)).alloc (.cells (lsC ⟨k, s, a⟩) 54))
  have HL0 := Lib.hid (show Blk ((w.alloc (.cells (kdC ⟨op, se, ty, st, ig⟩) 50)).alloc (.cells (lsC ⟨k, s, a⟩) 54)) (w.heap.size + 1) 54 (lsC ⟨k, s, a⟩) by
    have := Blk.new (w.alloc (.cells (kdC ⟨op, se, ty, st, ig⟩) 50)) 54 (lsC ⟨k, s, a⟩)
    rwa [show (w.alloc (.cells (kdC ⟨op, se, ty, st, ig⟩) 50)).heap.size = w.heap.size + 1 by simp] at this)
  have HB0 := Lib.hid (((Below.refl w.heap.size w).alloc (Nat.le_refl _) (.cells (kdC ⟨op, se, ty, st, ig⟩) 50)).alloc (by simp) (.cells (lsC ⟨k, s, a⟩) 54))
  go_enter Try.func15, Try.ntmps15
  go_upto_region 1 with (fail)
  change Code.wp _ _ _ _ ((w.alloc (.cells (kdC ⟨op, se, ty, st, ig⟩) 50)).alloc (.cells (lsC ⟨k, s, a⟩) 54))
  have hsz : (w.alloc (.cells (kdC ⟨op, se, ty, st, ig⟩) 50)).heap.size = w.heap.size + 1 := by simp
  generalize (w.alloc (.cells (kdC ⟨op, se, ty, st, ig⟩) 50)).alloc (.cells (lsC ⟨k, s, a⟩) 54) = v0 at *
  try rw [hsz]
  clear hsz
  obtain ⟨p, hp⟩ : ∃ p, p = w.heap.size := ⟨_, rfl⟩
  rw [← hp] at HX0 HL0 ⊢
  clear hp
  have c1 : v0.cell? ⟨p, 1, none⟩ = some (.int .i64 se) := HX0.out.cell 1
  have c2 : v0.cell? ⟨p, 2, none⟩ = some (.bool ty) := HX0.out.cell 2
  have c3 : v0.cell? ⟨p, 3, none⟩ = some (.bool st) := HX0.out.cell 3
  have d1 : v0.cell? ⟨p + 1, 1, none⟩ = some (.int .u64 (s : Int)) := HL0.out.cell 1
  have d2 : v0.cell? ⟨p + 1, 2, none⟩ = some (.bool a) := HL0.out.cell 2
  go_wp2_with (fail)
  go_ret
  exact ⟨rfl, HB0.out⟩
set_option maxRecDepth 100000 in
set_option maxHeartbeats 4000000 in
theorem allows_z_s_true (op se : Int) (ty : Bool) (ig : Bool) (t : Int) (k s : Nat) (a : Bool) (q0 : (t != 0) = false) (q1 : ((s : Int) != 0) = false) (w : World) : Calls Try.prog 15 #[kdV ⟨op, se, ty, true, ig⟩, .int .i64 t, lsV ⟨k, s, a⟩] w fun e w' => e = .returned (.bool (true)) ∧ Below w.heap.size w w' := by
  have HX0 := Lib.hid ((Blk.new w 50 (kdC ⟨op, se, ty, true, ig⟩)).alloc (.cells (lsC ⟨k, s, a⟩) 54))
  have HL0 := Lib.hid (show Blk ((w.alloc (.cells (kdC ⟨op, se, ty, true, ig⟩) 50)).alloc (.cells (lsC ⟨k, s, a⟩) 54)) (w.heap.size + 1) 54 (lsC ⟨k, s, a⟩) by
    have := Blk.new (w.alloc (.cells (kdC ⟨op, se, ty, true, ig⟩) 50)) 54 (lsC ⟨k, s, a⟩)
    rwa [show (w.alloc (.cells (kdC ⟨op, se, ty, true, ig⟩) 50)).heap.size = w.heap.size + 1 by simp] at this)
  have HB0 := Lib.hid (((Below.refl w.heap.size w).alloc (Nat.le_refl _) (.cells (kdC ⟨op, se, ty, true, ig⟩) 50)).alloc (by simp) (.cells (lsC ⟨k, s, a⟩) 54))
  go_enter Try.func15, Try.ntmps15
  go_upto_region 1 with (fail)
  change Code.wp _ _ _ _ ((w.alloc (.cells (kdC ⟨op, se, ty, true, ig⟩) 50)).alloc (.cells (lsC ⟨k, s, a⟩) 54))
  have hsz : (w.alloc (.cells (kdC ⟨op, se, ty, true, ig⟩) 50)).heap.size = w.heap.size + 1 := by simp
  generalize (w.alloc (.cells (kdC ⟨op, se, ty, true, ig⟩) 50)).alloc (.cells (lsC ⟨k, s, a⟩) 54) = v0 at *
  try rw [hsz]
  clear hsz
  obtain ⟨p, hp⟩ : ∃ p, p = w.heap.size := ⟨_, rfl⟩
  rw [← hp] at HX0 HL0 ⊢
  clear hp
  have c1 : v0.cell? ⟨p, 1, none⟩ = some (.int .i64 se) := HX0.out.cell 1
  have c2 : v0.cell? ⟨p, 2, none⟩ = some (.bool ty) := HX0.out.cell 2
  have c3 : v0.cell? ⟨p, 3, none⟩ = some (.bool true) := HX0.out.cell 3
  have d1 : v0.cell? ⟨p + 1, 1, none⟩ = some (.int .u64 (s : Int)) := HL0.out.cell 1
  have d2 : v0.cell? ⟨p + 1, 2, none⟩ = some (.bool a) := HL0.out.cell 2
  go_wp2_with (fail)
  go_ret
  exact ⟨rfl, HB0.out⟩
set_option maxRecDepth 100000 in
set_option maxHeartbeats 4000000 in
theorem allows_z_s_false (op se : Int) (ty : Bool) (ig : Bool) (t : Int) (k s : Nat) (a : Bool) (q0 : (t != 0) = false) (q1 : ((s : Int) != 0) = false) (w : World) : Calls Try.prog 15 #[kdV ⟨op, se, ty, false, ig⟩, .int .i64 t, lsV ⟨k, s, a⟩] w fun e w' => e = .returned (.bool (!a)) ∧ Below w.heap.size w w' := by
  have HX0 := Lib.hid ((Blk.new w 50 (kdC ⟨op, se, ty, false, ig⟩)).alloc (.cells (lsC ⟨k, s, a⟩) 54))
  have HL0 := Lib.hid (show Blk ((w.alloc (.cells (kdC ⟨op, se, ty, false, ig⟩) 50)).alloc (.cells (lsC ⟨k, s, a⟩) 54)) (w.heap.size + 1) 54 (lsC ⟨k, s, a⟩) by
    have := Blk.new (w.alloc (.cells (kdC ⟨op, se, ty, false, ig⟩) 50)) 54 (lsC ⟨k, s, a⟩)
    rwa [show (w.alloc (.cells (kdC ⟨op, se, ty, false, ig⟩) 50)).heap.size = w.heap.size + 1 by simp] at this)
  have HB0 := Lib.hid (((Below.refl w.heap.size w).alloc (Nat.le_refl _) (.cells (kdC ⟨op, se, ty, false, ig⟩) 50)).alloc (by simp) (.cells (lsC ⟨k, s, a⟩) 54))
  go_enter Try.func15, Try.ntmps15
  go_upto_region 1 with (fail)
  change Code.wp _ _ _ _ ((w.alloc (.cells (kdC ⟨op, se, ty, false, ig⟩) 50)).alloc (.cells (lsC ⟨k, s, a⟩) 54))
  have hsz : (w.alloc (.cells (kdC ⟨op, se, ty, false, ig⟩) 50)).heap.size = w.heap.size + 1 := by simp
  generalize (w.alloc (.cells (kdC ⟨op, se, ty, false, ig⟩) 50)).alloc (.cells (lsC ⟨k, s, a⟩) 54) = v0 at *
  try rw [hsz]
  clear hsz
  obtain ⟨p, hp⟩ : ∃ p, p = w.heap.size := ⟨_, rfl⟩
  rw [← hp] at HX0 HL0 ⊢
  clear hp
  have c1 : v0.cell? ⟨p, 1, none⟩ = some (.int .i64 se) := HX0.out.cell 1
  have c2 : v0.cell? ⟨p, 2, none⟩ = some (.bool ty) := HX0.out.cell 2
  have c3 : v0.cell? ⟨p, 3, none⟩ = some (.bool false) := HX0.out.cell 3
  have d1 : v0.cell? ⟨p + 1, 1, none⟩ = some (.int .u64 (s : Int)) := HL0.out.cell 1
  have d2 : v0.cell? ⟨p + 1, 2, none⟩ = some (.bool a) := HL0.out.cell 2
  go_wp2_with (fail)
  go_ret
  exact ⟨rfl, HB0.out⟩
set_option maxRecDepth 100000 in
set_option maxHeartbeats 4000000 in
theorem allows_z_n_true (op se : Int) (ty : Bool) (ig : Bool) (t : Int) (k s : Nat) (a : Bool) (q0 : (t != 0) = false) (q1 : ((s : Int) != 0) = true) (q2 : (se == 0) = false) (w : World) : Calls Try.prog 15 #[kdV ⟨op, se, ty, true, ig⟩, .int .i64 t, lsV ⟨k, s, a⟩] w fun e w' => e = .returned (.bool (true)) ∧ Below w.heap.size w w' := by
  have HX0 := Lib.hid ((Blk.new w 50 (kdC ⟨op, se, ty, true, ig⟩)).alloc (.cells (lsC ⟨k, s, a⟩) 54))
  have HL0 := Lib.hid (show Blk ((w.alloc (.cells (kdC ⟨op, se, ty, true, ig⟩) 50)).alloc (.cells (lsC ⟨k, s, a⟩) 54)) (w.heap.size + 1) 54 (lsC ⟨k, s, a⟩) by
    have := Blk.new (w.alloc (.cells (kdC ⟨op, se, ty, true, ig⟩) 50)) 54 (lsC ⟨k, s, a⟩)
    rwa [show (w.alloc (.cells (kdC ⟨op, se, ty, true, ig⟩) 50)).heap.size = w.heap.size + 1 by simp] at this)
  have HB0 := Lib.hid (((Below.refl w.heap.size w).alloc (Nat.le_refl _) (.cells (kdC ⟨op, se, ty, true, ig⟩) 50)).alloc (by simp) (.cells (lsC ⟨k, s, a⟩) 54))
  go_enter Try.func15, Try.ntmps15
  go_upto_region 1 with (fail)
  change Code.wp _ _ _ _ ((w.alloc (.cells (kdC ⟨op, se, ty, true, ig⟩) 50)).alloc (.cells (lsC ⟨k, s, a⟩) 54))
  have hsz : (w.alloc (.cells (kdC ⟨op, se, ty, true, ig⟩) 50)).heap.size = w.heap.size + 1 := by simp
  generalize (w.alloc (.cells (kdC ⟨op, se, ty, true, ig⟩) 50)).alloc (.cells (lsC ⟨k, s, a⟩) 54) = v0 at *
  try rw [hsz]
  clear hsz
  obtain ⟨p, hp⟩ : ∃ p, p = w.heap.size := ⟨_, rfl⟩
  rw [← hp] at HX0 HL0 ⊢
  clear hp
  have c1 : v0.cell? ⟨p, 1, none⟩ = some (.int .i64 se) := HX0.out.cell 1
  have c2 : v0.cell? ⟨p, 2, none⟩ = some (.bool ty) := HX0.out.cell 2
  have c3 : v0.cell? ⟨p, 3, none⟩ = some (.bool true) := HX0.out.cell 3
  have d1 : v0.cell? ⟨p + 1, 1, none⟩ = some (.int .u64 (s : Int)) := HL0.out.cell 1
  have d2 : v0.cell? ⟨p + 1, 2, none⟩ = some (.bool a) := HL0.out.cell 2
  go_wp2_with (fail)
  go_ret
  exact ⟨rfl, HB0.out⟩
set_option maxRecDepth 100000 in
set_option maxHeartbeats 4000000 in
theorem allows_z_n_false (op se : Int) (ty : Bool) (ig : Bool) (t : Int) (k s : Nat) (a : Bool) (q0 : (t != 0) = false) (q1 : ((s : Int) != 0) = true) (q2 : (se == 0) = false) (w : World) : Calls Try.prog 15 #[kdV ⟨op, se, ty, false, ig⟩, .int .i64 t, lsV ⟨k, s, a⟩] w fun e w' => e = .returned (.bool (!a)) ∧ Below w.heap.size w w' := by
  have HX0 := Lib.hid ((Blk.new w 50 (kdC ⟨op, se, ty, false, ig⟩)).alloc (.cells (lsC ⟨k, s, a⟩) 54))
  have HL0 := Lib.hid (show Blk ((w.alloc (.cells (kdC ⟨op, se, ty, false, ig⟩) 50)).alloc (.cells (lsC ⟨k, s, a⟩) 54)) (w.heap.size + 1) 54 (lsC ⟨k, s, a⟩) by
    have := Blk.new (w.alloc (.cells (kdC ⟨op, se, ty, false, ig⟩) 50)) 54 (lsC ⟨k, s, a⟩)
    rwa [show (w.alloc (.cells (kdC ⟨op, se, ty, false, ig⟩) 50)).heap.size = w.heap.size + 1 by simp] at this)
  have HB0 := Lib.hid (((Below.refl w.heap.size w).alloc (Nat.le_refl _) (.cells (kdC ⟨op, se, ty, false, ig⟩) 50)).alloc (by simp) (.cells (lsC ⟨k, s, a⟩) 54))
  go_enter Try.func15, Try.ntmps15
  go_upto_region 1 with (fail)
  change Code.wp _ _ _ _ ((w.alloc (.cells (kdC ⟨op, se, ty, false, ig⟩) 50)).alloc (.cells (lsC ⟨k, s, a⟩) 54))
  have hsz : (w.alloc (.cells (kdC ⟨op, se, ty, false, ig⟩) 50)).heap.size = w.heap.size + 1 := by simp
  generalize (w.alloc (.cells (kdC ⟨op, se, ty, false, ig⟩) 50)).alloc (.cells (lsC ⟨k, s, a⟩) 54) = v0 at *
  try rw [hsz]
  clear hsz
  obtain ⟨p, hp⟩ : ∃ p, p = w.heap.size := ⟨_, rfl⟩
  rw [← hp] at HX0 HL0 ⊢
  clear hp
  have c1 : v0.cell? ⟨p, 1, none⟩ = some (.int .i64 se) := HX0.out.cell 1
  have c2 : v0.cell? ⟨p, 2, none⟩ = some (.bool ty) := HX0.out.cell 2
  have c3 : v0.cell? ⟨p, 3, none⟩ = some (.bool false) := HX0.out.cell 3
  have d1 : v0.cell? ⟨p + 1, 1, none⟩ = some (.int .u64 (s : Int)) := HL0.out.cell 1
  have d2 : v0.cell? ⟨p + 1, 2, none⟩ = some (.bool a) := HL0.out.cell 2
  go_wp2_with (fail)
  go_ret
  exact ⟨rfl, HB0.out⟩
set_option maxRecDepth 100000 in
set_option maxHeartbeats 4000000 in
theorem allows_y_b (op se : Int) (st : Bool) (ig : Bool) (t : Int) (k s : Nat) (a : Bool) (q0 : (t != 0) = true) (q1 : ((s : Int) != 0) = true) (q2 : (se == 0) = true) (w : World) : Calls Try.prog 15 #[kdV ⟨op, se, true, st, ig⟩, .int .i64 t, lsV ⟨k, s, a⟩] w fun e w' => e = .returned (.bool (false)) ∧ Below w.heap.size w w' := by
  have HX0 := Lib.hid ((Blk.new w 50 (kdC ⟨op, se, true, st, ig⟩)).alloc (.cells (lsC ⟨k, s, a⟩) 54))
  have HL0 := Lib.hid (show Blk ((w.alloc (.cells (kdC ⟨op, se, true, st, ig⟩) 50)).alloc (.cells (lsC ⟨k, s, a⟩) 54)) (w.heap.size + 1) 54 (lsC ⟨k, s, a⟩) by
    have := Blk.new (w.alloc (.cells (kdC ⟨op, se, true, st, ig⟩) 50)) 54 (lsC ⟨k, s, a⟩)
    rwa [show (w.alloc (.cells (kdC ⟨op, se, true, st, ig⟩) 50)).heap.size = w.heap.size + 1 by simp] at this)
  have HB0 := Lib.hid (((Below.refl w.heap.size w).alloc (Nat.le_refl _) (.cells (kdC ⟨op, se, true, st, ig⟩) 50)).alloc (by simp) (.cells (lsC ⟨k, s, a⟩) 54))
  go_enter Try.func15, Try.ntmps15
  go_upto_region 1 with (fail)
  change Code.wp _ _ _ _ ((w.alloc (.cells (kdC ⟨op, se, true, st, ig⟩) 50)).alloc (.cells (lsC ⟨k, s, a⟩) 54))
  have hsz : (w.alloc (.cells (kdC ⟨op, se, true, st, ig⟩) 50)).heap.size = w.heap.size + 1 := by simp
  generalize (w.alloc (.cells (kdC ⟨op, se, true, st, ig⟩) 50)).alloc (.cells (lsC ⟨k, s, a⟩) 54) = v0 at *
  try rw [hsz]
  clear hsz
  obtain ⟨p, hp⟩ : ∃ p, p = w.heap.size := ⟨_, rfl⟩
  rw [← hp] at HX0 HL0 ⊢
  clear hp
  have c1 : v0.cell? ⟨p, 1, none⟩ = some (.int .i64 se) := HX0.out.cell 1
  have c2 : v0.cell? ⟨p, 2, none⟩ = some (.bool true) := HX0.out.cell 2
  have c3 : v0.cell? ⟨p, 3, none⟩ = some (.bool st) := HX0.out.cell 3
  have d1 : v0.cell? ⟨p + 1, 1, none⟩ = some (.int .u64 (s : Int)) := HL0.out.cell 1
  have d2 : v0.cell? ⟨p + 1, 2, none⟩ = some (.bool a) := HL0.out.cell 2
  go_wp2_with (fail)
  go_ret
  exact ⟨rfl, HB0.out⟩
set_option maxRecDepth 100000 in
set_option maxHeartbeats 4000000 in
theorem allows_y_s_true (op se : Int) (ig : Bool) (t : Int) (k s : Nat) (a : Bool) (q0 : (t != 0) = true) (q1 : ((s : Int) != 0) = false) (w : World) : Calls Try.prog 15 #[kdV ⟨op, se, true, true, ig⟩, .int .i64 t, lsV ⟨k, s, a⟩] w fun e w' => e = .returned (.bool (true)) ∧ Below w.heap.size w w' := by
  have HX0 := Lib.hid ((Blk.new w 50 (kdC ⟨op, se, true, true, ig⟩)).alloc (.cells (lsC ⟨k, s, a⟩) 54))
  have HL0 := Lib.hid (show Blk ((w.alloc (.cells (kdC ⟨op, se, true, true, ig⟩) 50)).alloc (.cells (lsC ⟨k, s, a⟩) 54)) (w.heap.size + 1) 54 (lsC ⟨k, s, a⟩) by
    have := Blk.new (w.alloc (.cells (kdC ⟨op, se, true, true, ig⟩) 50)) 54 (lsC ⟨k, s, a⟩)
    rwa [show (w.alloc (.cells (kdC ⟨op, se, true, true, ig⟩) 50)).heap.size = w.heap.size + 1 by simp] at this)
  have HB0 := Lib.hid (((Below.refl w.heap.size w).alloc (Nat.le_refl _) (.cells (kdC ⟨op, se, true, true, ig⟩) 50)).alloc (by simp) (.cells (lsC ⟨k, s, a⟩) 54))
  go_enter Try.func15, Try.ntmps15
  go_upto_region 1 with (fail)
  change Code.wp _ _ _ _ ((w.alloc (.cells (kdC ⟨op, se, true, true, ig⟩) 50)).alloc (.cells (lsC ⟨k, s, a⟩) 54))
  have hsz : (w.alloc (.cells (kdC ⟨op, se, true, true, ig⟩) 50)).heap.size = w.heap.size + 1 := by simp
  generalize (w.alloc (.cells (kdC ⟨op, se, true, true, ig⟩) 50)).alloc (.cells (lsC ⟨k, s, a⟩) 54) = v0 at *
  try rw [hsz]
  clear hsz
  obtain ⟨p, hp⟩ : ∃ p, p = w.heap.size := ⟨_, rfl⟩
  rw [← hp] at HX0 HL0 ⊢
  clear hp
  have c1 : v0.cell? ⟨p, 1, none⟩ = some (.int .i64 se) := HX0.out.cell 1
  have c2 : v0.cell? ⟨p, 2, none⟩ = some (.bool true) := HX0.out.cell 2
  have c3 : v0.cell? ⟨p, 3, none⟩ = some (.bool true) := HX0.out.cell 3
  have d1 : v0.cell? ⟨p + 1, 1, none⟩ = some (.int .u64 (s : Int)) := HL0.out.cell 1
  have d2 : v0.cell? ⟨p + 1, 2, none⟩ = some (.bool a) := HL0.out.cell 2
  go_wp2_with (fail)
  go_ret
  exact ⟨rfl, HB0.out⟩
set_option maxRecDepth 100000 in
set_option maxHeartbeats 4000000 in
theorem allows_y_s_false (op se : Int) (ig : Bool) (t : Int) (k s : Nat) (a : Bool) (q0 : (t != 0) = true) (q1 : ((s : Int) != 0) = false) (w : World) : Calls Try.prog 15 #[kdV ⟨op, se, true, false, ig⟩, .int .i64 t, lsV ⟨k, s, a⟩] w fun e w' => e = .returned (.bool (!a)) ∧ Below w.heap.size w w' := by
  have HX0 := Lib.hid ((Blk.new w 50 (kdC ⟨op, se, true, false, ig⟩)).alloc (.cells (lsC ⟨k, s, a⟩) 54))
  have HL0 := Lib.hid (show Blk ((w.alloc (.cells (kdC ⟨op, se, true, false, ig⟩) 50)).alloc (.cells (lsC ⟨k, s, a⟩) 54)) (w.heap.size + 1) 54 (lsC ⟨k, s, a⟩) by
    have := Blk.new (w.alloc (.cells (kdC ⟨op, se, true, false, ig⟩) 50)) 54 (lsC ⟨k, s, a⟩)
    rwa [show (w.alloc (.cells (kdC ⟨op, se, true, false, ig⟩) 50)).heap.size = w.heap.size + 1 by simp] at this)
  have HB0 := Lib.hid (((Below.refl w.heap.size w).alloc (Nat.le_refl _) (.cells (kdC ⟨op, se, true, false, ig⟩) 50)).alloc (by simp) (.cells (lsC ⟨k, s, a⟩) 54))
  go_enter Try.func15, Try.ntmps15
  go_upto_region 1 with (fail)
  change Code.wp _ _ _ _ ((w.alloc (.cells (kdC ⟨op, se, true, false, ig⟩) 50)).alloc (.cells (lsC ⟨k, s, a⟩) 54))
  have hsz : (w.alloc (.cells (kdC ⟨op, se, true, false, ig⟩) 50)).heap.size = w.heap.size + 1 := by simp
  generalize (w.alloc (.cells (kdC ⟨op, se, true, false, ig⟩) 50)).alloc (.cells (lsC ⟨k, s, a⟩) 54) = v0 at *
  try rw [hsz]
  clear hsz
  obtain ⟨p, hp⟩ : ∃ p, p = w.heap.size := ⟨_, rfl⟩
  rw [← hp] at HX0 HL0 ⊢
  clear hp
  have c1 : v0.cell? ⟨p, 1, none⟩ = some (.int .i64 se) := HX0.out.cell 1
  have c2 : v0.cell? ⟨p, 2, none⟩ = some (.bool true) := HX0.out.cell 2
  have c3 : v0.cell? ⟨p, 3, none⟩ = some (.bool false) := HX0.out.cell 3
  have d1 : v0.cell? ⟨p + 1, 1, none⟩ = some (.int .u64 (s : Int)) := HL0.out.cell 1
  have d2 : v0.cell? ⟨p + 1, 2, none⟩ = some (.bool a) := HL0.out.cell 2
  go_wp2_with (fail)
  go_ret
  exact ⟨rfl, HB0.out⟩
set_option maxRecDepth 100000 in
set_option maxHeartbeats 4000000 in
theorem allows_y_n_true (op se : Int) (ig : Bool) (t : Int) (k s : Nat) (a : Bool) (q0 : (t != 0) = true) (q1 : ((s : Int) != 0) = true) (q2 : (se == 0) = false) (w : World) : Calls Try.prog 15 #[kdV ⟨op, se, true, true, ig⟩, .int .i64 t, lsV ⟨k, s, a⟩] w fun e w' => e = .returned (.bool (true)) ∧ Below w.heap.size w w' := by
  have HX0 := Lib.hid ((Blk.new w 50 (kdC ⟨op, se, true, true, ig⟩)).alloc (.cells (lsC ⟨k, s, a⟩) 54))
  have HL0 := Lib.hid (show Blk ((w.alloc (.cells (kdC ⟨op, se, true, true, ig⟩) 50)).alloc (.cells (lsC ⟨k, s, a⟩) 54)) (w.heap.size + 1) 54 (lsC ⟨k, s, a⟩) by
    have := Blk.new (w.alloc (.cells (kdC ⟨op, se, true, true, ig⟩) 50)) 54 (lsC ⟨k, s, a⟩)
    rwa [show (w.alloc (.cells (kdC ⟨op, se, true, true, ig⟩) 50)).heap.size = w.heap.size + 1 by simp] at this)
  have HB0 := Lib.hid (((Below.refl w.heap.size w).alloc (Nat.le_refl _) (.cells (kdC ⟨op, se, true, true, ig⟩) 50)).alloc (by simp) (.cells (lsC ⟨k, s, a⟩) 54))
  go_enter Try.func15, Try.ntmps15
  go_upto_region 1 with (fail)
  change Code.wp _ _ _ _ ((w.alloc (.cells (kdC ⟨op, se, true, true, ig⟩) 50)).alloc (.cells (lsC ⟨k, s, a⟩) 54))
  have hsz : (w.alloc (.cells (kdC ⟨op, se, true, true, ig⟩) 50)).heap.size = w.heap.size + 1 := by simp
  generalize (w.alloc (.cells (kdC ⟨op, se, true, true, ig⟩) 50)).alloc (.cells (lsC ⟨k, s, a⟩) 54) = v0 at *
  try rw [hsz]
  clear hsz
  obtain ⟨p, hp⟩ : ∃ p, p = w.heap.size := ⟨_, rfl⟩
  rw [← hp] at HX0 HL0 ⊢
  clear hp
  have c1 : v0.cell? ⟨p, 1, none⟩ = some (.int .i64 se) := HX0.out.cell 1
  have c2 : v0.cell? ⟨p, 2, none⟩ = some (.bool true) := HX0.out.cell 2
  have c3 : v0.cell? ⟨p, 3, none⟩ = some (.bool true) := HX0.out.cell 3
  have d1 : v0.cell? ⟨p + 1, 1, none⟩ = some (.int .u64 (s : Int)) := HL0.out.cell 1
  have d2 : v0.cell? ⟨p + 1, 2, none⟩ = some (.bool a) := HL0.out.cell 2
  go_wp2_with (fail)
  go_ret
  exact ⟨rfl, HB0.out⟩
set_option maxRecDepth 100000 in
set_option maxHeartbeats 4000000 in
theorem allows_y_n_false (op se : Int) (ig : Bool) (t : Int) (k s : Nat) (a : Bool) (q0 : (t != 0) = true) (q1 : ((s : Int) != 0) = true) (q2 : (se == 0) = false) (w : World) : Calls Try.prog 15 #[kdV ⟨op, se, true, false, ig⟩, .int .i64 t, lsV ⟨k, s, a⟩] w fun e w' => e = .returned (.bool (!a)) ∧ Below w.heap.size w w' := by
  have HX0 := Lib.hid ((Blk.new w 50 (kdC ⟨op, se, true, false, ig⟩)).alloc (.cells (lsC ⟨k, s, a⟩) 54))
  have HL0 := Lib.hid (show Blk ((w.alloc (.cells (kdC ⟨op, se, true, false, ig⟩) 50)).alloc (.cells (lsC ⟨k, s, a⟩) 54)) (w.heap.size + 1) 54 (lsC ⟨k, s, a⟩) by
    have := Blk.new (w.alloc (.cells (kdC ⟨op, se, true, false, ig⟩) 50)) 54 (lsC ⟨k, s, a⟩)
    rwa [show (w.alloc (.cells (kdC ⟨op, se, true, false, ig⟩) 50)).heap.size = w.heap.size + 1 by simp] at this)
  have HB0 := Lib.hid (((Below.refl w.heap.size w).alloc (Nat.le_refl _) (.cells (kdC ⟨op, se, true, false, ig⟩) 50)).alloc (by simp) (.cells (lsC ⟨k, s, a⟩) 54))
  go_enter Try.func15, Try.ntmps15
  go_upto_region 1 with (fail)
  change Code.wp _ _ _ _ ((w.alloc (.cells (kdC ⟨op, se, true, false, ig⟩) 50)).alloc (.cells (lsC ⟨k, s, a⟩) 54))
  have hsz : (w.alloc (.cells (kdC ⟨op, se, true, false, ig⟩) 50)).heap.size = w.heap.size + 1 := by simp
  generalize (w.alloc (.cells (kdC ⟨op, se, true, false, ig⟩) 50)).alloc (.cells (lsC ⟨k, s, a⟩) 54) = v0 at *
  try rw [hsz]
  clear hsz
  obtain ⟨p, hp⟩ : ∃ p, p = w.heap.size := ⟨_, rfl⟩
  rw [← hp] at HX0 HL0 ⊢
  clear hp
  have c1 : v0.cell? ⟨p, 1, none⟩ = some (.int .i64 se) := HX0.out.cell 1
  have c2 : v0.cell? ⟨p, 2, none⟩ = some (.bool true) := HX0.out.cell 2
  have c3 : v0.cell? ⟨p, 3, none⟩ = some (.bool false) := HX0.out.cell 3
  have d1 : v0.cell? ⟨p + 1, 1, none⟩ = some (.int .u64 (s : Int)) := HL0.out.cell 1
  have d2 : v0.cell? ⟨p + 1, 2, none⟩ = some (.bool a) := HL0.out.cell 2
  go_wp2_with (fail)
  go_ret
  exact ⟨rfl, HB0.out⟩
theorem allows_any (k : Kd) (t : Int) (l : Ls) (w : World) : Calls Try.prog 15 #[kdV k, .int .i64 t, lsV l] w fun e w' => e = .returned (.bool (alB k t l)) ∧ Below w.heap.size w w' := by
  obtain ⟨op, se, ty, st, ig⟩ := k
  obtain ⟨k, s, a⟩ := l
  have qs : ((s : Int) != 0) = (s != 0) := by
    cases h : (s != 0) with
    | true => rw [bne_iff_ne] at h ⊢; omega
    | false => rw [bne_eq_false_iff_eq] at h ⊢; omega
  cases q0 : (t != 0) with
  | true =>
    cases ty with
    | false =>
      have := allows_t op se st ig t k s a q0 w
      simpa [alB, q0] using this
    | true =>
      cases q1 : (s != 0) with
      | true =>
        cases q2 : (se == 0) with
        | true => have := allows_y_b op se st ig t k s a q0 (qs.trans q1) q2 w; simpa [alB, q0, q1, q2] using this
        | false =>
          cases st with
          | true => have := allows_y_n_true op se ig t k s a q0 (qs.trans q1) q2 w; simpa [alB, q0, q1, q2] using this
          | false => have := allows_y_n_false op se ig t k s a q0 (qs.trans q1) q2 w; simpa [alB, q0, q1, q2] using this
      | false =>
        cases st with
        | true => have := allows_y_s_true op se ig t k s a q0 (qs.trans q1) w; simpa [alB, q0, q1] using this
        | false => have := allows_y_s_false op se ig t k s a q0 (qs.trans q1) w; simpa [alB, q0, q1] using this
  | false =>
    cases q1 : (s != 0) with
    | true =>
      cases q2 : (se == 0) with
      | true => have := allows_z_b op se ty st ig t k s a q0 (qs.trans q1) q2 w; simpa [alB, q0, q1, q2] using this
      | false =>
        cases st with
        | true => have := allows_z_n_true op se ty ig t k s a q0 (qs.trans q1) q2 w; simpa [alB, q0, q1, q2] using this
        | false => have := allows_z_n_false op se ty ig t k s a q0 (qs.trans q1) q2 w; simpa [alB, q0, q1, q2] using this
    | false =>
      cases st with
      | true => have := allows_z_s_true op se ty ig t k s a q0 (qs.trans q1) w; simpa [alB, q0, q1] using this
      | false => have := allows_z_s_false op se ty ig t k s a q0 (qs.trans q1) w; simpa [alB, q0, q1] using this
end Go.Proofs.Ytdggipgieanpeaa.Pc
