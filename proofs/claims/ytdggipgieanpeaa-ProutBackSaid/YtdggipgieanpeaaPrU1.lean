/- Are two commands alike: the code's same, by the first field in which they differ. -/
import Derived.Test.YtdggipgieanpeaaPrU0
namespace Go.Proofs.Ytdggipgieanpeaa.Pc
open Go.RowKit
set_option maxRecDepth 100000 in
set_option maxHeartbeats 16000000 in
theorem psame_0 (c d : Kc) (hd : d.rn = 0) (q0 : (d.op == c.op) = false) (w : World) : Calls Try.prog 21 #[kcV d, kcV c] w fun e w' => e = .returned (.bool (sameK c d)) ∧ Below w.heap.size w w' := by
  have HN := Lib.hid hd; clear hd
  have HD0 := Lib.hid ((Blk.new w 26 (kcC d)).alloc (.cells (kcC c) 26))
  have HC0 := Lib.hid (show Blk ((w.alloc (.cells (kcC d) 26)).alloc (.cells (kcC c) 26)) (w.heap.size + 1) 26 (kcC c) by
    have := Blk.new (w.alloc (.cells (kcC d) 26)) 26 (kcC c)
    rwa [show (w.alloc (.cells (kcC d) 26)).heap.size = w.heap.size + 1 by simp] at this)
  have HB0 := Lib.hid (((Below.refl w.heap.size w).alloc (Nat.le_refl _) (.cells (kcC d) 26)).alloc (by simp) (.cells (kcC c) 26))
  have HV := Lib.hid (same_turn c d)
  have Q0 := Lib.hid q0
  go_enter Try.func21, Try.ntmps21
  go_upto_region 1 with (fail)
  change Code.wp _ _ _ _ ((w.alloc (.cells (kcC d) 26)).alloc (.cells (kcC c) 26))
  have hsz : (w.alloc (.cells (kcC d) 26)).heap.size = w.heap.size + 1 := by simp
  generalize (w.alloc (.cells (kcC d) 26)).alloc (.cells (kcC c) 26) = v0 at *
  try rw [hsz]
  clear hsz
  obtain ⟨p, hp⟩ : ∃ p, p = w.heap.size := ⟨_, rfl⟩
  rw [← hp] at HC0 HD0 ⊢
  clear hp
  have d0 : v0.cell? ⟨p, 0, none⟩ = some (.int .i64 d.op) := HD0.out.cell 0
  have c0 : v0.cell? ⟨p + 1, 0, none⟩ = some (.int .i64 c.op) := HC0.out.cell 0
  go_wp2_with (fail)
  go_ret
  exact ⟨by rw [HV.out, Q0.out]; rfl, HB0.out⟩
set_option maxRecDepth 100000 in
set_option maxHeartbeats 16000000 in
theorem psame_1 (c d : Kc) (hd : d.rn = 0) (q0 : (d.op == c.op) = true) (q1 : (d.lu == c.lu) = false) (w : World) : Calls Try.prog 21 #[kcV d, kcV c] w fun e w' => e = .returned (.bool (sameK c d)) ∧ Below w.heap.size w w' := by
  have HN := Lib.hid hd; clear hd
  have HD0 := Lib.hid ((Blk.new w 26 (kcC d)).alloc (.cells (kcC c) 26))
  have HC0 := Lib.hid (show Blk ((w.alloc (.cells (kcC d) 26)).alloc (.cells (kcC c) 26)) (w.heap.size + 1) 26 (kcC c) by
    have := Blk.new (w.alloc (.cells (kcC d) 26)) 26 (kcC c)
    rwa [show (w.alloc (.cells (kcC d) 26)).heap.size = w.heap.size + 1 by simp] at this)
  have HB0 := Lib.hid (((Below.refl w.heap.size w).alloc (Nat.le_refl _) (.cells (kcC d) 26)).alloc (by simp) (.cells (kcC c) 26))
  have HV := Lib.hid (same_turn c d)
  have Q0 := Lib.hid q0
  have Q1 := Lib.hid q1
  go_enter Try.func21, Try.ntmps21
  go_upto_region 1 with (fail)
  change Code.wp _ _ _ _ ((w.alloc (.cells (kcC d) 26)).alloc (.cells (kcC c) 26))
  have hsz : (w.alloc (.cells (kcC d) 26)).heap.size = w.heap.size + 1 := by simp
  generalize (w.alloc (.cells (kcC d) 26)).alloc (.cells (kcC c) 26) = v0 at *
  try rw [hsz]
  clear hsz
  obtain ⟨p, hp⟩ : ∃ p, p = w.heap.size := ⟨_, rfl⟩
  rw [← hp] at HC0 HD0 ⊢
  clear hp
  have d0 : v0.cell? ⟨p, 0, none⟩ = some (.int .i64 d.op) := HD0.out.cell 0
  have c0 : v0.cell? ⟨p + 1, 0, none⟩ = some (.int .i64 c.op) := HC0.out.cell 0
  have d1 : v0.cell? ⟨p, 1, none⟩ = some (.int .i64 d.lu) := HD0.out.cell 1
  have c1 : v0.cell? ⟨p + 1, 1, none⟩ = some (.int .i64 c.lu) := HC0.out.cell 1
  go_wp2_with (fail)
  go_ret
  exact ⟨by rw [HV.out, Q0.out, Q1.out]; rfl, HB0.out⟩
set_option maxRecDepth 100000 in
set_option maxHeartbeats 16000000 in
theorem psame_2 (c d : Kc) (hd : d.rn = 0) (q0 : (d.op == c.op) = true) (q1 : (d.lu == c.lu) = true) (q2 : (d.ho.toList == c.ho.toList) = false) (w : World) : Calls Try.prog 21 #[kcV d, kcV c] w fun e w' => e = .returned (.bool (sameK c d)) ∧ Below w.heap.size w w' := by
  have HN := Lib.hid hd; clear hd
  have HD0 := Lib.hid ((Blk.new w 26 (kcC d)).alloc (.cells (kcC c) 26))
  have HC0 := Lib.hid (show Blk ((w.alloc (.cells (kcC d) 26)).alloc (.cells (kcC c) 26)) (w.heap.size + 1) 26 (kcC c) by
    have := Blk.new (w.alloc (.cells (kcC d) 26)) 26 (kcC c)
    rwa [show (w.alloc (.cells (kcC d) 26)).heap.size = w.heap.size + 1 by simp] at this)
  have HB0 := Lib.hid (((Below.refl w.heap.size w).alloc (Nat.le_refl _) (.cells (kcC d) 26)).alloc (by simp) (.cells (kcC c) 26))
  have HV := Lib.hid (same_turn c d)
  have Q0 := Lib.hid q0
  have Q1 := Lib.hid q1
  have Q2 := Lib.hid q2
  go_enter Try.func21, Try.ntmps21
  go_upto_region 1 with (fail)
  change Code.wp _ _ _ _ ((w.alloc (.cells (kcC d) 26)).alloc (.cells (kcC c) 26))
  have hsz : (w.alloc (.cells (kcC d) 26)).heap.size = w.heap.size + 1 := by simp
  generalize (w.alloc (.cells (kcC d) 26)).alloc (.cells (kcC c) 26) = v0 at *
  try rw [hsz]
  clear hsz
  obtain ⟨p, hp⟩ : ∃ p, p = w.heap.size := ⟨_, rfl⟩
  rw [← hp] at HC0 HD0 ⊢
  clear hp
  have d0 : v0.cell? ⟨p, 0, none⟩ = some (.int .i64 d.op) := HD0.out.cell 0
  have c0 : v0.cell? ⟨p + 1, 0, none⟩ = some (.int .i64 c.op) := HC0.out.cell 0
  have d1 : v0.cell? ⟨p, 1, none⟩ = some (.int .i64 d.lu) := HD0.out.cell 1
  have c1 : v0.cell? ⟨p + 1, 1, none⟩ = some (.int .i64 c.lu) := HC0.out.cell 1
  have d2 : v0.cell? ⟨p, 2, none⟩ = some (.string d.ho) := HD0.out.cell 2
  have c2 : v0.cell? ⟨p + 1, 2, none⟩ = some (.string c.ho) := HC0.out.cell 2
  go_wp2_with (fail)
  go_ret
  exact ⟨by rw [HV.out, Q0.out, Q1.out, Q2.out]; rfl, HB0.out⟩
set_option maxRecDepth 100000 in
set_option maxHeartbeats 16000000 in
theorem psame_3 (c d : Kc) (hd : d.rn = 0) (q0 : (d.op == c.op) = true) (q1 : (d.lu == c.lu) = true) (q2 : (d.ho.toList == c.ho.toList) = true) (q3 : (d.lb == c.lb) = false) (w : World) : Calls Try.prog 21 #[kcV d, kcV c] w fun e w' => e = .returned (.bool (sameK c d)) ∧ Below w.heap.size w w' := by
  have HN := Lib.hid hd; clear hd
  have HD0 := Lib.hid ((Blk.new w 26 (kcC d)).alloc (.cells (kcC c) 26))
  have HC0 := Lib.hid (show Blk ((w.alloc (.cells (kcC d) 26)).alloc (.cells (kcC c) 26)) (w.heap.size + 1) 26 (kcC c) by
    have := Blk.new (w.alloc (.cells (kcC d) 26)) 26 (kcC c)
    rwa [show (w.alloc (.cells (kcC d) 26)).heap.size = w.heap.size + 1 by simp] at this)
  have HB0 := Lib.hid (((Below.refl w.heap.size w).alloc (Nat.le_refl _) (.cells (kcC d) 26)).alloc (by simp) (.cells (kcC c) 26))
  have HV := Lib.hid (same_turn c d)
  have Q0 := Lib.hid q0
  have Q1 := Lib.hid q1
  have Q2 := Lib.hid q2
  have Q3 := Lib.hid q3
  go_enter Try.func21, Try.ntmps21
  go_upto_region 1 with (fail)
  change Code.wp _ _ _ _ ((w.alloc (.cells (kcC d) 26)).alloc (.cells (kcC c) 26))
  have hsz : (w.alloc (.cells (kcC d) 26)).heap.size = w.heap.size + 1 := by simp
  generalize (w.alloc (.cells (kcC d) 26)).alloc (.cells (kcC c) 26) = v0 at *
  try rw [hsz]
  clear hsz
  obtain ⟨p, hp⟩ : ∃ p, p = w.heap.size := ⟨_, rfl⟩
  rw [← hp] at HC0 HD0 ⊢
  clear hp
  have d0 : v0.cell? ⟨p, 0, none⟩ = some (.int .i64 d.op) := HD0.out.cell 0
  have c0 : v0.cell? ⟨p + 1, 0, none⟩ = some (.int .i64 c.op) := HC0.out.cell 0
  have d1 : v0.cell? ⟨p, 1, none⟩ = some (.int .i64 d.lu) := HD0.out.cell 1
  have c1 : v0.cell? ⟨p + 1, 1, none⟩ = some (.int .i64 c.lu) := HC0.out.cell 1
  have d2 : v0.cell? ⟨p, 2, none⟩ = some (.string d.ho) := HD0.out.cell 2
  have c2 : v0.cell? ⟨p + 1, 2, none⟩ = some (.string c.ho) := HC0.out.cell 2
  have d3 : v0.cell? ⟨p, 3, none⟩ = some (.int .i64 d.lb) := HD0.out.cell 3
  have c3 : v0.cell? ⟨p + 1, 3, none⟩ = some (.int .i64 c.lb) := HC0.out.cell 3
  go_wp2_with (fail)
  go_ret
  exact ⟨by rw [HV.out, Q0.out, Q1.out, Q2.out, Q3.out]; rfl, HB0.out⟩
set_option maxRecDepth 100000 in
set_option maxHeartbeats 16000000 in
theorem psame_4 (c d : Kc) (hd : d.rn = 0) (q0 : (d.op == c.op) = true) (q1 : (d.lu == c.lu) = true) (q2 : (d.ho.toList == c.ho.toList) = true) (q3 : (d.lb == c.lb) = true) (q4 : (d.bl == c.bl) = false) (w : World) : Calls Try.prog 21 #[kcV d, kcV c] w fun e w' => e = .returned (.bool (sameK c d)) ∧ Below w.heap.size w w' := by
  have HN := Lib.hid hd; clear hd
  have HD0 := Lib.hid ((Blk.new w 26 (kcC d)).alloc (.cells (kcC c) 26))
  have HC0 := Lib.hid (show Blk ((w.alloc (.cells (kcC d) 26)).alloc (.cells (kcC c) 26)) (w.heap.size + 1) 26 (kcC c) by
    have := Blk.new (w.alloc (.cells (kcC d) 26)) 26 (kcC c)
    rwa [show (w.alloc (.cells (kcC d) 26)).heap.size = w.heap.size + 1 by simp] at this)
  have HB0 := Lib.hid (((Below.refl w.heap.size w).alloc (Nat.le_refl _) (.cells (kcC d) 26)).alloc (by simp) (.cells (kcC c) 26))
  have HV := Lib.hid (same_turn c d)
  have Q0 := Lib.hid q0
  have Q1 := Lib.hid q1
  have Q2 := Lib.hid q2
  have Q3 := Lib.hid q3
  have Q4 := Lib.hid q4
  go_enter Try.func21, Try.ntmps21
  go_upto_region 1 with (fail)
  change Code.wp _ _ _ _ ((w.alloc (.cells (kcC d) 26)).alloc (.cells (kcC c) 26))
  have hsz : (w.alloc (.cells (kcC d) 26)).heap.size = w.heap.size + 1 := by simp
  generalize (w.alloc (.cells (kcC d) 26)).alloc (.cells (kcC c) 26) = v0 at *
  try rw [hsz]
  clear hsz
  obtain ⟨p, hp⟩ : ∃ p, p = w.heap.size := ⟨_, rfl⟩
  rw [← hp] at HC0 HD0 ⊢
  clear hp
  have d0 : v0.cell? ⟨p, 0, none⟩ = some (.int .i64 d.op) := HD0.out.cell 0
  have c0 : v0.cell? ⟨p + 1, 0, none⟩ = some (.int .i64 c.op) := HC0.out.cell 0
  have d1 : v0.cell? ⟨p, 1, none⟩ = some (.int .i64 d.lu) := HD0.out.cell 1
  have c1 : v0.cell? ⟨p + 1, 1, none⟩ = some (.int .i64 c.lu) := HC0.out.cell 1
  have d2 : v0.cell? ⟨p, 2, none⟩ = some (.string d.ho) := HD0.out.cell 2
  have c2 : v0.cell? ⟨p + 1, 2, none⟩ = some (.string c.ho) := HC0.out.cell 2
  have d3 : v0.cell? ⟨p, 3, none⟩ = some (.int .i64 d.lb) := HD0.out.cell 3
  have c3 : v0.cell? ⟨p + 1, 3, none⟩ = some (.int .i64 c.lb) := HC0.out.cell 3
  have d4 : v0.cell? ⟨p, 4, none⟩ = some (.int .i64 d.bl) := HD0.out.cell 4
  have c4 : v0.cell? ⟨p + 1, 4, none⟩ = some (.int .i64 c.bl) := HC0.out.cell 4
  go_wp2_with (fail)
  go_ret
  exact ⟨by rw [HV.out, Q0.out, Q1.out, Q2.out, Q3.out, Q4.out]; rfl, HB0.out⟩
end Go.Proofs.Ytdggipgieanpeaa.Pc
