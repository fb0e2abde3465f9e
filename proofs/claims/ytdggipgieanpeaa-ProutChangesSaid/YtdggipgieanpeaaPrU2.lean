/- Are two commands alike: the code's same, by the first field in which they differ. -/
import Derived.Test.YtdggipgieanpeaaPrU0
namespace Go.Proofs.Ytdggipgieanpeaa.Pc
open Go.RowKit
set_option maxRecDepth 100000 in
set_option maxHeartbeats 16000000 in
theorem psame_5 (c d : Kc) (hd : d.rn = 0) (q0 : (d.op == c.op) = true) (q1 : (d.lu == c.lu) = true) (q2 : (d.ho.toList == c.ho.toList) = true) (q3 : (d.lb == c.lb) = true) (q4 : (d.bl == c.bl) = true) (q5 : (d.da.toList == c.da.toList) = false) (w : World) : Calls Try.prog 21 #[kcV d, kcV c] w fun e w' => e = .returned (.bool (sameK c d)) ∧ Below w.heap.size w w' := by
  have HN := Lib.hid hd; clear hd
  have HD0 := Lib.hid ((Blk.new w 26 (kcC d)).alloc (.cells (kcC c) 26))
  have HC0 := Lib.hid (show Blk ((w.alloc (.cells (kcC d) 26)).alloc (.cells (kcC c) 26)) (w.heap.size + 1) 26 (kcC c) by
    have := Blk.new (w.alloc (.cells (kcC d) 26)) 26 (kcC c)
    rwa [show (w.alloc (.cells (kcC d) 26)).heap.size = w.heap.size + 1 by simp] at this)
  have HB0 := Lib.hid (((Below.refl w.heap.size w).alloc (Nat.le_refl _) (.cells (kcC d) 26)).alloc (by simp) (.cells (kcC c) 26))
  have HV := Lib.hid (same_turn c d)
  have Q0 := Lib.hid q0
  have Q1 := Lib.hid q1
  have Q2 := Lib.hid q2
  have Q3 := Lib.hid q3
  have Q4 := Lib.hid q4
  have Q5 := Lib.hid q5
  go_enter Try.func21, Try.ntmps21
  go_upto_region 1 with (fail)
  change Code.wp _ _ _ _ ((w.alloc (.cells (kcC d) 26)).alloc (.cells (kcC c) 26))
  have hsz : (w.alloc (.cells (kcC d) 26)).heap.size = w.heap.size + 1 := by simp
  generalize (w.alloc (.cells (kcC d) 26)).alloc (.cells (kcC c) 26) = v0 at *
  try rw [hsz]
  clear hsz
  obtain ⟨p, hp⟩ : ∃ p, p = w.heap.size := ⟨_, rfl⟩
  rw [← hp] at HC0 HD0 ⊢
  clear hp
  have d0 : v0.cell? ⟨p, 0, none⟩ = some (.int .i64 d.op) := HD0.out.cell 0
  have c0 : v0.cell? ⟨p + 1, 0, none⟩ = some (.int .i64 c.op) := HC0.out.cell 0
  have d1 : v0.cell? ⟨p, 1, none⟩ = some (.int .i64 d.lu) := HD0.out.cell 1
  have c1 : v0.cell? ⟨p + 1, 1, none⟩ = some (.int .i64 c.lu) := HC0.out.cell 1
  have d2 : v0.cell? ⟨p, 2, none⟩ = some (.string d.ho) := HD0.out.cell 2
  have c2 : v0.cell? ⟨p + 1, 2, none⟩ = some (.string c.ho) := HC0.out.cell 2
  have d3 : v0.cell? ⟨p, 3, none⟩ = some (.int .i64 d.lb) := HD0.out.cell 3
  have c3 : v0.cell? ⟨p + 1, 3, none⟩ = some (.int .i64 c.lb) := HC0.out.cell 3
  have d4 : v0.cell? ⟨p, 4, none⟩ = some (.int .i64 d.bl) := HD0.out.cell 4
  have c4 : v0.cell? ⟨p + 1, 4, none⟩ = some (.int .i64 c.bl) := HC0.out.cell 4
  have d5 : v0.cell? ⟨p, 5, none⟩ = some (.string d.da) := HD0.out.cell 5
  have c5 : v0.cell? ⟨p + 1, 5, none⟩ = some (.string c.da) := HC0.out.cell 5
  go_wp2_with (fail)
  go_ret
  exact ⟨by rw [HV.out, Q0.out, Q1.out, Q2.out, Q3.out, Q4.out, Q5.out]; rfl, HB0.out⟩
set_option maxRecDepth 100000 in
set_option maxHeartbeats 16000000 in
theorem psame_6 (c d : Kc) (hd : d.rn = 0) (q0 : (d.op == c.op) = true) (q1 : (d.lu == c.lu) = true) (q2 : (d.ho.toList == c.ho.toList) = true) (q3 : (d.lb == c.lb) = true) (q4 : (d.bl == c.bl) = true) (q5 : (d.da.toList == c.da.toList) = true) (q6 : (d.fu == c.fu) = false) (w : World) : Calls Try.prog 21 #[kcV d, kcV c] w fun e w' => e = .returned (.bool (sameK c d)) ∧ Below w.heap.size w w' := by
  have HN := Lib.hid hd; clear hd
  have HD0 := Lib.hid ((Blk.new w 26 (kcC d)).alloc (.cells (kcC c) 26))
  have HC0 := Lib.hid (show Blk ((w.alloc (.cells (kcC d) 26)).alloc (.cells (kcC c) 26)) (w.heap.size + 1) 26 (kcC c) by
    have := Blk.new (w.alloc (.cells (kcC d) 26)) 26 (kcC c)
    rwa [show (w.alloc (.cells (kcC d) 26)).heap.size = w.heap.size + 1 by simp] at this)
  have HB0 := Lib.hid (((Below.refl w.heap.size w).alloc (Nat.le_refl _) (.cells (kcC d) 26)).alloc (by simp) (.cells (kcC c) 26))
  have HV := Lib.hid (same_turn c d)
  have Q0 := Lib.hid q0
  have Q1 := Lib.hid q1
  have Q2 := Lib.hid q2
  have Q3 := Lib.hid q3
  have Q4 := Lib.hid q4
  have Q5 := Lib.hid q5
  have Q6 := Lib.hid q6
  go_enter Try.func21, Try.ntmps21
  go_upto_region 1 with (fail)
  change Code.wp _ _ _ _ ((w.alloc (.cells (kcC d) 26)).alloc (.cells (kcC c) 26))
  have hsz : (w.alloc (.cells (kcC d) 26)).heap.size = w.heap.size + 1 := by simp
  generalize (w.alloc (.cells (kcC d) 26)).alloc (.cells (kcC c) 26) = v0 at *
  try rw [hsz]
  clear hsz
  obtain ⟨p, hp⟩ : ∃ p, p = w.heap.size := ⟨_, rfl⟩
  rw [← hp] at HC0 HD0 ⊢
  clear hp
  have d0 : v0.cell? ⟨p, 0, none⟩ = some (.int .i64 d.op) := HD0.out.cell 0
  have c0 : v0.cell? ⟨p + 1, 0, none⟩ = some (.int .i64 c.op) := HC0.out.cell 0
  have d1 : v0.cell? ⟨p, 1, none⟩ = some (.int .i64 d.lu) := HD0.out.cell 1
  have c1 : v0.cell? ⟨p + 1, 1, none⟩ = some (.int .i64 c.lu) := HC0.out.cell 1
  have d2 : v0.cell? ⟨p, 2, none⟩ = some (.string d.ho) := HD0.out.cell 2
  have c2 : v0.cell? ⟨p + 1, 2, none⟩ = some (.string c.ho) := HC0.out.cell 2
  have d3 : v0.cell? ⟨p, 3, none⟩ = some (.int .i64 d.lb) := HD0.out.cell 3
  have c3 : v0.cell? ⟨p + 1, 3, none⟩ = some (.int .i64 c.lb) := HC0.out.cell 3
  have d4 : v0.cell? ⟨p, 4, none⟩ = some (.int .i64 d.bl) := HD0.out.cell 4
  have c4 : v0.cell? ⟨p + 1, 4, none⟩ = some (.int .i64 c.bl) := HC0.out.cell 4
  have d5 : v0.cell? ⟨p, 5, none⟩ = some (.string d.da) := HD0.out.cell 5
  have c5 : v0.cell? ⟨p + 1, 5, none⟩ = some (.string c.da) := HC0.out.cell 5
  have d6 : v0.cell? ⟨p, 6, none⟩ = some (.bool d.fu) := HD0.out.cell 6
  have c6 : v0.cell? ⟨p + 1, 6, none⟩ = some (.bool c.fu) := HC0.out.cell 6
  go_wp2_with (fail)
  go_ret
  exact ⟨by rw [HV.out, Q0.out, Q1.out, Q2.out, Q3.out, Q4.out, Q5.out, Q6.out]; rfl, HB0.out⟩
set_option maxRecDepth 100000 in
set_option maxHeartbeats 16000000 in
theorem psame_7 (c d : Kc) (hd : d.rn = 0) (q0 : (d.op == c.op) = true) (q1 : (d.lu == c.lu) = true) (q2 : (d.ho.toList == c.ho.toList) = true) (q3 : (d.lb == c.lb) = true) (q4 : (d.bl == c.bl) = true) (q5 : (d.da.toList == c.da.toList) = true) (q6 : (d.fu == c.fu) = true) (q7 : (c.rn == 0) = false) (w : World) : Calls Try.prog 21 #[kcV d, kcV c] w fun e w' => e = .returned (.bool (sameK c d)) ∧ Below w.heap.size w w' := by
  have HN := Lib.hid hd; clear hd
  have HD0 := Lib.hid ((Blk.new w 26 (kcC d)).alloc (.cells (kcC c) 26))
  have HC0 := Lib.hid (show Blk ((w.alloc (.cells (kcC d) 26)).alloc (.cells (kcC c) 26)) (w.heap.size + 1) 26 (kcC c) by
    have := Blk.new (w.alloc (.cells (kcC d) 26)) 26 (kcC c)
    rwa [show (w.alloc (.cells (kcC d) 26)).heap.size = w.heap.size + 1 by simp] at this)
  have HB0 := Lib.hid (((Below.refl w.heap.size w).alloc (Nat.le_refl _) (.cells (kcC d) 26)).alloc (by simp) (.cells (kcC c) 26))
  have HV := Lib.hid (same_turn c d)
  have Q0 := Lib.hid q0
  have Q1 := Lib.hid q1
  have Q2 := Lib.hid q2
  have Q3 := Lib.hid q3
  have Q4 := Lib.hid q4
  have Q5 := Lib.hid q5
  have Q6 := Lib.hid q6
  have Q7 := Lib.hid q7
  clear q7
  go_enter Try.func21, Try.ntmps21
  go_upto_region 1 with (fail)
  change Code.wp _ _ _ _ ((w.alloc (.cells (kcC d) 26)).alloc (.cells (kcC c) 26))
  have hsz : (w.alloc (.cells (kcC d) 26)).heap.size = w.heap.size + 1 := by simp
  generalize (w.alloc (.cells (kcC d) 26)).alloc (.cells (kcC c) 26) = v0 at *
  try rw [hsz]
  clear hsz
  obtain ⟨p, hp⟩ : ∃ p, p = w.heap.size := ⟨_, rfl⟩
  rw [← hp] at HC0 HD0 ⊢
  clear hp
  have d0 : v0.cell? ⟨p, 0, none⟩ = some (.int .i64 d.op) := HD0.out.cell 0
  have c0 : v0.cell? ⟨p + 1, 0, none⟩ = some (.int .i64 c.op) := HC0.out.cell 0
  have d1 : v0.cell? ⟨p, 1, none⟩ = some (.int .i64 d.lu) := HD0.out.cell 1
  have c1 : v0.cell? ⟨p + 1, 1, none⟩ = some (.int .i64 c.lu) := HC0.out.cell 1
  have d2 : v0.cell? ⟨p, 2, none⟩ = some (.string d.ho) := HD0.out.cell 2
  have c2 : v0.cell? ⟨p + 1, 2, none⟩ = some (.string c.ho) := HC0.out.cell 2
  have d3 : v0.cell? ⟨p, 3, none⟩ = some (.int .i64 d.lb) := HD0.out.cell 3
  have c3 : v0.cell? ⟨p + 1, 3, none⟩ = some (.int .i64 c.lb) := HC0.out.cell 3
  have d4 : v0.cell? ⟨p, 4, none⟩ = some (.int .i64 d.bl) := HD0.out.cell 4
  have c4 : v0.cell? ⟨p + 1, 4, none⟩ = some (.int .i64 c.bl) := HC0.out.cell 4
  have d5 : v0.cell? ⟨p, 5, none⟩ = some (.string d.da) := HD0.out.cell 5
  have c5 : v0.cell? ⟨p + 1, 5, none⟩ = some (.string c.da) := HC0.out.cell 5
  have d6 : v0.cell? ⟨p, 6, none⟩ = some (.bool d.fu) := HD0.out.cell 6
  have c6 : v0.cell? ⟨p + 1, 6, none⟩ = some (.bool c.fu) := HC0.out.cell 6
  have d7 : v0.cell? ⟨p, 7, none⟩ = some (.slice d.rA 0 d.rc) := (HD0.out.cell 7).trans (by rw [← HN.out]; rfl)
  have c7 : v0.cell? ⟨p + 1, 7, none⟩ = some (.slice c.rA c.rn c.rc) := HC0.out.cell 7
  go_wp2_with (fail)
  refine (equal_zero c.rA d.rA c.rn c.rc d.rc v0).mono ?_; rintro e _ ⟨rfl, rfl⟩
  rw [Q7.out]
  go_wp2_with (fail)
  go_ret
  exact ⟨by rw [HV.out, Q0.out, Q1.out, Q2.out, Q3.out, Q4.out, Q5.out, Q6.out, Q7.out]; rfl, HB0.out⟩
set_option maxRecDepth 100000 in
set_option maxHeartbeats 16000000 in
theorem psame_8 (c d : Kc) (hd : d.rn = 0) (q0 : (d.op == c.op) = true) (q1 : (d.lu == c.lu) = true) (q2 : (d.ho.toList == c.ho.toList) = true) (q3 : (d.lb == c.lb) = true) (q4 : (d.bl == c.bl) = true) (q5 : (d.da.toList == c.da.toList) = true) (q6 : (d.fu == c.fu) = true) (q7 : (c.rn == 0) = true) (q8 : (d.ke == c.ke) = false) (w : World) : Calls Try.prog 21 #[kcV d, kcV c] w fun e w' => e = .returned (.bool (sameK c d)) ∧ Below w.heap.size w w' := by
  have HN := Lib.hid hd; clear hd
  have HD0 := Lib.hid ((Blk.new w 26 (kcC d)).alloc (.cells (kcC c) 26))
  have HC0 := Lib.hid (show Blk ((w.alloc (.cells (kcC d) 26)).alloc (.cells (kcC c) 26)) (w.heap.size + 1) 26 (kcC c) by
    have := Blk.new (w.alloc (.cells (kcC d) 26)) 26 (kcC c)
    rwa [show (w.alloc (.cells (kcC d) 26)).heap.size = w.heap.size + 1 by simp] at this)
  have HB0 := Lib.hid (((Below.refl w.heap.size w).alloc (Nat.le_refl _) (.cells (kcC d) 26)).alloc (by simp) (.cells (kcC c) 26))
  have HV := Lib.hid (same_turn c d)
  have Q0 := Lib.hid q0
  have Q1 := Lib.hid q1
  have Q2 := Lib.hid q2
  have Q3 := Lib.hid q3
  have Q4 := Lib.hid q4
  have Q5 := Lib.hid q5
  have Q6 := Lib.hid q6
  have Q7 := Lib.hid q7
  have Q8 := Lib.hid q8
  clear q7
  have r8 : ((d.ke : Int) == (c.ke : Int)) = false := by rw [beq_eq_false_iff_ne] at q8 ⊢; omega
  clear q8
  go_enter Try.func21, Try.ntmps21
  go_upto_region 1 with (fail)
  change Code.wp _ _ _ _ ((w.alloc (.cells (kcC d) 26)).alloc (.cells (kcC c) 26))
  have hsz : (w.alloc (.cells (kcC d) 26)).heap.size = w.heap.size + 1 := by simp
  generalize (w.alloc (.cells (kcC d) 26)).alloc (.cells (kcC c) 26) = v0 at *
  try rw [hsz]
  clear hsz
  obtain ⟨p, hp⟩ : ∃ p, p = w.heap.size := ⟨_, rfl⟩
  rw [← hp] at HC0 HD0 ⊢
  clear hp
  have d0 : v0.cell? ⟨p, 0, none⟩ = some (.int .i64 d.op) := HD0.out.cell 0
  have c0 : v0.cell? ⟨p + 1, 0, none⟩ = some (.int .i64 c.op) := HC0.out.cell 0
  have d1 : v0.cell? ⟨p, 1, none⟩ = some (.int .i64 d.lu) := HD0.out.cell 1
  have c1 : v0.cell? ⟨p + 1, 1, none⟩ = some (.int .i64 c.lu) := HC0.out.cell 1
  have d2 : v0.cell? ⟨p, 2, none⟩ = some (.string d.ho) := HD0.out.cell 2
  have c2 : v0.cell? ⟨p + 1, 2, none⟩ = some (.string c.ho) := HC0.out.cell 2
  have d3 : v0.cell? ⟨p, 3, none⟩ = some (.int .i64 d.lb) := HD0.out.cell 3
  have c3 : v0.cell? ⟨p + 1, 3, none⟩ = some (.int .i64 c.lb) := HC0.out.cell 3
  have d4 : v0.cell? ⟨p, 4, none⟩ = some (.int .i64 d.bl) := HD0.out.cell 4
  have c4 : v0.cell? ⟨p + 1, 4, none⟩ = some (.int .i64 c.bl) := HC0.out.cell 4
  have d5 : v0.cell? ⟨p, 5, none⟩ = some (.string d.da) := HD0.out.cell 5
  have c5 : v0.cell? ⟨p + 1, 5, none⟩ = some (.string c.da) := HC0.out.cell 5
  have d6 : v0.cell? ⟨p, 6, none⟩ = some (.bool d.fu) := HD0.out.cell 6
  have c6 : v0.cell? ⟨p + 1, 6, none⟩ = some (.bool c.fu) := HC0.out.cell 6
  have d7 : v0.cell? ⟨p, 7, none⟩ = some (.slice d.rA 0 d.rc) := (HD0.out.cell 7).trans (by rw [← HN.out]; rfl)
  have c7 : v0.cell? ⟨p + 1, 7, none⟩ = some (.slice c.rA c.rn c.rc) := HC0.out.cell 7
  have d8 : v0.cell? ⟨p, 8, none⟩ = some (.int .u64 (d.ke : Int)) := HD0.out.cell 8
  have c8 : v0.cell? ⟨p + 1, 8, none⟩ = some (.int .u64 (c.ke : Int)) := HC0.out.cell 8
  go_wp2_with (fail)
  refine (equal_zero c.rA d.rA c.rn c.rc d.rc v0).mono ?_; rintro e _ ⟨rfl, rfl⟩
  rw [Q7.out]
  go_wp2_with (fail)
  go_ret
  exact ⟨by rw [HV.out, Q0.out, Q1.out, Q2.out, Q3.out, Q4.out, Q5.out, Q6.out, Q7.out, Q8.out]; rfl, HB0.out⟩
set_option maxRecDepth 100000 in
set_option maxHeartbeats 16000000 in
theorem psame_9 (c d : Kc) (hd : d.rn = 0) (q0 : (d.op == c.op) = true) (q1 : (d.lu == c.lu) = true) (q2 : (d.ho.toList == c.ho.toList) = true) (q3 : (d.lb == c.lb) = true) (q4 : (d.bl == c.bl) = true) (q5 : (d.da.toList == c.da.toList) = true) (q6 : (d.fu == c.fu) = true) (q7 : (c.rn == 0) = true) (q8 : (d.ke == c.ke) = true) (q9 : (d.nk == c.nk) = false) (w : World) : Calls Try.prog 21 #[kcV d, kcV c] w fun e w' => e = .returned (.bool (sameK c d)) ∧ Below w.heap.size w w' := by
  have HN := Lib.hid hd; clear hd
  have HD0 := Lib.hid ((Blk.new w 26 (kcC d)).alloc (.cells (kcC c) 26))
  have HC0 := Lib.hid (show Blk ((w.alloc (.cells (kcC d) 26)).alloc (.cells (kcC c) 26)) (w.heap.size + 1) 26 (kcC c) by
    have := Blk.new (w.alloc (.cells (kcC d) 26)) 26 (kcC c)
    rwa [show (w.alloc (.cells (kcC d) 26)).heap.size = w.heap.size + 1 by simp] at this)
  have HB0 := Lib.hid (((Below.refl w.heap.size w).alloc (Nat.le_refl _) (.cells (kcC d) 26)).alloc (by simp) (.cells (kcC c) 26))
  have HV := Lib.hid (same_turn c d)
  have Q0 := Lib.hid q0
  have Q1 := Lib.hid q1
  have Q2 := Lib.hid q2
  have Q3 := Lib.hid q3
  have Q4 := Lib.hid q4
  have Q5 := Lib.hid q5
  have Q6 := Lib.hid q6
  have Q7 := Lib.hid q7
  have Q8 := Lib.hid q8
  have Q9 := Lib.hid q9
  clear q7
  have r8 : ((d.ke : Int) == (c.ke : Int)) = true := by rw [beq_iff_eq] at q8 ⊢; omega
  clear q8
  have r9 : ((d.nk : Int) == (c.nk : Int)) = false := by rw [beq_eq_false_iff_ne] at q9 ⊢; omega
  clear q9
  go_enter Try.func21, Try.ntmps21
  go_upto_region 1 with (fail)
  change Code.wp _ _ _ _ ((w.alloc (.cells (kcC d) 26)).alloc (.cells (kcC c) 26))
  have hsz : (w.alloc (.cells (kcC d) 26)).heap.size = w.heap.size + 1 := by simp
  generalize (w.alloc (.cells (kcC d) 26)).alloc (.cells (kcC c) 26) = v0 at *
  try rw [hsz]
  clear hsz
  obtain ⟨p, hp⟩ : ∃ p, p = w.heap.size := ⟨_, rfl⟩
  rw [← hp] at HC0 HD0 ⊢
  clear hp
  have d0 : v0.cell? ⟨p, 0, none⟩ = some (.int .i64 d.op) := HD0.out.cell 0
  have c0 : v0.cell? ⟨p + 1, 0, none⟩ = some (.int .i64 c.op) := HC0.out.cell 0
  have d1 : v0.cell? ⟨p, 1, none⟩ = some (.int .i64 d.lu) := HD0.out.cell 1
  have c1 : v0.cell? ⟨p + 1, 1, none⟩ = some (.int .i64 c.lu) := HC0.out.cell 1
  have d2 : v0.cell? ⟨p, 2, none⟩ = some (.string d.ho) := HD0.out.cell 2
  have c2 : v0.cell? ⟨p + 1, 2, none⟩ = some (.string c.ho) := HC0.out.cell 2
  have d3 : v0.cell? ⟨p, 3, none⟩ = some (.int .i64 d.lb) := HD0.out.cell 3
  have c3 : v0.cell? ⟨p + 1, 3, none⟩ = some (.int .i64 c.lb) := HC0.out.cell 3
  have d4 : v0.cell? ⟨p, 4, none⟩ = some (.int .i64 d.bl) := HD0.out.cell 4
  have c4 : v0.cell? ⟨p + 1, 4, none⟩ = some (.int .i64 c.bl) := HC0.out.cell 4
  have d5 : v0.cell? ⟨p, 5, none⟩ = some (.string d.da) := HD0.out.cell 5
  have c5 : v0.cell? ⟨p + 1, 5, none⟩ = some (.string c.da) := HC0.out.cell 5
  have d6 : v0.cell? ⟨p, 6, none⟩ = some (.bool d.fu) := HD0.out.cell 6
  have c6 : v0.cell? ⟨p + 1, 6, none⟩ = some (.bool c.fu) := HC0.out.cell 6
  have d7 : v0.cell? ⟨p, 7, none⟩ = some (.slice d.rA 0 d.rc) := (HD0.out.cell 7).trans (by rw [← HN.out]; rfl)
  have c7 : v0.cell? ⟨p + 1, 7, none⟩ = some (.slice c.rA c.rn c.rc) := HC0.out.cell 7
  have d8 : v0.cell? ⟨p, 8, none⟩ = some (.int .u64 (d.ke : Int)) := HD0.out.cell 8
  have c8 : v0.cell? ⟨p + 1, 8, none⟩ = some (.int .u64 (c.ke : Int)) := HC0.out.cell 8
  have d9 : v0.cell? ⟨p, 9, none⟩ = some (.int .u64 (d.nk : Int)) := HD0.out.cell 9
  have c9 : v0.cell? ⟨p + 1, 9, none⟩ = some (.int .u64 (c.nk : Int)) := HC0.out.cell 9
  go_wp2_with (fail)
  refine (equal_zero c.rA d.rA c.rn c.rc d.rc v0).mono ?_; rintro e _ ⟨rfl, rfl⟩
  rw [Q7.out]
  go_wp2_with (fail)
  go_ret
  exact ⟨by rw [HV.out, Q0.out, Q1.out, Q2.out, Q3.out, Q4.out, Q5.out, Q6.out, Q7.out, Q8.out, Q9.out]; rfl, HB0.out⟩
end Go.Proofs.Ytdggipgieanpeaa.Pc
