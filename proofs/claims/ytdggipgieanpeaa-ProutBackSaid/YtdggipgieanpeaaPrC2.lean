/- Are two commands alike: by the first field in which they differ. -/
import Derived.Test.YtdggipgieanpeaaPrC0
namespace Go.Proofs.Ytdggipgieanpeaa
open Go.RowKit
set_option maxRecDepth 100000 in
set_option maxHeartbeats 16000000 in
theorem cmds_5 (c d : Kc) (hd : d.rn = 0) (q0 : (c.op == d.op) = true) (q1 : (c.lu == d.lu) = true) (q2 : (c.ho.toList == d.ho.toList) = true) (q3 : (c.lb == d.lb) = true) (q4 : (c.bl == d.bl) = true) (q5 : (c.da.toList == d.da.toList) = false) (w : World) : Calls Try.prog 11 #[kcV c, kcV d] w fun e w' => e = .returned (.bool (sameK c d)) ∧ Below w.heap.size w w' := by
  have HN := Lib.hid hd; clear hd
  have HC0 := Lib.hid ((Blk.new w 26 (kcC c)).alloc (.cells (kcC d) 26))
  have HD0 := Lib.hid (show Blk ((w.alloc (.cells (kcC c) 26)).alloc (.cells (kcC d) 26)) (w.heap.size + 1) 26 (kcC d) by
    have := Blk.new (w.alloc (.cells (kcC c) 26)) 26 (kcC d)
    rwa [show (w.alloc (.cells (kcC c) 26)).heap.size = w.heap.size + 1 by simp] at this)
  have HB0 := Lib.hid (((Below.refl w.heap.size w).alloc (Nat.le_refl _) (.cells (kcC c) 26)).alloc (by simp) (.cells (kcC d) 26))
  have HV := Lib.hid (show sameK c d = ((c.op == d.op) && (c.lu == d.lu) && (c.ho.toList == d.ho.toList) && (c.lb == d.lb) && (c.bl == d.bl) && (c.da.toList == d.da.toList) && (c.fu == d.fu) && (c.rn == 0) && (c.ke == d.ke) && (c.nk == d.nk) && (c.ot == d.ot) && (c.ty == d.ty) && (c.ig == d.ig) && (c.ap == d.ap)) from rfl)
  have Q0 := Lib.hid q0
  have Q1 := Lib.hid q1
  have Q2 := Lib.hid q2
  have Q3 := Lib.hid q3
  have Q4 := Lib.hid q4
  have Q5 := Lib.hid q5
  go_enter Try.func11, Try.ntmps11
  go_upto_region 1 with (fail)
  change Code.wp _ _ _ _ ((w.alloc (.cells (kcC c) 26)).alloc (.cells (kcC d) 26))
  have hsz : (w.alloc (.cells (kcC c) 26)).heap.size = w.heap.size + 1 := by simp
  generalize (w.alloc (.cells (kcC c) 26)).alloc (.cells (kcC d) 26) = v0 at *
  try rw [hsz]
  clear hsz
  obtain ⟨p, hp⟩ : ∃ p, p = w.heap.size := ⟨_, rfl⟩
  rw [← hp] at HC0 HD0 ⊢
  clear hp
  have c0 : v0.cell? ⟨p, 0, none⟩ = some (.int .i64 c.op) := HC0.out.cell 0
  have d0 : v0.cell? ⟨p + 1, 0, none⟩ = some (.int .i64 d.op) := HD0.out.cell 0
  have c1 : v0.cell? ⟨p, 1, none⟩ = some (.int .i64 c.lu) := HC0.out.cell 1
  have d1 : v0.cell? ⟨p + 1, 1, none⟩ = some (.int .i64 d.lu) := HD0.out.cell 1
  have c2 : v0.cell? ⟨p, 2, none⟩ = some (.string c.ho) := HC0.out.cell 2
  have d2 : v0.cell? ⟨p + 1, 2, none⟩ = some (.string d.ho) := HD0.out.cell 2
  have c3 : v0.cell? ⟨p, 3, none⟩ = some (.int .i64 c.lb) := HC0.out.cell 3
  have d3 : v0.cell? ⟨p + 1, 3, none⟩ = some (.int .i64 d.lb) := HD0.out.cell 3
  have c4 : v0.cell? ⟨p, 4, none⟩ = some (.int .i64 c.bl) := HC0.out.cell 4
  have d4 : v0.cell? ⟨p + 1, 4, none⟩ = some (.int .i64 d.bl) := HD0.out.cell 4
  have c5 : v0.cell? ⟨p, 5, none⟩ = some (.string c.da) := HC0.out.cell 5
  have d5 : v0.cell? ⟨p + 1, 5, none⟩ = some (.string d.da) := HD0.out.cell 5
  go_wp2_with (fail)
  go_ret
  exact ⟨by rw [HV.out, Q0.out, Q1.out, Q2.out, Q3.out, Q4.out, Q5.out]; rfl, HB0.out⟩
set_option maxRecDepth 100000 in
set_option maxHeartbeats 16000000 in
theorem cmds_6 (c d : Kc) (hd : d.rn = 0) (q0 : (c.op == d.op) = true) (q1 : (c.lu == d.lu) = true) (q2 : (c.ho.toList == d.ho.toList) = true) (q3 : (c.lb == d.lb) = true) (q4 : (c.bl == d.bl) = true) (q5 : (c.da.toList == d.da.toList) = true) (q6 : (c.fu == d.fu) = false) (w : World) : Calls Try.prog 11 #[kcV c, kcV d] w fun e w' => e = .returned (.bool (sameK c d)) ∧ Below w.heap.size w w' := by
  have HN := Lib.hid hd; clear hd
  have HC0 := Lib.hid ((Blk.new w 26 (kcC c)).alloc (.cells (kcC d) 26))
  have HD0 := Lib.hid (show Blk ((w.alloc (.cells (kcC c) 26)).alloc (.cells (kcC d) 26)) (w.heap.size + 1) 26 (kcC d) by
    have := Blk.new (w.alloc (.cells (kcC c) 26)) 26 (kcC d)
    rwa [show (w.alloc (.cells (kcC c) 26)).heap.size = w.heap.size + 1 by simp] at this)
  have HB0 := Lib.hid (((Below.refl w.heap.size w).alloc (Nat.le_refl _) (.cells (kcC c) 26)).alloc (by simp) (.cells (kcC d) 26))
  have HV := Lib.hid (show sameK c d = ((c.op == d.op) && (c.lu == d.lu) && (c.ho.toList == d.ho.toList) && (c.lb == d.lb) && (c.bl == d.bl) && (c.da.toList == d.da.toList) && (c.fu == d.fu) && (c.rn == 0) && (c.ke == d.ke) && (c.nk == d.nk) && (c.ot == d.ot) && (c.ty == d.ty) && (c.ig == d.ig) && (c.ap == d.ap)) from rfl)
  have Q0 := Lib.hid q0
  have Q1 := Lib.hid q1
  have Q2 := Lib.hid q2
  have Q3 := Lib.hid q3
  have Q4 := Lib.hid q4
  have Q5 := Lib.hid q5
  have Q6 := Lib.hid q6
  go_enter Try.func11, Try.ntmps11
  go_upto_region 1 with (fail)
  change Code.wp _ _ _ _ ((w.alloc (.cells (kcC c) 26)).alloc (.cells (kcC d) 26))
  have hsz : (w.alloc (.cells (kcC c) 26)).heap.size = w.heap.size + 1 := by simp
  generalize (w.alloc (.cells (kcC c) 26)).alloc (.cells (kcC d) 26) = v0 at *
  try rw [hsz]
  clear hsz
  obtain ⟨p, hp⟩ : ∃ p, p = w.heap.size := ⟨_, rfl⟩
  rw [← hp] at HC0 HD0 ⊢
  clear hp
  have c0 : v0.cell? ⟨p, 0, none⟩ = some (.int .i64 c.op) := HC0.out.cell 0
  have d0 : v0.cell? ⟨p + 1, 0, none⟩ = some (.int .i64 d.op) := HD0.out.cell 0
  have c1 : v0.cell? ⟨p, 1, none⟩ = some (.int .i64 c.lu) := HC0.out.cell 1
  have d1 : v0.cell? ⟨p + 1, 1, none⟩ = some (.int .i64 d.lu) := HD0.out.cell 1
  have c2 : v0.cell? ⟨p, 2, none⟩ = some (.string c.ho) := HC0.out.cell 2
  have d2 : v0.cell? ⟨p + 1, 2, none⟩ = some (.string d.ho) := HD0.out.cell 2
  have c3 : v0.cell? ⟨p, 3, none⟩ = some (.int .i64 c.lb) := HC0.out.cell 3
  have d3 : v0.cell? ⟨p + 1, 3, none⟩ = some (.int .i64 d.lb) := HD0.out.cell 3
  have c4 : v0.cell? ⟨p, 4, none⟩ = some (.int .i64 c.bl) := HC0.out.cell 4
  have d4 : v0.cell? ⟨p + 1, 4, none⟩ = some (.int .i64 d.bl) := HD0.out.cell 4
  have c5 : v0.cell? ⟨p, 5, none⟩ = some (.string c.da) := HC0.out.cell 5
  have d5 : v0.cell? ⟨p + 1, 5, none⟩ = some (.string d.da) := HD0.out.cell 5
  have c6 : v0.cell? ⟨p, 6, none⟩ = some (.bool c.fu) := HC0.out.cell 6
  have d6 : v0.cell? ⟨p + 1, 6, none⟩ = some (.bool d.fu) := HD0.out.cell 6
  go_wp2_with (fail)
  go_ret
  exact ⟨by rw [HV.out, Q0.out, Q1.out, Q2.out, Q3.out, Q4.out, Q5.out, Q6.out]; rfl, HB0.out⟩
set_option maxRecDepth 100000 in
set_option maxHeartbeats 16000000 in
theorem cmds_7 (c d : Kc) (hd : d.rn = 0) (q0 : (c.op == d.op) = true) (q1 : (c.lu == d.lu) = true) (q2 : (c.ho.toList == d.ho.toList) = true) (q3 : (c.lb == d.lb) = true) (q4 : (c.bl == d.bl) = true) (q5 : (c.da.toList == d.da.toList) = true) (q6 : (c.fu == d.fu) = true) (q7 : (c.rn == 0) = false) (w : World) : Calls Try.prog 11 #[kcV c, kcV d] w fun e w' => e = .returned (.bool (sameK c d)) ∧ Below w.heap.size w w' := by
  have HN := Lib.hid hd; clear hd
  have HC0 := Lib.hid ((Blk.new w 26 (kcC c)).alloc (.cells (kcC d) 26))
  have HD0 := Lib.hid (show Blk ((w.alloc (.cells (kcC c) 26)).alloc (.cells (kcC d) 26)) (w.heap.size + 1) 26 (kcC d) by
    have := Blk.new (w.alloc (.cells (kcC c) 26)) 26 (kcC d)
    rwa [show (w.alloc (.cells (kcC c) 26)).heap.size = w.heap.size + 1 by simp] at this)
  have HB0 := Lib.hid (((Below.refl w.heap.size w).alloc (Nat.le_refl _) (.cells (kcC c) 26)).alloc (by simp) (.cells (kcC d) 26))
  have HV := Lib.hid (show sameK c d = ((c.op == d.op) && (c.lu == d.lu) && (c.ho.toList == d.ho.toList) && (c.lb == d.lb) && (c.bl == d.bl) && (c.da.toList == d.da.toList) && (c.fu == d.fu) && (c.rn == 0) && (c.ke == d.ke) && (c.nk == d.nk) && (c.ot == d.ot) && (c.ty == d.ty) && (c.ig == d.ig) && (c.ap == d.ap)) from rfl)
  have Q0 := Lib.hid q0
  have Q1 := Lib.hid q1
  have Q2 := Lib.hid q2
  have Q3 := Lib.hid q3
  have Q4 := Lib.hid q4
  have Q5 := Lib.hid q5
  have Q6 := Lib.hid q6
  have Q7 := Lib.hid q7
  clear q7
  go_enter Try.func11, Try.ntmps11
  go_upto_region 1 with (fail)
  change Code.wp _ _ _ _ ((w.alloc (.cells (kcC c) 26)).alloc (.cells (kcC d) 26))
  have hsz : (w.alloc (.cells (kcC c) 26)).heap.size = w.heap.size + 1 := by simp
  generalize (w.alloc (.cells (kcC c) 26)).alloc (.cells (kcC d) 26) = v0 at *
  try rw [hsz]
  clear hsz
  obtain ⟨p, hp⟩ : ∃ p, p = w.heap.size := ⟨_, rfl⟩
  rw [← hp] at HC0 HD0 ⊢
  clear hp
  have c0 : v0.cell? ⟨p, 0, none⟩ = some (.int .i64 c.op) := HC0.out.cell 0
  have d0 : v0.cell? ⟨p + 1, 0, none⟩ = some (.int .i64 d.op) := HD0.out.cell 0
  have c1 : v0.cell? ⟨p, 1, none⟩ = some (.int .i64 c.lu) := HC0.out.cell 1
  have d1 : v0.cell? ⟨p + 1, 1, none⟩ = some (.int .i64 d.lu) := HD0.out.cell 1
  have c2 : v0.cell? ⟨p, 2, none⟩ = some (.string c.ho) := HC0.out.cell 2
  have d2 : v0.cell? ⟨p + 1, 2, none⟩ = some (.string d.ho) := HD0.out.cell 2
  have c3 : v0.cell? ⟨p, 3, none⟩ = some (.int .i64 c.lb) := HC0.out.cell 3
  have d3 : v0.cell? ⟨p + 1, 3, none⟩ = some (.int .i64 d.lb) := HD0.out.cell 3
  have c4 : v0.cell? ⟨p, 4, none⟩ = some (.int .i64 c.bl) := HC0.out.cell 4
  have d4 : v0.cell? ⟨p + 1, 4, none⟩ = some (.int .i64 d.bl) := HD0.out.cell 4
  have c5 : v0.cell? ⟨p, 5, none⟩ = some (.string c.da) := HC0.out.cell 5
  have d5 : v0.cell? ⟨p + 1, 5, none⟩ = some (.string d.da) := HD0.out.cell 5
  have c6 : v0.cell? ⟨p, 6, none⟩ = some (.bool c.fu) := HC0.out.cell 6
  have d6 : v0.cell? ⟨p + 1, 6, none⟩ = some (.bool d.fu) := HD0.out.cell 6
  have c7 : v0.cell? ⟨p, 7, none⟩ = some (.slice c.rA c.rn c.rc) := HC0.out.cell 7
  have d7 : v0.cell? ⟨p + 1, 7, none⟩ = some (.slice d.rA 0 d.rc) := (HD0.out.cell 7).trans (by rw [← HN.out]; rfl)
  go_wp2_with (fail)
  refine (ranges_zero c.rA d.rA c.rn c.rc d.rc v0).mono ?_; rintro e _ ⟨rfl, rfl⟩
  rw [Q7.out]
  go_wp2_with (fail)
  go_ret
  exact ⟨by rw [HV.out, Q0.out, Q1.out, Q2.out, Q3.out, Q4.out, Q5.out, Q6.out, Q7.out]; rfl, HB0.out⟩
set_option maxRecDepth 100000 in
set_option maxHeartbeats 16000000 in
theorem cmds_8 (c d : Kc) (hd : d.rn = 0) (q0 : (c.op == d.op) = true) (q1 : (c.lu == d.lu) = true) (q2 : (c.ho.toList == d.ho.toList) = true) (q3 : (c.lb == d.lb) = true) (q4 : (c.bl == d.bl) = true) (q5 : (c.da.toList == d.da.toList) = true) (q6 : (c.fu == d.fu) = true) (q7 : (c.rn == 0) = true) (q8 : (c.ke == d.ke) = false) (w : World) : Calls Try.prog 11 #[kcV c, kcV d] w fun e w' => e = .returned (.bool (sameK c d)) ∧ Below w.heap.size w w' := by
  have HN := Lib.hid hd; clear hd
  have HC0 := Lib.hid ((Blk.new w 26 (kcC c)).alloc (.cells (kcC d) 26))
  have HD0 := Lib.hid (show Blk ((w.alloc (.cells (kcC c) 26)).alloc (.cells (kcC d) 26)) (w.heap.size + 1) 26 (kcC d) by
    have := Blk.new (w.alloc (.cells (kcC c) 26)) 26 (kcC d)
    rwa [show (w.alloc (.cells (kcC c) 26)).heap.size = w.heap.size + 1 by simp] at this)
  have HB0 := Lib.hid (((Below.refl w.heap.size w).alloc (Nat.le_refl _) (.cells (kcC c) 26)).alloc (by simp) (.cells (kcC d) 26))
  have HV := Lib.hid (show sameK c d = ((c.op == d.op) && (c.lu == d.lu) && (c.ho.toList == d.ho.toList) && (c.lb == d.lb) && (c.bl == d.bl) && (c.da.toList == d.da.toList) && (c.fu == d.fu) && (c.rn == 0) && (c.ke == d.ke) && (c.nk == d.nk) && (c.ot == d.ot) && (c.ty == d.ty) && (c.ig == d.ig) && (c.ap == d.ap)) from rfl)
  have Q0 := Lib.hid q0
  have Q1 := Lib.hid q1
  have Q2 := Lib.hid q2
  have Q3 := Lib.hid q3
  have Q4 := Lib.hid q4
  have Q5 := Lib.hid q5
  have Q6 := Lib.hid q6
  have Q7 := Lib.hid q7
  have Q8 := Lib.hid q8
  clear q7
  have r8 : ((c.ke : Int) == (d.ke : Int)) = false := by rw [beq_eq_false_iff_ne] at q8 ⊢; omega
  clear q8
  go_enter Try.func11, Try.ntmps11
  go_upto_region 1 with (fail)
  change Code.wp _ _ _ _ ((w.alloc (.cells (kcC c) 26)).alloc (.cells (kcC d) 26))
  have hsz : (w.alloc (.cells (kcC c) 26)).heap.size = w.heap.size + 1 := by simp
  generalize (w.alloc (.cells (kcC c) 26)).alloc (.cells (kcC d) 26) = v0 at *
  try rw [hsz]
  clear hsz
  obtain ⟨p, hp⟩ : ∃ p, p = w.heap.size := ⟨_, rfl⟩
  rw [← hp] at HC0 HD0 ⊢
  clear hp
  have c0 : v0.cell? ⟨p, 0, none⟩ = some (.int .i64 c.op) := HC0.out.cell 0
  have d0 : v0.cell? ⟨p + 1, 0, none⟩ = some (.int .i64 d.op) := HD0.out.cell 0
  have c1 : v0.cell? ⟨p, 1, none⟩ = some (.int .i64 c.lu) := HC0.out.cell 1
  have d1 : v0.cell? ⟨p + 1, 1, none⟩ = some (.int .i64 d.lu) := HD0.out.cell 1
  have c2 : v0.cell? ⟨p, 2, none⟩ = some (.string c.ho) := HC0.out.cell 2
  have d2 : v0.cell? ⟨p + 1, 2, none⟩ = some (.string d.ho) := HD0.out.cell 2
  have c3 : v0.cell? ⟨p, 3, none⟩ = some (.int .i64 c.lb) := HC0.out.cell 3
  have d3 : v0.cell? ⟨p + 1, 3, none⟩ = some (.int .i64 d.lb) := HD0.out.cell 3
  have c4 : v0.cell? ⟨p, 4, none⟩ = some (.int .i64 c.bl) := HC0.out.cell 4
  have d4 : v0.cell? ⟨p + 1, 4, none⟩ = some (.int .i64 d.bl) := HD0.out.cell 4
  have c5 : v0.cell? ⟨p, 5, none⟩ = some (.string c.da) := HC0.out.cell 5
  have d5 : v0.cell? ⟨p + 1, 5, none⟩ = some (.string d.da) := HD0.out.cell 5
  have c6 : v0.cell? ⟨p, 6, none⟩ = some (.bool c.fu) := HC0.out.cell 6
  have d6 : v0.cell? ⟨p + 1, 6, none⟩ = some (.bool d.fu) := HD0.out.cell 6
  have c7 : v0.cell? ⟨p, 7, none⟩ = some (.slice c.rA c.rn c.rc) := HC0.out.cell 7
  have d7 : v0.cell? ⟨p + 1, 7, none⟩ = some (.slice d.rA 0 d.rc) := (HD0.out.cell 7).trans (by rw [← HN.out]; rfl)
  have c8 : v0.cell? ⟨p, 8, none⟩ = some (.int .u64 (c.ke : Int)) := HC0.out.cell 8
  have d8 : v0.cell? ⟨p + 1, 8, none⟩ = some (.int .u64 (d.ke : Int)) := HD0.out.cell 8
  go_wp2_with (fail)
  refine (ranges_zero c.rA d.rA c.rn c.rc d.rc v0).mono ?_; rintro e _ ⟨rfl, rfl⟩
  rw [Q7.out]
  go_wp2_with (fail)
  go_ret
  exact ⟨by rw [HV.out, Q0.out, Q1.out, Q2.out, Q3.out, Q4.out, Q5.out, Q6.out, Q7.out, Q8.out]; rfl, HB0.out⟩
set_option maxRecDepth 100000 in
set_option maxHeartbeats 16000000 in
theorem cmds_9 (c d : Kc) (hd : d.rn = 0) (q0 : (c.op == d.op) = true) (q1 : (c.lu == d.lu) = true) (q2 : (c.ho.toList == d.ho.toList) = true) (q3 : (c.lb == d.lb) = true) (q4 : (c.bl == d.bl) = true) (q5 : (c.da.toList == d.da.toList) = true) (q6 : (c.fu == d.fu) = true) (q7 : (c.rn == 0) = true) (q8 : (c.ke == d.ke) = true) (q9 : (c.nk == d.nk) = false) (w : World) : Calls Try.prog 11 #[kcV c, kcV d] w fun e w' => e = .returned (.bool (sameK c d)) ∧ Below w.heap.size w w' := by
  have HN := Lib.hid hd; clear hd
  have HC0 := Lib.hid ((Blk.new w 26 (kcC c)).alloc (.cells (kcC d) 26))
  have HD0 := Lib.hid (show Blk ((w.alloc (.cells (kcC c) 26)).alloc (.cells (kcC d) 26)) (w.heap.size + 1) 26 (kcC d) by
    have := Blk.new (w.alloc (.cells (kcC c) 26)) 26 (kcC d)
    rwa [show (w.alloc (.cells (kcC c) 26)).heap.size = w.heap.size + 1 by simp] at this)
  have HB0 := Lib.hid (((Below.refl w.heap.size w).alloc (Nat.le_refl _) (.cells (kcC c) 26)).alloc (by simp) (.cells (kcC d) 26))
  have HV := Lib.hid (show sameK c d = ((c.op == d.op) && (c.lu == d.lu) && (c.ho.toList == d.ho.toList) && (c.lb == d.lb) && (c.bl == d.bl) && (c.da.toList == d.da.toList) && (c.fu == d.fu) && (c.rn == 0) && (c.ke == d.ke) && (c.nk == d.nk) && (c.ot == d.ot) && (c.ty == d.ty) && (c.ig == d.ig) && (c.ap == d.ap)) from rfl)
  have Q0 := Lib.hid q0
  have Q1 := Lib.hid q1
  have Q2 := Lib.hid q2
  have Q3 := Lib.hid q3
  have Q4 := Lib.hid q4
  have Q5 := Lib.hid q5
  have Q6 := Lib.hid q6
  have Q7 := Lib.hid q7
  have Q8 := Lib.hid q8
  have Q9 := Lib.hid q9
  clear q7
  have r8 : ((c.ke : Int) == (d.ke : Int)) = true := by rw [beq_iff_eq] at q8 ⊢; omega
  clear q8
  have r9 : ((c.nk : Int) == (d.nk : Int)) = false := by rw [beq_eq_false_iff_ne] at q9 ⊢; omega
  clear q9
  go_enter Try.func11, Try.ntmps11
  go_upto_region 1 with (fail)
  change Code.wp _ _ _ _ ((w.alloc (.cells (kcC c) 26)).alloc (.cells (kcC d) 26))
  have hsz : (w.alloc (.cells (kcC c) 26)).heap.size = w.heap.size + 1 := by simp
  generalize (w.alloc (.cells (kcC c) 26)).alloc (.cells (kcC d) 26) = v0 at *
  try rw [hsz]
  clear hsz
  obtain ⟨p, hp⟩ : ∃ p, p = w.heap.size := ⟨_, rfl⟩
  rw [← hp] at HC0 HD0 ⊢
  clear hp
  have c0 : v0.cell? ⟨p, 0, none⟩ = some (.int .i64 c.op) := HC0.out.cell 0
  have d0 : v0.cell? ⟨p + 1, 0, none⟩ = some (.int .i64 d.op) := HD0.out.cell 0
  have c1 : v0.cell? ⟨p, 1, none⟩ = some (.int .i64 c.lu) := HC0.out.cell 1
  have d1 : v0.cell? ⟨p + 1, 1, none⟩ = some (.int .i64 d.lu) := HD0.out.cell 1
  have c2 : v0.cell? ⟨p, 2, none⟩ = some (.string c.ho) := HC0.out.cell 2
  have d2 : v0.cell? ⟨p + 1, 2, none⟩ = some (.string d.ho) := HD0.out.cell 2
  have c3 : v0.cell? ⟨p, 3, none⟩ = some (.int .i64 c.lb) := HC0.out.cell 3
  have d3 : v0.cell? ⟨p + 1, 3, none⟩ = some (.int .i64 d.lb) := HD0.out.cell 3
  have c4 : v0.cell? ⟨p, 4, none⟩ = some (.int .i64 c.bl) := HC0.out.cell 4
  have d4 : v0.cell? ⟨p + 1, 4, none⟩ = some (.int .i64 d.bl) := HD0.out.cell 4
  have c5 : v0.cell? ⟨p, 5, none⟩ = some (.string c.da) := HC0.out.cell 5
  have d5 : v0.cell? ⟨p + 1, 5, none⟩ = some (.string d.da) := HD0.out.cell 5
  have c6 : v0.cell? ⟨p, 6, none⟩ = some (.bool c.fu) := HC0.out.cell 6
  have d6 : v0.cell? ⟨p + 1, 6, none⟩ = some (.bool d.fu) := HD0.out.cell 6
  have c7 : v0.cell? ⟨p, 7, none⟩ = some (.slice c.rA c.rn c.rc) := HC0.out.cell 7
  have d7 : v0.cell? ⟨p + 1, 7, none⟩ = some (.slice d.rA 0 d.rc) := (HD0.out.cell 7).trans (by rw [← HN.out]; rfl)
  have c8 : v0.cell? ⟨p, 8, none⟩ = some (.int .u64 (c.ke : Int)) := HC0.out.cell 8
  have d8 : v0.cell? ⟨p + 1, 8, none⟩ = some (.int .u64 (d.ke : Int)) := HD0.out.cell 8
  have c9 : v0.cell? ⟨p, 9, none⟩ = some (.int .u64 (c.nk : Int)) := HC0.out.cell 9
  have d9 : v0.cell? ⟨p + 1, 9, none⟩ = some (.int .u64 (d.nk : Int)) := HD0.out.cell 9
  go_wp2_with (fail)
  refine (ranges_zero c.rA d.rA c.rn c.rc d.rc v0).mono ?_; rintro e _ ⟨rfl, rfl⟩
  rw [Q7.out]
  go_wp2_with (fail)
  go_ret
  exact ⟨by rw [HV.out, Q0.out, Q1.out, Q2.out, Q3.out, Q4.out, Q5.out, Q6.out, Q7.out, Q8.out, Q9.out]; rfl, HB0.out⟩
end Go.Proofs.Ytdggipgieanpeaa
