/- Are two commands alike: by the first field in which they differ. -/
import Derived.Test.YtdggipgieanpeaaPrC0
namespace Go.Proofs.Ytdggipgieanpeaa
open Go.RowKit
set_option maxRecDepth 100000 in
set_option maxHeartbeats 16000000 in
theorem cmds_0 (c d : Kc) (hd : d.rn = 0) (q0 : (c.op == d.op) = false) (w : World) : Calls Try.prog 11 #[kcV c, kcV d] w fun e w' => e = .returned (.bool (sameK c d)) ∧ Below w.heap.size w w' := by
  have HN := Lib.hid hd; clear hd
  have HC0 := Lib.hid ((Blk.new w 26 (kcC c)).alloc (.cells (kcC d) 26))
  have HD0 := Lib.hid (show Blk ((w.alloc (.cells (kcC c) 26)).alloc (.cells (kcC d) 26)) (w.heap.size + 1) 26 (kcC d) by
    have := Blk.new (w.alloc (.cells (kcC c) 26)) 26 (kcC d)
    rwa [show (w.alloc (.cells (kcC c) 26)).heap.size = w.heap.size + 1 by simp] at this)
  have HB0 := Lib.hid (((Below.refl w.heap.size w).alloc (Nat.le_refl _) (.cells (kcC c) 26)).alloc (by simp) (.cells (kcC d) 26))
  have HV := Lib.hid (show sameK c d = ((c.op == d.op) && (c.lu == d.lu) && (c.ho.toList == d.ho.toList) && (c.lb == d.lb) && (c.bl == d.bl) && (c.da.toList == d.da.toList) && (c.fu == d.fu) && (c.rn == 0) && (c.ke == d.ke) && (c.nk == d.nk) && (c.ot == d.ot) && (c.ty == d.ty) && (c.ig == d.ig) && (c.ap == d.ap)) from rfl)
  have Q0 := Lib.hid q0
  go_enter Try.func11, Try.ntmps11
  go_upto_region 1 with (fail)
  change Code.wp _ _ _ _ ((w.alloc (.cells (kcC c) 26)).alloc (.cells (kcC d) 26))
  have hsz : (w.alloc (.cells (kcC c) 26)).heap.size = w.heap.size + 1 := by simp
  generalize (w.alloc (.cells (kcC c) 26)).alloc (.cells (kcC d) 26) = v0 at *
  try rw [hsz]
  clear hsz
  obtain ⟨p, hp⟩ : ∃ p, p = w.heap.size := ⟨_, rfl⟩
  rw [← hp] at HC0 HD0 ⊢
  clear hp
  have c0 : v0.cell? ⟨p, 0, none⟩ = some (.int .i64 c.op) := HC0.out.cell 0
  have d0 : v0.cell? ⟨p + 1, 0, none⟩ = some (.int .i64 d.op) := HD0.out.cell 0
  go_wp2_with (fail)
  go_ret
  exact ⟨by rw [HV.out, Q0.out]; rfl, HB0.out⟩
set_option maxRecDepth 100000 in
set_option maxHeartbeats 16000000 in
theorem cmds_1 (c d : Kc) (hd : d.rn = 0) (q0 : (c.op == d.op) = true) (q1 : (c.lu == d.lu) = false) (w : World) : Calls Try.prog 11 #[kcV c, kcV d] w fun e w' => e = .returned (.bool (sameK c d)) ∧ Below w.heap.size w w' := by
  have HN := Lib.hid hd; clear hd
  have HC0 := Lib.hid ((Blk.new w 26 (kcC c)).alloc (.cells (kcC d) 26))
  have HD0 := Lib.hid (show Blk ((w.alloc (.cells (kcC c) 26)).alloc (.cells (kcC d) 26)) (w.heap.size + 1) 26 (kcC d) by
    have := Blk.new (w.alloc (.cells (kcC c) 26)) 26 (kcC d)
    rwa [show (w.alloc (.cells (kcC c) 26)).heap.size = w.heap.size + 1 by simp] at this)
  have HB0 := Lib.hid (((Below.refl w.heap.size w).alloc (Nat.le_refl _) (.cells (kcC c) 26)).alloc (by simp) (.cells (kcC d) 26))
  have HV := Lib.hid (show sameK c d = ((c.op == d.op) && (c.lu == d.lu) && (c.ho.toList == d.ho.toList) && (c.lb == d.lb) && (c.bl == d.bl) && (c.da.toList == d.da.toList) && (c.fu == d.fu) && (c.rn == 0) && (c.ke == d.ke) && (c.nk == d.nk) && (c.ot == d.ot) && (c.ty == d.ty) && (c.ig == d.ig) && (c.ap == d.ap)) from rfl)
  have Q0 := Lib.hid q0
  have Q1 := Lib.hid q1
  go_enter Try.func11, Try.ntmps11
  go_upto_region 1 with (fail)
  change Code.wp _ _ _ _ ((w.alloc (.cells (kcC c) 26)).alloc (.cells (kcC d) 26))
  have hsz : (w.alloc (.cells (kcC c) 26)).heap.size = w.heap.size + 1 := by simp
  generalize (w.alloc (.cells (kcC c) 26)).alloc (.cells (kcC d) 26) = v0 at *
  try rw [hsz]
  clear hsz
  obtain ⟨p, hp⟩ : ∃ p, p = w.heap.size := ⟨_, rfl⟩
  rw [← hp] at HC0 HD0 ⊢
  clear hp
  have c0 : v0.cell? ⟨p, 0, none⟩ = some (.int .i64 c.op) := HC0.out.cell 0
  have d0 : v0.cell? ⟨p + 1, 0, none⟩ = some (.int .i64 d.op) := HD0.out.cell 0
  have c1 : v0.cell? ⟨p, 1, none⟩ = some (.int .i64 c.lu) := HC0.out.cell 1
  have d1 : v0.cell? ⟨p + 1, 1, none⟩ = some (.int .i64 d.lu) := HD0.out.cell 1
  go_wp2_with (fail)
  go_ret
  exact ⟨by rw [HV.out, Q0.out, Q1.out]; rfl, HB0.out⟩
set_option maxRecDepth 100000 in
set_option maxHeartbeats 16000000 in
theorem cmds_2 (c d : Kc) (hd : d.rn = 0) (q0 : (c.op == d.op) = true) (q1 : (c.lu == d.lu) = true) (q2 : (c.ho.toList == d.ho.toList) = false) (w : World) : Calls Try.prog 11 #[kcV c, kcV d] w fun e w' => e = .returned (.bool (sameK c d)) ∧ Below w.heap.size w w' := by
  have HN := Lib.hid hd; clear hd
  have HC0 := Lib.hid ((Blk.new w 26 (kcC c)).alloc (.cells (kcC d) 26))
  have HD0 := Lib.hid (show Blk ((w.alloc (.cells (kcC c) 26)).alloc (.cells (kcC d) 26)) (w.heap.size + 1) 26 (kcC d) by
    have := Blk.new (w.alloc (.cells (kcC c) 26)) 26 (kcC d)
    rwa [show (w.alloc (.cells (kcC c) 26)).heap.size = w.heap.size + 1 by simp] at this)
  have HB0 := Lib.hid (((Below.refl w.heap.size w).alloc (Nat.le_refl _) (.cells (kcC c) 26)).alloc (by simp) (.cells (kcC d) 26))
  have HV := Lib.hid (show sameK c d = ((c.op == d.op) && (c.lu == d.lu) && (c.ho.toList == d.ho.toList) && (c.lb == d.lb) && (c.bl == d.bl) && (c.da.toList == d.da.toList) && (c.fu == d.fu) && (c.rn == 0) && (c.ke == d.ke) && (c.nk == d.nk) && (c.ot == d.ot) && (c.ty == d.ty) && (c.ig == d.ig) && (c.ap == d.ap)) from rfl)
  have Q0 := Lib.hid q0
  have Q1 := Lib.hid q1
  have Q2 := Lib.hid q2
  go_enter Try.func11, Try.ntmps11
  go_upto_region 1 with (fail)
  change Code.wp _ _ _ _ ((w.alloc (.cells (kcC c) 26)).alloc (.cells (kcC d) 26))
  have hsz : (w.alloc (.cells (kcC c) 26)).heap.size = w.heap.size + 1 := by simp
  generalize (w.alloc (.cells (kcC c) 26)).alloc (.cells (kcC d) 26) = v0 at *
  try rw [hsz]
  clear hsz
  obtain ⟨p, hp⟩ : ∃ p, p = w.heap.size := ⟨_, rfl⟩
  rw [← hp] at HC0 HD0 ⊢
  clear hp
  have c0 : v0.cell? ⟨p, 0, none⟩ = some (.int .i64 c.op) := HC0.out.cell 0
  have d0 : v0.cell? ⟨p + 1, 0, none⟩ = some (.int .i64 d.op) := HD0.out.cell 0
  have c1 : v0.cell? ⟨p, 1, none⟩ = some (.int .i64 c.lu) := HC0.out.cell 1
  have d1 : v0.cell? ⟨p + 1, 1, none⟩ = some (.int .i64 d.lu) := HD0.out.cell 1
  have c2 : v0.cell? ⟨p, 2, none⟩ = some (.string c.ho) := HC0.out.cell 2
  have d2 : v0.cell? ⟨p + 1, 2, none⟩ = some (.string d.ho) := HD0.out.cell 2
  go_wp2_with (fail)
  go_ret
  exact ⟨by rw [HV.out, Q0.out, Q1.out, Q2.out]; rfl, HB0.out⟩
set_option maxRecDepth 100000 in
set_option maxHeartbeats 16000000 in
theorem cmds_3 (c d : Kc) (hd : d.rn = 0) (q0 : (c.op == d.op) = true) (q1 : (c.lu == d.lu) = true) (q2 : (c.ho.toList == d.ho.toList) = true) (q3 : (c.lb == d.lb) = false) (w : World) : Calls Try.prog 11 #[kcV c, kcV d] w fun e w' => e = .returned (.bool (sameK c d)) ∧ Below w.heap.size w w' := by
  have HN := Lib.hid hd; clear hd
  have HC0 := Lib.hid ((Blk.new w 26 (kcC c)).alloc (.cells (kcC d) 26))
  have HD0 := Lib.hid (show Blk ((w.alloc (.cells (kcC c) 26)).alloc (.cells (kcC d) 26)) (w.heap.size + 1) 26 (kcC d) by
    have := Blk.new (w.alloc (.cells (kcC c) 26)) 26 (kcC d)
    rwa [show (w.alloc (.cells (kcC c) 26)).heap.size = w.heap.size + 1 by simp] at this)
  have HB0 := Lib.hid (((Below.refl w.heap.size w).alloc (Nat.le_refl _) (.cells (kcC c) 26)).alloc (by simp) (.cells (kcC d) 26))
  have HV := Lib.hid (show sameK c d = ((c.op == d.op) && (c.lu == d.lu) && (c.ho.toList == d.ho.toList) && (c.lb == d.lb) && (c.bl == d.bl) && (c.da.toList == d.da.toList) && (c.fu == d.fu) && (c.rn == 0) && (c.ke == d.ke) && (c.nk == d.nk) && (c.ot == d.ot) && (c.ty == d.ty) && (c.ig == d.ig) && (c.ap == d.ap)) from rfl)
  have Q0 := Lib.hid q0
  have Q1 := Lib.hid q1
  have Q2 := Lib.hid q2
  have Q3 := Lib.hid q3
  go_enter Try.func11, Try.ntmps11
  go_upto_region 1 with (fail)
  change Code.wp _ _ _ _ ((w.alloc (.cells (kcC c) 26)).alloc (.cells (kcC d) 26))
  have hsz : (w.alloc (.cells (kcC c) 26)).heap.size = w.heap.size + 1 := by simp
  generalize (w.alloc (.cells (kcC c) 26)).alloc (.cells (kcC d) 26) = v0 at *
  try rw [hsz]
  clear hsz
  obtain ⟨p, hp⟩ : ∃ p, p = w.heap.size := ⟨_, rfl⟩
  rw [← hp] at HC0 HD0 ⊢
  clear hp
  have c0 : v0.cell? ⟨p, 0, none⟩ = some (.int .i64 c.op) := HC0.out.cell 0
  have d0 : v0.cell? ⟨p + 1, 0, none⟩ = some (.int .i64 d.op) := HD0.out.cell 0
  have c1 : v0.cell? ⟨p, 1, none⟩ = some (.int .i64 c.lu) := HC0.out.cell 1
  have d1 : v0.cell? ⟨p + 1, 1, none⟩ = some (.int .i64 d.lu) := HD0.out.cell 1
  have c2 : v0.cell? ⟨p, 2, none⟩ = some (.string c.ho) := HC0.out.cell 2
  have d2 : v0.cell? ⟨p + 1, 2, none⟩ = some (.string d.ho) := HD0.out.cell 2
  have c3 : v0.cell? ⟨p, 3, none⟩ = some (.int .i64 c.lb) := HC0.out.cell 3
  have d3 : v0.cell? ⟨p + 1, 3, none⟩ = some (.int .i64 d.lb) := HD0.out.cell 3
  go_wp2_with (fail)
  go_ret
  exact ⟨by rw [HV.out, Q0.out, Q1.out, Q2.out, Q3.out]; rfl, HB0.out⟩
set_option maxRecDepth 100000 in
set_option maxHeartbeats 16000000 in
theorem cmds_4 (c d : Kc) (hd : d.rn = 0) (q0 : (c.op == d.op) = true) (q1 : (c.lu == d.lu) = true) (q2 : (c.ho.toList == d.ho.toList) = true) (q3 : (c.lb == d.lb) = true) (q4 : (c.bl == d.bl) = false) (w : World) : Calls Try.prog 11 #[kcV c, kcV d] w fun e w' => e = .returned (.bool (sameK c d)) ∧ Below w.heap.size w w' := by
  have HN := Lib.hid hd; clear hd
  have HC0 := Lib.hid ((Blk.new w 26 (kcC c)).alloc (.cells (kcC d) 26))
  have HD0 := Lib.hid (show Blk ((w.alloc (.cells (kcC c) 26)).alloc (.cells (kcC d) 26)) (w.heap.size + 1) 26 (kcC d) by
    have := Blk.new (w.alloc (.cells (kcC c) 26)) 26 (kcC d)
    rwa [show (w.alloc (.cells (kcC c) 26)).heap.size = w.heap.size + 1 by simp] at this)
  have HB0 := Lib.hid (((Below.refl w.heap.size w).alloc (Nat.le_refl _) (.cells (kcC c) 26)).alloc (by simp) (.cells (kcC d) 26))
  have HV := Lib.hid (show sameK c d = ((c.op == d.op) && (c.lu == d.lu) && (c.ho.toList == d.ho.toList) && (c.lb == d.lb) && (c.bl == d.bl) && (c.da.toList == d.da.toList) && (c.fu == d.fu) && (c.rn == 0) && (c.ke == d.ke) && (c.nk == d.nk) && (c.ot == d.ot) && (c.ty == d.ty) && (c.ig == d.ig) && (c.ap == d.ap)) from rfl)
  have Q0 := Lib.hid q0
  have Q1 := Lib.hid q1
  have Q2 := Lib.hid q2
  have Q3 := Lib.hid q3
  have Q4 := Lib.hid q4
  go_enter Try.func11, Try.ntmps11
  go_upto_region 1 with (fail)
  change Code.wp _ _ _ _ ((w.alloc (.cells (kcC c) 26)).alloc (.cells (kcC d) 26))
  have hsz : (w.alloc (.cells (kcC c) 26)).heap.size = w.heap.size + 1 := by simp
  generalize (w.alloc (.cells (kcC c) 26)).alloc (.cells (kcC d) 26) = v0 at *
  try rw [hsz]
  clear hsz
  obtain ⟨p, hp⟩ : ∃ p, p = w.heap.size := ⟨_, rfl⟩
  rw [← hp] at HC0 HD0 ⊢
  clear hp
  have c0 : v0.cell? ⟨p, 0, none⟩ = some (.int .i64 c.op) := HC0.out.cell 0
  have d0 : v0.cell? ⟨p + 1, 0, none⟩ = some (.int .i64 d.op) := HD0.out.cell 0
  have c1 : v0.cell? ⟨p, 1, none⟩ = some (.int .i64 c.lu) := HC0.out.cell 1
  have d1 : v0.cell? ⟨p + 1, 1, none⟩ = some (.int .i64 d.lu) := HD0.out.cell 1
  have c2 : v0.cell? ⟨p, 2, none⟩ = some (.string c.ho) := HC0.out.cell 2
  have d2 : v0.cell? ⟨p + 1, 2, none⟩ = some (.string d.ho) := HD0.out.cell 2
  have c3 : v0.cell? ⟨p, 3, none⟩ = some (.int .i64 c.lb) := HC0.out.cell 3
  have d3 : v0.cell? ⟨p + 1, 3, none⟩ = some (.int .i64 d.lb) := HD0.out.cell 3
  have c4 : v0.cell? ⟨p, 4, none⟩ = some (.int .i64 c.bl) := HC0.out.cell 4
  have d4 : v0.cell? ⟨p + 1, 4, none⟩ = some (.int .i64 d.bl) := HD0.out.cell 4
  go_wp2_with (fail)
  go_ret
  exact ⟨by rw [HV.out, Q0.out, Q1.out, Q2.out, Q3.out, Q4.out]; rfl, HB0.out⟩
end Go.Proofs.Ytdggipgieanpeaa
