/- What asks for a row of the code's table. -/
import Derived.Test.YthcaeihpdlgcaaaDoorSnN
namespace Go.Proofs.YthcaeihpdlgcaaaDoor
open Go.RowKit
abbrev ocC (c t u : Int) : Array Value := #[.int .i64 c, .int .i64 t, .int .i64 u]
abbrev ocV (c t u : Int) : Value := .agg (ocC c t u)
abbrev rpqC (n : Int) (x : Sn) : Array Value := #[.int .i64 n, .int .i64 x.k, .int .i64 x.a, .int .i64 x.q, .int .i64 x.t]
abbrev rpqV (n : Int) (x : Sn) : Value := .agg (rpqC n x)
theorem sn_if_yes {x y : Sn} (h : x = y) {α : Type} (T F : α) : (if x.k = y.k then if x.a = y.a then if x.q = y.q then if x.t = y.t then T else F else F else F else F) = T := by
  rw [if_pos (by rw [h]), if_pos (by rw [h]), if_pos (by rw [h]), if_pos (by rw [h])]
theorem sn_no {x y : Sn} (h : ¬ x = y) : x.k = y.k → x.a = y.a → x.q = y.q → ¬ x.t = y.t := by
  intro h0 h1 h2 h3
  obtain ⟨k, a, q, t⟩ := x
  obtain ⟨k', a', q', t'⟩ := y
  exact h (by rw [show k = k' from h0, show a = a' from h1, show q = q' from h2, show t = t' from h3])
theorem oc_info : (Tryd.prog.info? 66).map (·.size) = some 3 := by kernel_rfl
theorem rpq_info : (Tryd.prog.info? 70).map (·.size) = some 5 := by kernel_rfl
set_option maxRecDepth 100000 in
set_option maxHeartbeats 4000000 in
theorem oIsOf_any (c t u : Int) (r : Rw) (w : World) : Calls Tryd.prog 24 #[ocV c t u, rwV r] w fun e w' => e = .returned (.bool (oB c t u r)) ∧ Below w.heap.size w w' := by
  have HV := Lib.hid (show oB c t u r = ((c == r.c) && ((r.w == 0) || (u == r.w)) && tkB r t) from rfl)
  have HO0 := Lib.hid ((Blk.new w 66 (ocC c t u)).alloc (.cells (rwC r) 61))
  have HR0 := Lib.hid (show Blk ((w.alloc (.cells (ocC c t u) 66)).alloc (.cells (rwC r) 61)) (w.heap.size + 1) 61 (rwC r) by
    have := Blk.new (w.alloc (.cells (ocC c t u) 66)) 61 (rwC r)
    rwa [show (w.alloc (.cells (ocC c t u) 66)).heap.size = w.heap.size + 1 by simp] at this)
  have HB0 := Lib.hid (((Below.refl w.heap.size w).alloc (Nat.le_refl _) (.cells (ocC c t u) 66)).alloc (by simp) (.cells (rwC r) 61))
  cases q0 : (c == r.c) with
  | false =>
    have Q0 := Lib.hid q0
    go_enter Tryd.func24, Tryd.ntmps24
    go_upto_region 1 with (fail)
    change Code.wp _ _ _ _ ((w.alloc (.cells (ocC c t u) 66)).alloc (.cells (rwC r) 61))
    have hsz : (w.alloc (.cells (ocC c t u) 66)).heap.size = w.heap.size + 1 := by simp
    generalize (w.alloc (.cells (ocC c t u) 66)).alloc (.cells (rwC r) 61) = v0 at *
    try rw [hsz]
    clear hsz
    obtain ⟨p, hp⟩ : ∃ p, p = w.heap.size := ⟨_, rfl⟩
    rw [← hp] at HO0 HR0 ⊢
    clear hp
    have c0 : v0.cell? ⟨p, 0, none⟩ = some (.int .i64 c) := HO0.out.cell 0
    have c1 : v0.cell? ⟨p, 1, none⟩ = some (.int .i64 t) := HO0.out.cell 1
    have c2 : v0.cell? ⟨p, 2, none⟩ = some (.int .i64 u) := HO0.out.cell 2
    have d0 : v0.cell? ⟨p + 1, 0, none⟩ = some (.int .i64 r.c) := HR0.out.cell 0
    have d1 : v0.cell? ⟨p + 1, 1, none⟩ = some (.int .i64 r.w) := HR0.out.cell 1
    have d2 : v0.cell? ⟨p + 1, 2, none⟩ = some (.int .i64 r.s) := HR0.out.cell 2
    have d3 : v0.cell? ⟨p + 1, 3, none⟩ = some (.int .i64 r.k) := HR0.out.cell 3
    have d4 : v0.cell? ⟨p + 1, 4, none⟩ = some (.int .i64 r.a) := HR0.out.cell 4
    have d5 : v0.cell? ⟨p + 1, 5, none⟩ = some (.int .i64 r.q) := HR0.out.cell 5
    go_wp2_with (fail)
    go_ret
    exact ⟨by rw [HV.out, Q0.out]; rfl, HB0.out⟩
  | true =>
    cases q1 : (r.w == 0) with
    | true =>
      have Q0 := Lib.hid q0
      have Q1 := Lib.hid q1
      go_enter Tryd.func24, Tryd.ntmps24
      go_upto_region 1 with (fail)
      change Code.wp _ _ _ _ ((w.alloc (.cells (ocC c t u) 66)).alloc (.cells (rwC r) 61))
      have hsz : (w.alloc (.cells (ocC c t u) 66)).heap.size = w.heap.size + 1 := by simp
      generalize (w.alloc (.cells (ocC c t u) 66)).alloc (.cells (rwC r) 61) = v0 at *
      try rw [hsz]
      clear hsz
      obtain ⟨p, hp⟩ : ∃ p, p = w.heap.size := ⟨_, rfl⟩
      rw [← hp] at HO0 HR0 ⊢
      clear hp
      have c0 : v0.cell? ⟨p, 0, none⟩ = some (.int .i64 c) := HO0.out.cell 0
      have c1 : v0.cell? ⟨p, 1, none⟩ = some (.int .i64 t) := HO0.out.cell 1
      have c2 : v0.cell? ⟨p, 2, none⟩ = some (.int .i64 u) := HO0.out.cell 2
      have d0 : v0.cell? ⟨p + 1, 0, none⟩ = some (.int .i64 r.c) := HR0.out.cell 0
      have d1 : v0.cell? ⟨p + 1, 1, none⟩ = some (.int .i64 r.w) := HR0.out.cell 1
      have d2 : v0.cell? ⟨p + 1, 2, none⟩ = some (.int .i64 r.s) := HR0.out.cell 2
      have d3 : v0.cell? ⟨p + 1, 3, none⟩ = some (.int .i64 r.k) := HR0.out.cell 3
      have d4 : v0.cell? ⟨p + 1, 4, none⟩ = some (.int .i64 r.a) := HR0.out.cell 4
      have d5 : v0.cell? ⟨p + 1, 5, none⟩ = some (.int .i64 r.q) := HR0.out.cell 5
      go_wp2_with (fail)
      refine (takes_any r t v0).mono ?_; rintro e v1 ⟨rfl, hb⟩
      have HB1 := Lib.hid (HB0.out.trans (hb.mono HB0.out.size)); clear hb
      generalize tkB r t = b at *
      go_wp2_with (fail)
      go_ret
      exact ⟨by rw [HV.out, Q0.out, Q1.out]; rfl, HB1.out⟩
    | false =>
      cases q2 : (u == r.w) with
      | false =>
        have Q0 := Lib.hid q0
        have Q1 := Lib.hid q1
        have Q2 := Lib.hid q2
        go_enter Tryd.func24, Tryd.ntmps24
        go_upto_region 1 with (fail)
        change Code.wp _ _ _ _ ((w.alloc (.cells (ocC c t u) 66)).alloc (.cells (rwC r) 61))
        have hsz : (w.alloc (.cells (ocC c t u) 66)).heap.size = w.heap.size + 1 := by simp
        generalize (w.alloc (.cells (ocC c t u) 66)).alloc (.cells (rwC r) 61) = v0 at *
        try rw [hsz]
        clear hsz
        obtain ⟨p, hp⟩ : ∃ p, p = w.heap.size := ⟨_, rfl⟩
        rw [← hp] at HO0 HR0 ⊢
        clear hp
        have c0 : v0.cell? ⟨p, 0, none⟩ = some (.int .i64 c) := HO0.out.cell 0
        have c1 : v0.cell? ⟨p, 1, none⟩ = some (.int .i64 t) := HO0.out.cell 1
        have c2 : v0.cell? ⟨p, 2, none⟩ = some (.int .i64 u) := HO0.out.cell 2
        have d0 : v0.cell? ⟨p + 1, 0, none⟩ = some (.int .i64 r.c) := HR0.out.cell 0
        have d1 : v0.cell? ⟨p + 1, 1, none⟩ = some (.int .i64 r.w) := HR0.out.cell 1
        have d2 : v0.cell? ⟨p + 1, 2, none⟩ = some (.int .i64 r.s) := HR0.out.cell 2
        have d3 : v0.cell? ⟨p + 1, 3, none⟩ = some (.int .i64 r.k) := HR0.out.cell 3
        have d4 : v0.cell? ⟨p + 1, 4, none⟩ = some (.int .i64 r.a) := HR0.out.cell 4
        have d5 : v0.cell? ⟨p + 1, 5, none⟩ = some (.int .i64 r.q) := HR0.out.cell 5
        go_wp2_with (fail)
        go_ret
        exact ⟨by rw [HV.out, Q0.out, Q1.out, Q2.out]; rfl, HB0.out⟩
      | true =>
        have Q0 := Lib.hid q0
        have Q1 := Lib.hid q1
        have Q2 := Lib.hid q2
        go_enter Tryd.func24, Tryd.ntmps24
        go_upto_region 1 with (fail)
        change Code.wp _ _ _ _ ((w.alloc (.cells (ocC c t u) 66)).alloc (.cells (rwC r) 61))
        have hsz : (w.alloc (.cells (ocC c t u) 66)).heap.size = w.heap.size + 1 := by simp
        generalize (w.alloc (.cells (ocC c t u) 66)).alloc (.cells (rwC r) 61) = v0 at *
        try rw [hsz]
        clear hsz
        obtain ⟨p, hp⟩ : ∃ p, p = w.heap.size := ⟨_, rfl⟩
        rw [← hp] at HO0 HR0 ⊢
        clear hp
        have c0 : v0.cell? ⟨p, 0, none⟩ = some (.int .i64 c) := HO0.out.cell 0
        have c1 : v0.cell? ⟨p, 1, none⟩ = some (.int .i64 t) := HO0.out.cell 1
        have c2 : v0.cell? ⟨p, 2, none⟩ = some (.int .i64 u) := HO0.out.cell 2
        have d0 : v0.cell? ⟨p + 1, 0, none⟩ = some (.int .i64 r.c) := HR0.out.cell 0
        have d1 : v0.cell? ⟨p + 1, 1, none⟩ = some (.int .i64 r.w) := HR0.out.cell 1
        have d2 : v0.cell? ⟨p + 1, 2, none⟩ = some (.int .i64 r.s) := HR0.out.cell 2
        have d3 : v0.cell? ⟨p + 1, 3, none⟩ = some (.int .i64 r.k) := HR0.out.cell 3
        have d4 : v0.cell? ⟨p + 1, 4, none⟩ = some (.int .i64 r.a) := HR0.out.cell 4
        have d5 : v0.cell? ⟨p + 1, 5, none⟩ = some (.int .i64 r.q) := HR0.out.cell 5
        go_wp2_with (fail)
        refine (takes_any r t v0).mono ?_; rintro e v1 ⟨rfl, hb⟩
        have HB1 := Lib.hid (HB0.out.trans (hb.mono HB0.out.size)); clear hb
        generalize tkB r t = b at *
        go_wp2_with (fail)
        go_ret
        exact ⟨by rw [HV.out, Q0.out, Q1.out, Q2.out]; rfl, HB1.out⟩
set_option maxRecDepth 100000 in
set_option maxHeartbeats 4000000 in
theorem pIsOf_any (n : Int) (x : Sn) (r : Rw) (w : World) : Calls Tryd.prog 27 #[rpqV n x, rwV r] w fun e w' => e = .returned (.bool (pB n x r)) ∧ Below w.heap.size w w' := by
  have HV := Lib.hid (show pB n x r = ((n == r.s) && tkB r x.t && decide (x = senR r x.t)) from rfl)
  have HO0 := Lib.hid ((Blk.new w 70 (rpqC n x)).alloc (.cells (rwC r) 61))
  have HR0 := Lib.hid (show Blk ((w.alloc (.cells (rpqC n x) 70)).alloc (.cells (rwC r) 61)) (w.heap.size + 1) 61 (rwC r) by
    have := Blk.new (w.alloc (.cells (rpqC n x) 70)) 61 (rwC r)
    rwa [show (w.alloc (.cells (rpqC n x) 70)).heap.size = w.heap.size + 1 by simp] at this)
  have HB0 := Lib.hid (((Below.refl w.heap.size w).alloc (Nat.le_refl _) (.cells (rpqC n x) 70)).alloc (by simp) (.cells (rwC r) 61))
  cases q0 : (n == r.s) with
  | false =>
    have Q0 := Lib.hid q0
    go_enter Tryd.func27, Tryd.ntmps27
    go_upto_region 1 with (fail)
    change Code.wp _ _ _ _ ((w.alloc (.cells (rpqC n x) 70)).alloc (.cells (rwC r) 61))
    have hsz : (w.alloc (.cells (rpqC n x) 70)).heap.size = w.heap.size + 1 := by simp
    generalize (w.alloc (.cells (rpqC n x) 70)).alloc (.cells (rwC r) 61) = v0 at *
    try rw [hsz]
    clear hsz
    obtain ⟨p, hp⟩ : ∃ p, p = w.heap.size := ⟨_, rfl⟩
    rw [← hp] at HO0 HR0 ⊢
    clear hp
    refine wp_region_held_drew (S := (fun v => Blk v p 70 (rpqC n x) ∧ Blk v (p + 1) 61 (rwC r))) (by kernel_rfl) ?_ (fun hHeld => ?_)
    · exact ⟨HO0.out.drew, HR0.out.drew⟩
    have HB := Lib.hid HB0.out.drew; have HO := Lib.hid HO0.out.drew; have HR := Lib.hid HR0.out.drew
    generalize v0.drew = x0 at *
    clear HB0 HO0 HR0
    refine takeH (i := 0) (v := ?_) rfl (by kernel_rfl) (by kernel_rfl) (by kernel_rfl) (fun _ _ _ h => h) (some 5) rfl (Or.inl ⟨by rfl, ?_⟩) (by assumption) ?_
    rotate_left 1
    · intro wz hSw
      go_simp
      try with_reducible rfl
    simp only [Act.put, List.setIfInBounds_toArray, List.set_cons_zero, List.set_cons_succ]
    refine takeH (i := 1) (v := ?_) rfl (by kernel_rfl) (by kernel_rfl) (by kernel_rfl) (fun _ _ _ h => h) (some 6) rfl (Or.inl ⟨by rfl, ?_⟩) (by assumption) ?_
    rotate_left 1
    · intro wz hSw
      have c0 : wz.cell? ⟨p, 0, none⟩ = some (.int .i64 n) := hSw.1.cell 0
      have c4 : wz.cell? ⟨p, 4, none⟩ = some (.int .i64 x.t) := hSw.1.cell 4
      have d2 : wz.cell? ⟨p + 1, 2, none⟩ = some (.int .i64 r.s) := hSw.2.cell 2
      go_simp
      try with_reducible rfl
    simp only [Act.put, List.setIfInBounds_toArray, List.set_cons_zero, List.set_cons_succ]
    refine takeH (i := 2) (v := ?_) rfl (by kernel_rfl) (by kernel_rfl) (by kernel_rfl) (fun _ _ _ h => h) (some 7) rfl (Or.inl ⟨by rfl, ?_⟩) (by assumption) ?_
    rotate_left 1
    · intro wz hSw
      go_simp
      try with_reducible rfl
    simp only [Act.put, List.setIfInBounds_toArray, List.set_cons_zero, List.set_cons_succ]
    refine takeH (i := 3) (v := ?_) rfl (by kernel_rfl) (by kernel_rfl) (by kernel_rfl) (fun _ _ _ h => h) (some 8) rfl (Or.inl ⟨by rfl, ?_⟩) (by assumption) ?_
    rotate_left 1
    · intro wz hSw
      have c0 : wz.cell? ⟨p, 0, none⟩ = some (.int .i64 n) := hSw.1.cell 0
      have c4 : wz.cell? ⟨p, 4, none⟩ = some (.int .i64 x.t) := hSw.1.cell 4
      have d2 : wz.cell? ⟨p + 1, 2, none⟩ = some (.int .i64 r.s) := hSw.2.cell 2
      go_simp
      try with_reducible rfl
    simp only [Act.put, List.setIfInBounds_toArray, List.set_cons_zero, List.set_cons_succ]
    refine takeH (i := 4) (v := ?_) rfl (by kernel_rfl) (by kernel_rfl) (by kernel_rfl) (fun _ _ _ h => h) (some 9) rfl (Or.inl ⟨by rfl, ?_⟩) (by assumption) ?_
    rotate_left 1
    · intro wz hSw
      go_simp
      try with_reducible rfl
    simp only [Act.put, List.setIfInBounds_toArray, List.set_cons_zero, List.set_cons_succ]
    refine takeH (i := 5) (v := ?_) rfl (by kernel_rfl) (by kernel_rfl) (by kernel_rfl) (fun _ _ _ h => h) (some 10) rfl (Or.inl ⟨by rfl, ?_⟩) (by assumption) ?_
    rotate_left 1
    · intro wz hSw
      go_simp
      try with_reducible rfl
    simp only [Act.put, List.setIfInBounds_toArray, List.set_cons_zero, List.set_cons_succ]
    refine takeH (i := 6) (v := undef) rfl (by kernel_rfl) (by kernel_rfl) (by kernel_rfl) (fun _ _ _ h => h) (some 11) rfl (Or.inr ⟨by rfl, rfl⟩) (by assumption) ?_
    simp only [Act.put, List.setIfInBounds_toArray, List.set_cons_zero, List.set_cons_succ]
    refine takeH (i := 7) (v := undef) rfl (by kernel_rfl) (by kernel_rfl) (by kernel_rfl) (fun _ _ _ h => h) (some 12) rfl (Or.inr ⟨by rfl, rfl⟩) (by assumption) ?_
    simp only [Act.put, List.setIfInBounds_toArray, List.set_cons_zero, List.set_cons_succ]
    refine takeH (i := 8) (v := undef) rfl (by kernel_rfl) (by kernel_rfl) (by kernel_rfl) (fun _ _ _ h => h) (some 13) rfl (Or.inr ⟨by rfl, rfl⟩) (by assumption) ?_
    simp only [Act.put, List.setIfInBounds_toArray, List.set_cons_zero, List.set_cons_succ]
    refine takeH (i := 9) (v := undef) rfl (by kernel_rfl) (by kernel_rfl) (by kernel_rfl) (fun _ _ _ h => h) (some 14) rfl (Or.inr ⟨by rfl, rfl⟩) (by assumption) ?_
    simp only [Act.put, List.setIfInBounds_toArray, List.set_cons_zero, List.set_cons_succ]
    refine takeH (i := 10) (v := undef) rfl (by kernel_rfl) (by kernel_rfl) (by kernel_rfl) (fun _ _ _ h => h) (some 15) rfl (Or.inr ⟨by rfl, rfl⟩) (by assumption) ?_
    simp only [Act.put, List.setIfInBounds_toArray, List.set_cons_zero, List.set_cons_succ]
    refine takeH (i := 11) (v := ?_) rfl (by kernel_rfl) (by kernel_rfl) (by kernel_rfl) (fun _ _ _ h => h) (some 16) rfl (Or.inl ⟨by rfl, ?_⟩) (by assumption) ?_
    rotate_left 1
    · intro wz hSw
      go_simp
      try with_reducible rfl
    simp only [Act.put, List.setIfInBounds_toArray, List.set_cons_zero, List.set_cons_succ]
    refine takeH (i := 12) (v := ?_) rfl (by kernel_rfl) (by kernel_rfl) (by kernel_rfl) (fun _ _ _ h => h) (some 17) rfl (Or.inl ⟨by rfl, ?_⟩) (by assumption) ?_
    rotate_left 1
    · intro wz hSw
      go_simp
      try with_reducible rfl
    simp only [Act.put, List.setIfInBounds_toArray, List.set_cons_zero, List.set_cons_succ]
    refine takeH (i := 13) (v := undef) rfl (by kernel_rfl) (by kernel_rfl) (by kernel_rfl) (fun _ _ _ h => h) (some 18) rfl (Or.inr ⟨by rfl, rfl⟩) (by assumption) ?_
    simp only [Act.put, List.setIfInBounds_toArray, List.set_cons_zero, List.set_cons_succ]
    refine takeH (i := 14) (v := undef) rfl (by kernel_rfl) (by kernel_rfl) (by kernel_rfl) (fun _ _ _ h => h) (some 19) rfl (Or.inr ⟨by rfl, rfl⟩) (by assumption) ?_
    simp only [Act.put, List.setIfInBounds_toArray, List.set_cons_zero, List.set_cons_succ]
    refine takeH (i := 15) (v := undef) rfl (by kernel_rfl) (by kernel_rfl) (by kernel_rfl) (fun _ _ _ h => h) (some 20) rfl (Or.inr ⟨by rfl, rfl⟩) (by assumption) ?_
    simp only [Act.put, List.setIfInBounds_toArray, List.set_cons_zero, List.set_cons_succ]
    refine takeH (i := 16) (v := undef) rfl (by kernel_rfl) (by kernel_rfl) (by kernel_rfl) (fun _ _ _ h => h) (some 21) rfl (Or.inr ⟨by rfl, rfl⟩) (by assumption) ?_
    simp only [Act.put, List.setIfInBounds_toArray, List.set_cons_zero, List.set_cons_succ]
    refine takeH (i := 17) (v := undef) rfl (by kernel_rfl) (by kernel_rfl) (by kernel_rfl) (fun _ _ _ h => h) (some 22) rfl (Or.inr ⟨by rfl, rfl⟩) (by assumption) ?_
    simp only [Act.put, List.setIfInBounds_toArray, List.set_cons_zero, List.set_cons_succ]
    refine takeH (i := 18) (v := undef) rfl (by kernel_rfl) (by kernel_rfl) (by kernel_rfl) (fun _ _ _ h => h) (some 23) rfl (Or.inr ⟨by rfl, rfl⟩) (by assumption) ?_
    simp only [Act.put, List.setIfInBounds_toArray, List.set_cons_zero, List.set_cons_succ]
    refine takeH (i := 19) (v := undef) rfl (by kernel_rfl) (by kernel_rfl) (by kernel_rfl) (fun _ _ _ h => h) (some 24) rfl (Or.inr ⟨by rfl, rfl⟩) (by assumption) ?_
    simp only [Act.put, List.setIfInBounds_toArray, List.set_cons_zero, List.set_cons_succ]
    refine takeH (i := 20) (v := undef) rfl (by kernel_rfl) (by kernel_rfl) (by kernel_rfl) (fun _ _ _ h => h) (some 25) rfl (Or.inr ⟨by rfl, rfl⟩) (by assumption) ?_
    simp only [Act.put, List.setIfInBounds_toArray, List.set_cons_zero, List.set_cons_succ]
    refine takeH (i := 21) (v := ?_) rfl (by kernel_rfl) (by kernel_rfl) (by kernel_rfl) (fun _ _ _ h => h) (some 26) rfl (Or.inl ⟨by rfl, ?_⟩) (by assumption) ?_
    rotate_left 1
    · intro wz hSw
      go_simp
      try with_reducible rfl
    simp only [Act.put, List.setIfInBounds_toArray, List.set_cons_zero, List.set_cons_succ]
    refine takeH (i := 22) (v := ?_) rfl (by kernel_rfl) (by kernel_rfl) (by kernel_rfl) (fun _ _ _ h => h) (some 4) rfl (Or.inl ⟨by rfl, ?_⟩) (by assumption) ?_
    rotate_left 1
    · intro wz hSw
      go_simp
      try with_reducible rfl
    simp only [Act.put, List.setIfInBounds_toArray, List.set_cons_zero, List.set_cons_succ]
    refine wpAnyH_done (by kernel_rfl) ?_ _
    go_wp2_with (fail)
    go_ret
    exact ⟨by rw [HV.out, Q0.out]; rfl, HB.out⟩
  | true =>
    cases q1 : tkB r x.t with
    | false =>
      have Q0 := Lib.hid q0
      have Q1 := Lib.hid q1
      go_enter Tryd.func27, Tryd.ntmps27
      go_upto_region 1 with (fail)
      change Code.wp _ _ _ _ ((w.alloc (.cells (rpqC n x) 70)).alloc (.cells (rwC r) 61))
      have hsz : (w.alloc (.cells (rpqC n x) 70)).heap.size = w.heap.size + 1 := by simp
      generalize (w.alloc (.cells (rpqC n x) 70)).alloc (.cells (rwC r) 61) = v0 at *
      try rw [hsz]
      clear hsz
      obtain ⟨p, hp⟩ : ∃ p, p = w.heap.size := ⟨_, rfl⟩
      rw [← hp] at HO0 HR0 ⊢
      clear hp
      refine wp_region_held_drew (S := (fun v => Blk v p 70 (rpqC n x) ∧ Blk v (p + 1) 61 (rwC r))) (by kernel_rfl) ?_ (fun hHeld => ?_)
      · exact ⟨HO0.out.drew, HR0.out.drew⟩
      have HB := Lib.hid HB0.out.drew; have HO := Lib.hid HO0.out.drew; have HR := Lib.hid HR0.out.drew
      generalize v0.drew = x0 at *
      clear HB0 HO0 HR0
      refine takeH (i := 0) (v := ?_) rfl (by kernel_rfl) (by kernel_rfl) (by kernel_rfl) (fun _ _ _ h => h) (some 5) rfl (Or.inl ⟨by rfl, ?_⟩) (by assumption) ?_
      rotate_left 1
      · intro wz hSw
        go_simp
        try with_reducible rfl
      simp only [Act.put, List.setIfInBounds_toArray, List.set_cons_zero, List.set_cons_succ]
      refine takeH (i := 1) (v := ?_) rfl (by kernel_rfl) (by kernel_rfl) (by kernel_rfl) (fun _ _ _ h => h) (some 6) rfl (Or.inl ⟨by rfl, ?_⟩) (by assumption) ?_
      rotate_left 1
      · intro wz hSw
        have c0 : wz.cell? ⟨p, 0, none⟩ = some (.int .i64 n) := hSw.1.cell 0
        have c4 : wz.cell? ⟨p, 4, none⟩ = some (.int .i64 x.t) := hSw.1.cell 4
        have d2 : wz.cell? ⟨p + 1, 2, none⟩ = some (.int .i64 r.s) := hSw.2.cell 2
        go_simp
        try with_reducible rfl
      simp only [Act.put, List.setIfInBounds_toArray, List.set_cons_zero, List.set_cons_succ]
      refine takeH (i := 2) (v := ?_) rfl (by kernel_rfl) (by kernel_rfl) (by kernel_rfl) (fun _ _ _ h => h) (some 7) rfl (Or.inl ⟨by rfl, ?_⟩) (by assumption) ?_
      rotate_left 1
      · intro wz hSw
        go_simp
        try with_reducible rfl
      simp only [Act.put, List.setIfInBounds_toArray, List.set_cons_zero, List.set_cons_succ]
      refine takeH (i := 3) (v := ?_) rfl (by kernel_rfl) (by kernel_rfl) (by kernel_rfl) (fun _ _ _ h => h) (some 8) rfl (Or.inl ⟨by rfl, ?_⟩) (by assumption) ?_
      rotate_left 1
      · intro wz hSw
        have c0 : wz.cell? ⟨p, 0, none⟩ = some (.int .i64 n) := hSw.1.cell 0
        have c4 : wz.cell? ⟨p, 4, none⟩ = some (.int .i64 x.t) := hSw.1.cell 4
        have d2 : wz.cell? ⟨p + 1, 2, none⟩ = some (.int .i64 r.s) := hSw.2.cell 2
        go_simp
        try with_reducible rfl
      simp only [Act.put, List.setIfInBounds_toArray, List.set_cons_zero, List.set_cons_succ]
      refine takeH (i := 4) (v := ?_) rfl (by kernel_rfl) (by kernel_rfl) (by kernel_rfl) (fun _ _ _ h => h) (some 9) rfl (Or.inl ⟨by rfl, ?_⟩) (by assumption) ?_
      rotate_left 1
      · intro wz hSw
        go_simp
        try with_reducible rfl
      simp only [Act.put, List.setIfInBounds_toArray, List.set_cons_zero, List.set_cons_succ]
      refine takeH (i := 5) (v := ?_) rfl (by kernel_rfl) (by kernel_rfl) (by kernel_rfl) (fun _ _ _ h => h) (some 10) rfl (Or.inl ⟨by rfl, ?_⟩) (by assumption) ?_
      rotate_left 1
      · intro wz hSw
        go_simp
        try with_reducible rfl
      simp only [Act.put, List.setIfInBounds_toArray, List.set_cons_zero, List.set_cons_succ]
      refine takeH (i := 6) (v := (rwV r)) rfl (by kernel_rfl) (by kernel_rfl) (by kernel_rfl) (fun _ _ _ h => h) (some 11) rfl ?_ (by assumption) ?_
      · exact yieldsIf_load_mid (by rfl) 61 (.tmp 3) rfl (p + 1) 0 (by rfl) (rwC r).toList _ (fun wz hSw => hSw.2.range 0 _ (fun j v h => by rw [Nat.zero_add]; simpa using h)) Tryd.underlying61 rfl rw_info
      simp only [Act.put, List.setIfInBounds_toArray, List.set_cons_zero, List.set_cons_succ]
      refine takeH (i := 7) (v := ?_) rfl (by kernel_rfl) (by kernel_rfl) (by kernel_rfl) (fun _ _ _ h => h) (some 12) rfl (Or.inl ⟨by rfl, ?_⟩) (by assumption) ?_
      rotate_left 1
      · intro wz hSw
        go_simp
        try with_reducible rfl
      simp only [Act.put, List.setIfInBounds_toArray, List.set_cons_zero, List.set_cons_succ]
      refine takeH (i := 8) (v := ?_) rfl (by kernel_rfl) (by kernel_rfl) (by kernel_rfl) (fun _ _ _ h => h) (some 13) rfl (Or.inl ⟨by rfl, ?_⟩) (by assumption) ?_
      rotate_left 1
      · intro wz hSw
        go_simp
        try with_reducible rfl
      simp only [Act.put, List.setIfInBounds_toArray, List.set_cons_zero, List.set_cons_succ]
      refine takeH (i := 9) (v := ?_) rfl (by kernel_rfl) (by kernel_rfl) (by kernel_rfl) (fun _ _ _ h => h) (some 14) rfl (Or.inl ⟨by rfl, ?_⟩) (by assumption) ?_
      rotate_left 1
      · intro wz hSw
        have c0 : wz.cell? ⟨p, 0, none⟩ = some (.int .i64 n) := hSw.1.cell 0
        have c4 : wz.cell? ⟨p, 4, none⟩ = some (.int .i64 x.t) := hSw.1.cell 4
        have d2 : wz.cell? ⟨p + 1, 2, none⟩ = some (.int .i64 r.s) := hSw.2.cell 2
        go_simp
        try with_reducible rfl
      simp only [Act.put, List.setIfInBounds_toArray, List.set_cons_zero, List.set_cons_succ]
      refine wpAnyH_ready (rs := [10]) (by kernel_rfl) (by simp) ?_
      refine AllReadyH.cons rfl (fun KK hKK => ?_) AllReadyH.nil
      refine step_call2 (by rfl) 35 (.tmp 11) (.tmp 14) _ (by rfl) _ _ (by rfl) (by rfl) (fun _ _ => rfl) _ (takes_any r x.t x0) (some 15) rfl ?_
      rintro e x1 ⟨rfl, hb⟩
      refine ⟨_, rfl, ?_⟩
      replace HB := Lib.hid (HB.out.trans (hb.mono HB.out.size)); replace HO := Lib.hid (HO.out.below hb HO.out.lt); replace HR := Lib.hid (HR.out.below hb HR.out.lt); clear hb
      refine hKK.out _ _ ⟨HO.out, HR.out⟩ (fun hHeld => ?_)
      clear hKK KK
      rw [Q1.out]
      simp only [Act.put, List.setIfInBounds_toArray, List.set_cons_zero, List.set_cons_succ]
      refine takeH (i := 11) (v := ?_) rfl (by kernel_rfl) (by kernel_rfl) (by kernel_rfl) (fun _ _ _ h => h) (some 16) rfl (Or.inl ⟨by rfl, ?_⟩) (by assumption) ?_
      rotate_left 1
      · intro wz hSw
        go_simp
        try with_reducible rfl
      simp only [Act.put, List.setIfInBounds_toArray, List.set_cons_zero, List.set_cons_succ]
      refine takeH (i := 12) (v := ?_) rfl (by kernel_rfl) (by kernel_rfl) (by kernel_rfl) (fun _ _ _ h => h) (some 17) rfl (Or.inl ⟨by rfl, ?_⟩) (by assumption) ?_
      rotate_left 1
      · intro wz hSw
        go_simp
        try with_reducible rfl
      simp only [Act.put, List.setIfInBounds_toArray, List.set_cons_zero, List.set_cons_succ]
      refine takeH (i := 13) (v := undef) rfl (by kernel_rfl) (by kernel_rfl) (by kernel_rfl) (fun _ _ _ h => h) (some 18) rfl (Or.inr ⟨by rfl, rfl⟩) (by assumption) ?_
      simp only [Act.put, List.setIfInBounds_toArray, List.set_cons_zero, List.set_cons_succ]
      refine takeH (i := 14) (v := undef) rfl (by kernel_rfl) (by kernel_rfl) (by kernel_rfl) (fun _ _ _ h => h) (some 19) rfl (Or.inr ⟨by rfl, rfl⟩) (by assumption) ?_
      simp only [Act.put, List.setIfInBounds_toArray, List.set_cons_zero, List.set_cons_succ]
      refine takeH (i := 15) (v := undef) rfl (by kernel_rfl) (by kernel_rfl) (by kernel_rfl) (fun _ _ _ h => h) (some 20) rfl (Or.inr ⟨by rfl, rfl⟩) (by assumption) ?_
      simp only [Act.put, List.setIfInBounds_toArray, List.set_cons_zero, List.set_cons_succ]
      refine takeH (i := 16) (v := undef) rfl (by kernel_rfl) (by kernel_rfl) (by kernel_rfl) (fun _ _ _ h => h) (some 21) rfl (Or.inr ⟨by rfl, rfl⟩) (by assumption) ?_
      simp only [Act.put, List.setIfInBounds_toArray, List.set_cons_zero, List.set_cons_succ]
      refine takeH (i := 17) (v := undef) rfl (by kernel_rfl) (by kernel_rfl) (by kernel_rfl) (fun _ _ _ h => h) (some 22) rfl (Or.inr ⟨by rfl, rfl⟩) (by assumption) ?_
      simp only [Act.put, List.setIfInBounds_toArray, List.set_cons_zero, List.set_cons_succ]
      refine takeH (i := 18) (v := undef) rfl (by kernel_rfl) (by kernel_rfl) (by kernel_rfl) (fun _ _ _ h => h) (some 23) rfl (Or.inr ⟨by rfl, rfl⟩) (by assumption) ?_
      simp only [Act.put, List.setIfInBounds_toArray, List.set_cons_zero, List.set_cons_succ]
      refine takeH (i := 19) (v := undef) rfl (by kernel_rfl) (by kernel_rfl) (by kernel_rfl) (fun _ _ _ h => h) (some 24) rfl (Or.inr ⟨by rfl, rfl⟩) (by assumption) ?_
      simp only [Act.put, List.setIfInBounds_toArray, List.set_cons_zero, List.set_cons_succ]
      refine takeH (i := 20) (v := undef) rfl (by kernel_rfl) (by kernel_rfl) (by kernel_rfl) (fun _ _ _ h => h) (some 25) rfl (Or.inr ⟨by rfl, rfl⟩) (by assumption) ?_
      simp only [Act.put, List.setIfInBounds_toArray, List.set_cons_zero, List.set_cons_succ]
      refine takeH (i := 21) (v := ?_) rfl (by kernel_rfl) (by kernel_rfl) (by kernel_rfl) (fun _ _ _ h => h) (some 26) rfl (Or.inl ⟨by rfl, ?_⟩) (by assumption) ?_
      rotate_left 1
      · intro wz hSw
        go_simp
        try with_reducible rfl
      simp only [Act.put, List.setIfInBounds_toArray, List.set_cons_zero, List.set_cons_succ]
      refine takeH (i := 22) (v := ?_) rfl (by kernel_rfl) (by kernel_rfl) (by kernel_rfl) (fun _ _ _ h => h) (some 4) rfl (Or.inl ⟨by rfl, ?_⟩) (by assumption) ?_
      rotate_left 1
      · intro wz hSw
        go_simp
        try with_reducible rfl
      simp only [Act.put, List.setIfInBounds_toArray, List.set_cons_zero, List.set_cons_succ]
      refine wpAnyH_done (by kernel_rfl) ?_ _
      go_wp2_with (fail)
      go_ret
      exact ⟨by rw [HV.out, Q0.out, Q1.out]; rfl, HB.out⟩
    | true =>
      cases q2 : decide (x = senR r x.t) with
      | false =>
        have Q0 := Lib.hid q0
        have Q1 := Lib.hid q1
        have Q2 := Lib.hid q2
        have EQ := Lib.hid (show x.k = (senR r x.t).k → x.a = (senR r x.t).a → x.q = (senR r x.t).q → ¬ x.t = (senR r x.t).t from sn_no (by simpa using q2))
        go_enter Tryd.func27, Tryd.ntmps27
        go_upto_region 1 with (fail)
        change Code.wp _ _ _ _ ((w.alloc (.cells (rpqC n x) 70)).alloc (.cells (rwC r) 61))
        have hsz : (w.alloc (.cells (rpqC n x) 70)).heap.size = w.heap.size + 1 := by simp
        generalize (w.alloc (.cells (rpqC n x) 70)).alloc (.cells (rwC r) 61) = v0 at *
        try rw [hsz]
        clear hsz
        obtain ⟨p, hp⟩ : ∃ p, p = w.heap.size := ⟨_, rfl⟩
        rw [← hp] at HO0 HR0 ⊢
        clear hp
        refine wp_region_held_drew (S := (fun v => Blk v p 70 (rpqC n x) ∧ Blk v (p + 1) 61 (rwC r))) (by kernel_rfl) ?_ (fun hHeld => ?_)
        · exact ⟨HO0.out.drew, HR0.out.drew⟩
        have HB := Lib.hid HB0.out.drew; have HO := Lib.hid HO0.out.drew; have HR := Lib.hid HR0.out.drew
        generalize v0.drew = x0 at *
        clear HB0 HO0 HR0
        refine takeH (i := 0) (v := ?_) rfl (by kernel_rfl) (by kernel_rfl) (by kernel_rfl) (fun _ _ _ h => h) (some 5) rfl (Or.inl ⟨by rfl, ?_⟩) (by assumption) ?_
        rotate_left 1
        · intro wz hSw
          go_simp
          try with_reducible rfl
        simp only [Act.put, List.setIfInBounds_toArray, List.set_cons_zero, List.set_cons_succ]
        refine takeH (i := 1) (v := ?_) rfl (by kernel_rfl) (by kernel_rfl) (by kernel_rfl) (fun _ _ _ h => h) (some 6) rfl (Or.inl ⟨by rfl, ?_⟩) (by assumption) ?_
        rotate_left 1
        · intro wz hSw
          have c0 : wz.cell? ⟨p, 0, none⟩ = some (.int .i64 n) := hSw.1.cell 0
          have c4 : wz.cell? ⟨p, 4, none⟩ = some (.int .i64 x.t) := hSw.1.cell 4
          have d2 : wz.cell? ⟨p + 1, 2, none⟩ = some (.int .i64 r.s) := hSw.2.cell 2
          go_simp
          try with_reducible rfl
        simp only [Act.put, List.setIfInBounds_toArray, List.set_cons_zero, List.set_cons_succ]
        refine takeH (i := 2) (v := ?_) rfl (by kernel_rfl) (by kernel_rfl) (by kernel_rfl) (fun _ _ _ h => h) (some 7) rfl (Or.inl ⟨by rfl, ?_⟩) (by assumption) ?_
        rotate_left 1
        · intro wz hSw
          go_simp
          try with_reducible rfl
        simp only [Act.put, List.setIfInBounds_toArray, List.set_cons_zero, List.set_cons_succ]
        refine takeH (i := 3) (v := ?_) rfl (by kernel_rfl) (by kernel_rfl) (by kernel_rfl) (fun _ _ _ h => h) (some 8) rfl (Or.inl ⟨by rfl, ?_⟩) (by assumption) ?_
        rotate_left 1
        · intro wz hSw
          have c0 : wz.cell? ⟨p, 0, none⟩ = some (.int .i64 n) := hSw.1.cell 0
          have c4 : wz.cell? ⟨p, 4, none⟩ = some (.int .i64 x.t) := hSw.1.cell 4
          have d2 : wz.cell? ⟨p + 1, 2, none⟩ = some (.int .i64 r.s) := hSw.2.cell 2
          go_simp
          try with_reducible rfl
        simp only [Act.put, List.setIfInBounds_toArray, List.set_cons_zero, List.set_cons_succ]
        refine takeH (i := 4) (v := ?_) rfl (by kernel_rfl) (by kernel_rfl) (by kernel_rfl) (fun _ _ _ h => h) (some 9) rfl (Or.inl ⟨by rfl, ?_⟩) (by assumption) ?_
        rotate_left 1
        · intro wz hSw
          go_simp
          try with_reducible rfl
        simp only [Act.put, List.setIfInBounds_toArray, List.set_cons_zero, List.set_cons_succ]
        refine takeH (i := 5) (v := ?_) rfl (by kernel_rfl) (by kernel_rfl) (by kernel_rfl) (fun _ _ _ h => h) (some 10) rfl (Or.inl ⟨by rfl, ?_⟩) (by assumption) ?_
        rotate_left 1
        · intro wz hSw
          go_simp
          try with_reducible rfl
        simp only [Act.put, List.setIfInBounds_toArray, List.set_cons_zero, List.set_cons_succ]
        refine takeH (i := 6) (v := (rwV r)) rfl (by kernel_rfl) (by kernel_rfl) (by kernel_rfl) (fun _ _ _ h => h) (some 11) rfl ?_ (by assumption) ?_
        · exact yieldsIf_load_mid (by rfl) 61 (.tmp 3) rfl (p + 1) 0 (by rfl) (rwC r).toList _ (fun wz hSw => hSw.2.range 0 _ (fun j v h => by rw [Nat.zero_add]; simpa using h)) Tryd.underlying61 rfl rw_info
        simp only [Act.put, List.setIfInBounds_toArray, List.set_cons_zero, List.set_cons_succ]
        refine takeH (i := 7) (v := ?_) rfl (by kernel_rfl) (by kernel_rfl) (by kernel_rfl) (fun _ _ _ h => h) (some 12) rfl (Or.inl ⟨by rfl, ?_⟩) (by assumption) ?_
        rotate_left 1
        · intro wz hSw
          go_simp
          try with_reducible rfl
        simp only [Act.put, List.setIfInBounds_toArray, List.set_cons_zero, List.set_cons_succ]
        refine takeH (i := 8) (v := ?_) rfl (by kernel_rfl) (by kernel_rfl) (by kernel_rfl) (fun _ _ _ h => h) (some 13) rfl (Or.inl ⟨by rfl, ?_⟩) (by assumption) ?_
        rotate_left 1
        · intro wz hSw
          go_simp
          try with_reducible rfl
        simp only [Act.put, List.setIfInBounds_toArray, List.set_cons_zero, List.set_cons_succ]
        refine takeH (i := 9) (v := ?_) rfl (by kernel_rfl) (by kernel_rfl) (by kernel_rfl) (fun _ _ _ h => h) (some 14) rfl (Or.inl ⟨by rfl, ?_⟩) (by assumption) ?_
        rotate_left 1
        · intro wz hSw
          have c0 : wz.cell? ⟨p, 0, none⟩ = some (.int .i64 n) := hSw.1.cell 0
          have c4 : wz.cell? ⟨p, 4, none⟩ = some (.int .i64 x.t) := hSw.1.cell 4
          have d2 : wz.cell? ⟨p + 1, 2, none⟩ = some (.int .i64 r.s) := hSw.2.cell 2
          go_simp
          try with_reducible rfl
        simp only [Act.put, List.setIfInBounds_toArray, List.set_cons_zero, List.set_cons_succ]
        refine wpAnyH_ready (rs := [10]) (by kernel_rfl) (by simp) ?_
        refine AllReadyH.cons rfl (fun KK hKK => ?_) AllReadyH.nil
        refine step_call2 (by rfl) 35 (.tmp 11) (.tmp 14) _ (by rfl) _ _ (by rfl) (by rfl) (fun _ _ => rfl) _ (takes_any r x.t x0) (some 15) rfl ?_
        rintro e x1 ⟨rfl, hb⟩
        refine ⟨_, rfl, ?_⟩
        replace HB := Lib.hid (HB.out.trans (hb.mono HB.out.size)); replace HO := Lib.hid (HO.out.below hb HO.out.lt); replace HR := Lib.hid (HR.out.below hb HR.out.lt); clear hb
        refine hKK.out _ _ ⟨HO.out, HR.out⟩ (fun hHeld => ?_)
        clear hKK KK
        rw [Q1.out]
        simp only [Act.put, List.setIfInBounds_toArray, List.set_cons_zero, List.set_cons_succ]
        refine takeH (i := 11) (v := ?_) rfl (by kernel_rfl) (by kernel_rfl) (by kernel_rfl) (fun _ _ _ h => h) (some 16) rfl (Or.inl ⟨by rfl, ?_⟩) (by assumption) ?_
        rotate_left 1
        · intro wz hSw
          go_simp
          try with_reducible rfl
        simp only [Act.put, List.setIfInBounds_toArray, List.set_cons_zero, List.set_cons_succ]
        refine takeH (i := 12) (v := ?_) rfl (by kernel_rfl) (by kernel_rfl) (by kernel_rfl) (fun _ _ _ h => h) (some 17) rfl (Or.inl ⟨by rfl, ?_⟩) (by assumption) ?_
        rotate_left 1
        · intro wz hSw
          go_simp
          try with_reducible rfl
        simp only [Act.put, List.setIfInBounds_toArray, List.set_cons_zero, List.set_cons_succ]
        refine takeH (i := 13) (v := ?_) rfl (by kernel_rfl) (by kernel_rfl) (by kernel_rfl) (fun _ _ _ h => h) (some 18) rfl (Or.inl ⟨by rfl, ?_⟩) (by assumption) ?_
        rotate_left 1
        · intro wz hSw
          go_simp
          try with_reducible rfl
        simp only [Act.put, List.setIfInBounds_toArray, List.set_cons_zero, List.set_cons_succ]
        refine takeH (i := 14) (v := (snV x)) rfl (by kernel_rfl) (by kernel_rfl) (by kernel_rfl) (fun _ _ _ h => h) (some 19) rfl ?_ (by assumption) ?_
        · exact yieldsIf_load_mid (by rfl) 23 (.tmp 18) rfl p 1 (by rfl) (snC x).toList _ (fun wz hSw => hSw.1.range 1 _ (fun j v h => by match j, h with | 0, h => exact h | 1, h => exact h | 2, h => exact h | 3, h => exact h)) Tryd.underlying23 rfl sn_info
        simp only [Act.put, List.setIfInBounds_toArray, List.set_cons_zero, List.set_cons_succ]
        refine takeH (i := 15) (v := (rwV r)) rfl (by kernel_rfl) (by kernel_rfl) (by kernel_rfl) (fun _ _ _ h => h) (some 20) rfl ?_ (by assumption) ?_
        · exact yieldsIf_load_mid (by rfl) 61 (.tmp 3) rfl (p + 1) 0 (by rfl) (rwC r).toList _ (fun wz hSw => hSw.2.range 0 _ (fun j v h => by rw [Nat.zero_add]; simpa using h)) Tryd.underlying61 rfl rw_info
        simp only [Act.put, List.setIfInBounds_toArray, List.set_cons_zero, List.set_cons_succ]
        refine takeH (i := 16) (v := ?_) rfl (by kernel_rfl) (by kernel_rfl) (by kernel_rfl) (fun _ _ _ h => h) (some 21) rfl (Or.inl ⟨by rfl, ?_⟩) (by assumption) ?_
        rotate_left 1
        · intro wz hSw
          go_simp
          try with_reducible rfl
        simp only [Act.put, List.setIfInBounds_toArray, List.set_cons_zero, List.set_cons_succ]
        refine takeH (i := 17) (v := ?_) rfl (by kernel_rfl) (by kernel_rfl) (by kernel_rfl) (fun _ _ _ h => h) (some 22) rfl (Or.inl ⟨by rfl, ?_⟩) (by assumption) ?_
        rotate_left 1
        · intro wz hSw
          go_simp
          try with_reducible rfl
        simp only [Act.put, List.setIfInBounds_toArray, List.set_cons_zero, List.set_cons_succ]
        refine takeH (i := 18) (v := ?_) rfl (by kernel_rfl) (by kernel_rfl) (by kernel_rfl) (fun _ _ _ h => h) (some 23) rfl (Or.inl ⟨by rfl, ?_⟩) (by assumption) ?_
        rotate_left 1
        · intro wz hSw
          have c0 : wz.cell? ⟨p, 0, none⟩ = some (.int .i64 n) := hSw.1.cell 0
          have c4 : wz.cell? ⟨p, 4, none⟩ = some (.int .i64 x.t) := hSw.1.cell 4
          have d2 : wz.cell? ⟨p + 1, 2, none⟩ = some (.int .i64 r.s) := hSw.2.cell 2
          go_simp
          try with_reducible rfl
        simp only [Act.put, List.setIfInBounds_toArray, List.set_cons_zero, List.set_cons_succ]
        refine wpAnyH_ready (rs := [19]) (by kernel_rfl) (by simp) ?_
        refine AllReadyH.cons rfl (fun KK hKK => ?_) AllReadyH.nil
        refine step_call2 (by rfl) 25 (.tmp 20) (.tmp 23) _ (by rfl) _ _ (by rfl) (by rfl) (fun _ _ => rfl) _ (sense_any r x.t x1) (some 24) rfl ?_
        rintro e x2 ⟨rfl, hb⟩
        refine ⟨_, rfl, ?_⟩
        replace HB := Lib.hid (HB.out.trans (hb.mono HB.out.size)); replace HO := Lib.hid (HO.out.below hb HO.out.lt); replace HR := Lib.hid (HR.out.below hb HR.out.lt); clear hb
        refine hKK.out _ _ ⟨HO.out, HR.out⟩ (fun hHeld => ?_)
        clear hKK KK
        simp only [Act.put, List.setIfInBounds_toArray, List.set_cons_zero, List.set_cons_succ]
        refine takeH (i := 20) (v := (.bool false)) rfl (by kernel_rfl) (by kernel_rfl) (by kernel_rfl) (fun _ _ _ h => h) (some 25) rfl (Or.inl ⟨by rfl, ?_⟩) (by assumption) ?_
        · intro wz hSw
          go_simp
          exact EQ.out
        simp only [Act.put, List.setIfInBounds_toArray, List.set_cons_zero, List.set_cons_succ]
        refine takeH (i := 21) (v := ?_) rfl (by kernel_rfl) (by kernel_rfl) (by kernel_rfl) (fun _ _ _ h => h) (some 26) rfl (Or.inl ⟨by rfl, ?_⟩) (by assumption) ?_
        rotate_left 1
        · intro wz hSw
          go_simp
          try with_reducible rfl
        simp only [Act.put, List.setIfInBounds_toArray, List.set_cons_zero, List.set_cons_succ]
        refine takeH (i := 22) (v := ?_) rfl (by kernel_rfl) (by kernel_rfl) (by kernel_rfl) (fun _ _ _ h => h) (some 4) rfl (Or.inl ⟨by rfl, ?_⟩) (by assumption) ?_
        rotate_left 1
        · intro wz hSw
          go_simp
          try with_reducible rfl
        simp only [Act.put, List.setIfInBounds_toArray, List.set_cons_zero, List.set_cons_succ]
        refine wpAnyH_done (by kernel_rfl) ?_ _
        go_wp2_with (fail)
        go_ret
        exact ⟨by rw [HV.out, Q0.out, Q1.out, Q2.out]; rfl, HB.out⟩
      | true =>
        have Q0 := Lib.hid q0
        have Q1 := Lib.hid q1
        have Q2 := Lib.hid q2
        have EQ := Lib.hid (show ∀ (T F : Result Next), (if x.k = (senR r x.t).k then if x.a = (senR r x.t).a then if x.q = (senR r x.t).q then if x.t = (senR r x.t).t then T else F else F else F else F) = T from fun T F => sn_if_yes (by simpa using q2) T F)
        go_enter Tryd.func27, Tryd.ntmps27
        go_upto_region 1 with (fail)
        change Code.wp _ _ _ _ ((w.alloc (.cells (rpqC n x) 70)).alloc (.cells (rwC r) 61))
        have hsz : (w.alloc (.cells (rpqC n x) 70)).heap.size = w.heap.size + 1 := by simp
        generalize (w.alloc (.cells (rpqC n x) 70)).alloc (.cells (rwC r) 61) = v0 at *
        try rw [hsz]
        clear hsz
        obtain ⟨p, hp⟩ : ∃ p, p = w.heap.size := ⟨_, rfl⟩
        rw [← hp] at HO0 HR0 ⊢
        clear hp
        refine wp_region_held_drew (S := (fun v => Blk v p 70 (rpqC n x) ∧ Blk v (p + 1) 61 (rwC r))) (by kernel_rfl) ?_ (fun hHeld => ?_)
        · exact ⟨HO0.out.drew, HR0.out.drew⟩
        have HB := Lib.hid HB0.out.drew; have HO := Lib.hid HO0.out.drew; have HR := Lib.hid HR0.out.drew
        generalize v0.drew = x0 at *
        clear HB0 HO0 HR0
        refine takeH (i := 0) (v := ?_) rfl (by kernel_rfl) (by kernel_rfl) (by kernel_rfl) (fun _ _ _ h => h) (some 5) rfl (Or.inl ⟨by rfl, ?_⟩) (by assumption) ?_
        rotate_left 1
        · intro wz hSw
          go_simp
          try with_reducible rfl
        simp only [Act.put, List.setIfInBounds_toArray, List.set_cons_zero, List.set_cons_succ]
        refine takeH (i := 1) (v := ?_) rfl (by kernel_rfl) (by kernel_rfl) (by kernel_rfl) (fun _ _ _ h => h) (some 6) rfl (Or.inl ⟨by rfl, ?_⟩) (by assumption) ?_
        rotate_left 1
        · intro wz hSw
          have c0 : wz.cell? ⟨p, 0, none⟩ = some (.int .i64 n) := hSw.1.cell 0
          have c4 : wz.cell? ⟨p, 4, none⟩ = some (.int .i64 x.t) := hSw.1.cell 4
          have d2 : wz.cell? ⟨p + 1, 2, none⟩ = some (.int .i64 r.s) := hSw.2.cell 2
          go_simp
          try with_reducible rfl
        simp only [Act.put, List.setIfInBounds_toArray, List.set_cons_zero, List.set_cons_succ]
        refine takeH (i := 2) (v := ?_) rfl (by kernel_rfl) (by kernel_rfl) (by kernel_rfl) (fun _ _ _ h => h) (some 7) rfl (Or.inl ⟨by rfl, ?_⟩) (by assumption) ?_
        rotate_left 1
        · intro wz hSw
          go_simp
          try with_reducible rfl
        simp only [Act.put, List.setIfInBounds_toArray, List.set_cons_zero, List.set_cons_succ]
        refine takeH (i := 3) (v := ?_) rfl (by kernel_rfl) (by kernel_rfl) (by kernel_rfl) (fun _ _ _ h => h) (some 8) rfl (Or.inl ⟨by rfl, ?_⟩) (by assumption) ?_
        rotate_left 1
        · intro wz hSw
          have c0 : wz.cell? ⟨p, 0, none⟩ = some (.int .i64 n) := hSw.1.cell 0
          have c4 : wz.cell? ⟨p, 4, none⟩ = some (.int .i64 x.t) := hSw.1.cell 4
          have d2 : wz.cell? ⟨p + 1, 2, none⟩ = some (.int .i64 r.s) := hSw.2.cell 2
          go_simp
          try with_reducible rfl
        simp only [Act.put, List.setIfInBounds_toArray, List.set_cons_zero, List.set_cons_succ]
        refine takeH (i := 4) (v := ?_) rfl (by kernel_rfl) (by kernel_rfl) (by kernel_rfl) (fun _ _ _ h => h) (some 9) rfl (Or.inl ⟨by rfl, ?_⟩) (by assumption) ?_
        rotate_left 1
        · intro wz hSw
          go_simp
          try with_reducible rfl
        simp only [Act.put, List.setIfInBounds_toArray, List.set_cons_zero, List.set_cons_succ]
        refine takeH (i := 5) (v := ?_) rfl (by kernel_rfl) (by kernel_rfl) (by kernel_rfl) (fun _ _ _ h => h) (some 10) rfl (Or.inl ⟨by rfl, ?_⟩) (by assumption) ?_
        rotate_left 1
        · intro wz hSw
          go_simp
          try with_reducible rfl
        simp only [Act.put, List.setIfInBounds_toArray, List.set_cons_zero, List.set_cons_succ]
        refine takeH (i := 6) (v := (rwV r)) rfl (by kernel_rfl) (by kernel_rfl) (by kernel_rfl) (fun _ _ _ h => h) (some 11) rfl ?_ (by assumption) ?_
        · exact yieldsIf_load_mid (by rfl) 61 (.tmp 3) rfl (p + 1) 0 (by rfl) (rwC r).toList _ (fun wz hSw => hSw.2.range 0 _ (fun j v h => by rw [Nat.zero_add]; simpa using h)) Tryd.underlying61 rfl rw_info
        simp only [Act.put, List.setIfInBounds_toArray, List.set_cons_zero, List.set_cons_succ]
        refine takeH (i := 7) (v := ?_) rfl (by kernel_rfl) (by kernel_rfl) (by kernel_rfl) (fun _ _ _ h => h) (some 12) rfl (Or.inl ⟨by rfl, ?_⟩) (by assumption) ?_
        rotate_left 1
        · intro wz hSw
          go_simp
          try with_reducible rfl
        simp only [Act.put, List.setIfInBounds_toArray, List.set_cons_zero, List.set_cons_succ]
        refine takeH (i := 8) (v := ?_) rfl (by kernel_rfl) (by kernel_rfl) (by kernel_rfl) (fun _ _ _ h => h) (some 13) rfl (Or.inl ⟨by rfl, ?_⟩) (by assumption) ?_
        rotate_left 1
        · intro wz hSw
          go_simp
          try with_reducible rfl
        simp only [Act.put, List.setIfInBounds_toArray, List.set_cons_zero, List.set_cons_succ]
        refine takeH (i := 9) (v := ?_) rfl (by kernel_rfl) (by kernel_rfl) (by kernel_rfl) (fun _ _ _ h => h) (some 14) rfl (Or.inl ⟨by rfl, ?_⟩) (by assumption) ?_
        rotate_left 1
        · intro wz hSw
          have c0 : wz.cell? ⟨p, 0, none⟩ = some (.int .i64 n) := hSw.1.cell 0
          have c4 : wz.cell? ⟨p, 4, none⟩ = some (.int .i64 x.t) := hSw.1.cell 4
          have d2 : wz.cell? ⟨p + 1, 2, none⟩ = some (.int .i64 r.s) := hSw.2.cell 2
          go_simp
          try with_reducible rfl
        simp only [Act.put, List.setIfInBounds_toArray, List.set_cons_zero, List.set_cons_succ]
        refine wpAnyH_ready (rs := [10]) (by kernel_rfl) (by simp) ?_
        refine AllReadyH.cons rfl (fun KK hKK => ?_) AllReadyH.nil
        refine step_call2 (by rfl) 35 (.tmp 11) (.tmp 14) _ (by rfl) _ _ (by rfl) (by rfl) (fun _ _ => rfl) _ (takes_any r x.t x0) (some 15) rfl ?_
        rintro e x1 ⟨rfl, hb⟩
        refine ⟨_, rfl, ?_⟩
        replace HB := Lib.hid (HB.out.trans (hb.mono HB.out.size)); replace HO := Lib.hid (HO.out.below hb HO.out.lt); replace HR := Lib.hid (HR.out.below hb HR.out.lt); clear hb
        refine hKK.out _ _ ⟨HO.out, HR.out⟩ (fun hHeld => ?_)
        clear hKK KK
        rw [Q1.out]
        simp only [Act.put, List.setIfInBounds_toArray, List.set_cons_zero, List.set_cons_succ]
        refine takeH (i := 11) (v := ?_) rfl (by kernel_rfl) (by kernel_rfl) (by kernel_rfl) (fun _ _ _ h => h) (some 16) rfl (Or.inl ⟨by rfl, ?_⟩) (by assumption) ?_
        rotate_left 1
        · intro wz hSw
          go_simp
          try with_reducible rfl
        simp only [Act.put, List.setIfInBounds_toArray, List.set_cons_zero, List.set_cons_succ]
        refine takeH (i := 12) (v := ?_) rfl (by kernel_rfl) (by kernel_rfl) (by kernel_rfl) (fun _ _ _ h => h) (some 17) rfl (Or.inl ⟨by rfl, ?_⟩) (by assumption) ?_
        rotate_left 1
        · intro wz hSw
          go_simp
          try with_reducible rfl
        simp only [Act.put, List.setIfInBounds_toArray, List.set_cons_zero, List.set_cons_succ]
        refine takeH (i := 13) (v := ?_) rfl (by kernel_rfl) (by kernel_rfl) (by kernel_rfl) (fun _ _ _ h => h) (some 18) rfl (Or.inl ⟨by rfl, ?_⟩) (by assumption) ?_
        rotate_left 1
        · intro wz hSw
          go_simp
          try with_reducible rfl
        simp only [Act.put, List.setIfInBounds_toArray, List.set_cons_zero, List.set_cons_succ]
        refine takeH (i := 14) (v := (snV x)) rfl (by kernel_rfl) (by kernel_rfl) (by kernel_rfl) (fun _ _ _ h => h) (some 19) rfl ?_ (by assumption) ?_
        · exact yieldsIf_load_mid (by rfl) 23 (.tmp 18) rfl p 1 (by rfl) (snC x).toList _ (fun wz hSw => hSw.1.range 1 _ (fun j v h => by match j, h with | 0, h => exact h | 1, h => exact h | 2, h => exact h | 3, h => exact h)) Tryd.underlying23 rfl sn_info
        simp only [Act.put, List.setIfInBounds_toArray, List.set_cons_zero, List.set_cons_succ]
        refine takeH (i := 15) (v := (rwV r)) rfl (by kernel_rfl) (by kernel_rfl) (by kernel_rfl) (fun _ _ _ h => h) (some 20) rfl ?_ (by assumption) ?_
        · exact yieldsIf_load_mid (by rfl) 61 (.tmp 3) rfl (p + 1) 0 (by rfl) (rwC r).toList _ (fun wz hSw => hSw.2.range 0 _ (fun j v h => by rw [Nat.zero_add]; simpa using h)) Tryd.underlying61 rfl rw_info
        simp only [Act.put, List.setIfInBounds_toArray, List.set_cons_zero, List.set_cons_succ]
        refine takeH (i := 16) (v := ?_) rfl (by kernel_rfl) (by kernel_rfl) (by kernel_rfl) (fun _ _ _ h => h) (some 21) rfl (Or.inl ⟨by rfl, ?_⟩) (by assumption) ?_
        rotate_left 1
        · intro wz hSw
          go_simp
          try with_reducible rfl
        simp only [Act.put, List.setIfInBounds_toArray, List.set_cons_zero, List.set_cons_succ]
        refine takeH (i := 17) (v := ?_) rfl (by kernel_rfl) (by kernel_rfl) (by kernel_rfl) (fun _ _ _ h => h) (some 22) rfl (Or.inl ⟨by rfl, ?_⟩) (by assumption) ?_
        rotate_left 1
        · intro wz hSw
          go_simp
          try with_reducible rfl
        simp only [Act.put, List.setIfInBounds_toArray, List.set_cons_zero, List.set_cons_succ]
        refine takeH (i := 18) (v := ?_) rfl (by kernel_rfl) (by kernel_rfl) (by kernel_rfl) (fun _ _ _ h => h) (some 23) rfl (Or.inl ⟨by rfl, ?_⟩) (by assumption) ?_
        rotate_left 1
        · intro wz hSw
          have c0 : wz.cell? ⟨p, 0, none⟩ = some (.int .i64 n) := hSw.1.cell 0
          have c4 : wz.cell? ⟨p, 4, none⟩ = some (.int .i64 x.t) := hSw.1.cell 4
          have d2 : wz.cell? ⟨p + 1, 2, none⟩ = some (.int .i64 r.s) := hSw.2.cell 2
          go_simp
          try with_reducible rfl
        simp only [Act.put, List.setIfInBounds_toArray, List.set_cons_zero, List.set_cons_succ]
        refine wpAnyH_ready (rs := [19]) (by kernel_rfl) (by simp) ?_
        refine AllReadyH.cons rfl (fun KK hKK => ?_) AllReadyH.nil
        refine step_call2 (by rfl) 25 (.tmp 20) (.tmp 23) _ (by rfl) _ _ (by rfl) (by rfl) (fun _ _ => rfl) _ (sense_any r x.t x1) (some 24) rfl ?_
        rintro e x2 ⟨rfl, hb⟩
        refine ⟨_, rfl, ?_⟩
        replace HB := Lib.hid (HB.out.trans (hb.mono HB.out.size)); replace HO := Lib.hid (HO.out.below hb HO.out.lt); replace HR := Lib.hid (HR.out.below hb HR.out.lt); clear hb
        refine hKK.out _ _ ⟨HO.out, HR.out⟩ (fun hHeld => ?_)
        clear hKK KK
        simp only [Act.put, List.setIfInBounds_toArray, List.set_cons_zero, List.set_cons_succ]
        refine takeH (i := 20) (v := (.bool true)) rfl (by kernel_rfl) (by kernel_rfl) (by kernel_rfl) (fun _ _ _ h => h) (some 25) rfl (Or.inl ⟨by rfl, ?_⟩) (by assumption) ?_
        · intro wz hSw
          go_simp
          exact EQ.out _ _
        simp only [Act.put, List.setIfInBounds_toArray, List.set_cons_zero, List.set_cons_succ]
        refine takeH (i := 21) (v := ?_) rfl (by kernel_rfl) (by kernel_rfl) (by kernel_rfl) (fun _ _ _ h => h) (some 26) rfl (Or.inl ⟨by rfl, ?_⟩) (by assumption) ?_
        rotate_left 1
        · intro wz hSw
          go_simp
          try with_reducible rfl
        simp only [Act.put, List.setIfInBounds_toArray, List.set_cons_zero, List.set_cons_succ]
        refine takeH (i := 22) (v := ?_) rfl (by kernel_rfl) (by kernel_rfl) (by kernel_rfl) (fun _ _ _ h => h) (some 4) rfl (Or.inl ⟨by rfl, ?_⟩) (by assumption) ?_
        rotate_left 1
        · intro wz hSw
          go_simp
          try with_reducible rfl
        simp only [Act.put, List.setIfInBounds_toArray, List.set_cons_zero, List.set_cons_succ]
        refine wpAnyH_done (by kernel_rfl) ?_ _
        go_wp2_with (fail)
        go_ret
        exact ⟨by rw [HV.out, Q0.out, Q1.out, Q2.out]; rfl, HB.out⟩
end Go.Proofs.YthcaeihpdlgcaaaDoor
