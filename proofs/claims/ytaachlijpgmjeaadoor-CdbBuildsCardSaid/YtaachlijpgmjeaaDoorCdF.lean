/- The small functions over what is asked: in the document's form, and are two alike. -/
import Derived.Test.YtaachlijpgmjeaaDoorCdE
import Derived.Test.YtaachlijpgmjeaaDoorDevMem
import Derived.Deep.Cut
namespace Go.Proofs.YtaachlijpgmjeaaDoor
open Go.RowKit
/-- What is asked, in memory. -/
abbrev akC (x : Ak) : Array Value := #[.int .i64 x.op, .int .i64 x.lba, .int .i64 x.blk, .bool x.fu, .int .i64 x.page, .int .i64 x.want, .int .i64 x.ty]
abbrev akV (x : Ak) : Value := .agg (akC x)
theorem sizeA : (Tryd.prog.info? 24).map (·.size) = some 7 := by kernel_rfl
theorem sizeR : (Tryd.prog.info? 28).map (·.size) = some 7 := by kernel_rfl
theorem ak_put {v : World} {p : Nat} {T : TypeId} {y : Ak} (h : Blk v p T (akC y)) (x : Ak) : ∀ V, V = (((((((v.setCell ⟨p, 0, none⟩ (.int .i64 x.op)).setCell ⟨p, 1, none⟩ (.int .i64 x.lba)).setCell ⟨p, 2, none⟩ (.int .i64 x.blk)).setCell ⟨p, 3, none⟩ (.bool x.fu)).setCell ⟨p, 4, none⟩ (.int .i64 x.page)).setCell ⟨p, 5, none⟩ (.int .i64 x.want)).setCell ⟨p, 6, none⟩ (.int .i64 x.ty)) →
    Blk V p T (akC x) ∧ Only (fun k => k = p) v V := by
  rintro V rfl
  have h0 : Blk _ p T #[.int .i64 x.op, .int .i64 y.lba, .int .i64 y.blk, .bool y.fu, .int .i64 y.page, .int .i64 y.want, .int .i64 y.ty] := h.put 0 (.int .i64 x.op)
  have h1 : Blk _ p T #[.int .i64 x.op, .int .i64 x.lba, .int .i64 y.blk, .bool y.fu, .int .i64 y.page, .int .i64 y.want, .int .i64 y.ty] := h0.put 1 (.int .i64 x.lba)
  have h2 : Blk _ p T #[.int .i64 x.op, .int .i64 x.lba, .int .i64 x.blk, .bool y.fu, .int .i64 y.page, .int .i64 y.want, .int .i64 y.ty] := h1.put 2 (.int .i64 x.blk)
  have h3 : Blk _ p T #[.int .i64 x.op, .int .i64 x.lba, .int .i64 x.blk, .bool x.fu, .int .i64 y.page, .int .i64 y.want, .int .i64 y.ty] := h2.put 3 (.bool x.fu)
  have h4 : Blk _ p T #[.int .i64 x.op, .int .i64 x.lba, .int .i64 x.blk, .bool x.fu, .int .i64 x.page, .int .i64 y.want, .int .i64 y.ty] := h3.put 4 (.int .i64 x.page)
  have h5 : Blk _ p T #[.int .i64 x.op, .int .i64 x.lba, .int .i64 x.blk, .bool x.fu, .int .i64 x.page, .int .i64 x.want, .int .i64 y.ty] := h4.put 5 (.int .i64 x.want)
  have h6 : Blk _ p T #[.int .i64 x.op, .int .i64 x.lba, .int .i64 x.blk, .bool x.fu, .int .i64 x.page, .int .i64 x.want, .int .i64 x.ty] := h5.put 6 (.int .i64 x.ty)
  exact ⟨h6, ((((((((Only.refl (fun k => k = p) v).setCell (p := ⟨p, 0, none⟩) (.inl rfl) (.int .i64 x.op)).setCell (p := ⟨p, 1, none⟩) (.inl rfl) (.int .i64 x.lba)).setCell (p := ⟨p, 2, none⟩) (.inl rfl) (.int .i64 x.blk)).setCell (p := ⟨p, 3, none⟩) (.inl rfl) (.bool x.fu)).setCell (p := ⟨p, 4, none⟩) (.inl rfl) (.int .i64 x.page)).setCell (p := ⟨p, 5, none⟩) (.inl rfl) (.int .i64 x.want)).setCell (p := ⟨p, 6, none⟩) (.inl rfl) (.int .i64 x.ty))⟩
/-- Two boxes that are made behind one another. -/
theorem two_box (w : World) (T U : TypeId) (x y : Ak) : ∀ v, v = ((w.alloc (.cells (akC x) T)).alloc (.cells (akC y) U)) → Blk v w.heap.size T (akC x) ∧ Blk v (w.heap.size + 1) U (akC y) ∧ Below w.heap.size w v := by
  rintro v rfl
  refine ⟨(Blk.new w T (akC x)).alloc _, ?_, ((Below.refl w.heap.size w).alloc (Nat.le_refl _) _).alloc (by simp) _⟩
  have := Blk.new (w.alloc (.cells (akC x) T)) U (akC y)
  rwa [show (w.alloc (.cells (akC x) T)).heap.size = w.heap.size + 1 by simp] at this
set_option maxRecDepth 100000 in
set_option maxHeartbeats 4000000 in
theorem own_any (x : Ak) (w : World) : Calls Tryd.prog 12 #[akV x] w fun e w' => e = .returned (akV x) ∧ Below w.heap.size w w' := by
  obtain ⟨h1, h2, h3⟩ := two_box w 24 28 x zA _ rfl
  have HA := Lib.hid h1; have HR := Lib.hid h2; have HB := Lib.hid h3
  clear h1 h2 h3
  go_enter Tryd.func12, Tryd.ntmps12
  go_upto_region 1 with (fail)
  change Code.wp _ _ _ _ ((w.alloc (.cells (akC x) 24)).alloc (.cells (akC zA) 28))
  have hsz : (w.alloc (.cells (akC x) 24)).heap.size = w.heap.size + 1 := by simp
  generalize (w.alloc (.cells (akC x) 24)).alloc (.cells (akC zA) 28) = v0 at *
  try rw [hsz]
  obtain ⟨nb, hnb⟩ : ∃ nb, nb = w.heap.size := ⟨_, rfl⟩
  rw [← hnb] at HA HR HB ⊢
  have HN := Lib.hid hnb
  clear hnb hsz
  have c0 : v0.cell? ⟨nb, 0, none⟩ = some (.int .i64 x.op) := HA.out.cell 0
  have c1 : v0.cell? ⟨nb, 1, none⟩ = some (.int .i64 x.lba) := HA.out.cell 1
  have c2 : v0.cell? ⟨nb, 2, none⟩ = some (.int .i64 x.blk) := HA.out.cell 2
  have c3 : v0.cell? ⟨nb, 3, none⟩ = some (.bool x.fu) := HA.out.cell 3
  have c4 : v0.cell? ⟨nb, 4, none⟩ = some (.int .i64 x.page) := HA.out.cell 4
  have c5 : v0.cell? ⟨nb, 5, none⟩ = some (.int .i64 x.want) := HA.out.cell 5
  have c6 : v0.cell? ⟨nb, 6, none⟩ = some (.int .i64 x.ty) := HA.out.cell 6
  have r0 : v0.cell? ⟨nb + 1, 0, none⟩ = some (.int .i64 zA.op) := HR.out.cell 0
  have r1 : v0.cell? ⟨nb + 1, 1, none⟩ = some (.int .i64 zA.lba) := HR.out.cell 1
  have r2 : v0.cell? ⟨nb + 1, 2, none⟩ = some (.int .i64 zA.blk) := HR.out.cell 2
  have r3 : v0.cell? ⟨nb + 1, 3, none⟩ = some (.bool zA.fu) := HR.out.cell 3
  have r4 : v0.cell? ⟨nb + 1, 4, none⟩ = some (.int .i64 zA.page) := HR.out.cell 4
  have r5 : v0.cell? ⟨nb + 1, 5, none⟩ = some (.int .i64 zA.want) := HR.out.cell 5
  have r6 : v0.cell? ⟨nb + 1, 6, none⟩ = some (.int .i64 zA.ty) := HR.out.cell 6
  have f0 := HR.out.free 0
  have f1 := HR.out.free 1
  have f2 := HR.out.free 2
  have f3 := HR.out.free 3
  have f4 := HR.out.free 4
  have f5 := HR.out.free 5
  have f6 := HR.out.free 6
  go_wp2_with (fail)
  obtain ⟨hK, hO⟩ := ak_put HR.out x _ rfl
  refine bodyPost_ret_by (results_cell_row rfl _ _ (nb + 1) 28 (akC x) (0, 0) _ rfl hK Tryd.underlying28 rfl sizeR) rfl ?_
  exact ⟨rfl, by rw [← HN.out]; exact HB.out.trans (hO.toBelow (by have := HA.out.lt; omega) (fun k hk => by rw [hk]; omega))⟩
set_option maxRecDepth 100000 in
set_option maxHeartbeats 8000000 in
theorem refSame_any (x y : Ak) (w : World) : Calls Tryd.prog 11 #[akV x, akV y] w fun e w' => e = .returned (.bool (sameA x y)) ∧ Below w.heap.size w w' := by
  obtain ⟨h1, h2, h3⟩ := two_box w 28 28 x y _ rfl
  have HA := Lib.hid h1; have HR := Lib.hid h2; have HB := Lib.hid h3
  clear h1 h2 h3
  cases q0 : (x.op == y.op) with
  | false =>
    have HV := Lib.hid (show sameA x y = false by unfold sameA; rw [q0]; rfl)
    go_enter Tryd.func11, Tryd.ntmps11
    go_upto_region 1 with (fail)
    change Code.wp _ _ _ _ ((w.alloc (.cells (akC x) 28)).alloc (.cells (akC y) 28))
    have hsz : (w.alloc (.cells (akC x) 28)).heap.size = w.heap.size + 1 := by simp
    generalize (w.alloc (.cells (akC x) 28)).alloc (.cells (akC y) 28) = v0 at *
    try rw [hsz]
    obtain ⟨nb, hnb⟩ : ∃ nb, nb = w.heap.size := ⟨_, rfl⟩
    rw [← hnb] at HA HR HB ⊢
    have HN := Lib.hid hnb
    clear hnb hsz
    have c0 : v0.cell? ⟨nb, 0, none⟩ = some (.int .i64 x.op) := HA.out.cell 0
    have c1 : v0.cell? ⟨nb, 1, none⟩ = some (.int .i64 x.lba) := HA.out.cell 1
    have c2 : v0.cell? ⟨nb, 2, none⟩ = some (.int .i64 x.blk) := HA.out.cell 2
    have c3 : v0.cell? ⟨nb, 3, none⟩ = some (.bool x.fu) := HA.out.cell 3
    have c4 : v0.cell? ⟨nb, 4, none⟩ = some (.int .i64 x.page) := HA.out.cell 4
    have c5 : v0.cell? ⟨nb, 5, none⟩ = some (.int .i64 x.want) := HA.out.cell 5
    have c6 : v0.cell? ⟨nb, 6, none⟩ = some (.int .i64 x.ty) := HA.out.cell 6
    have r0 : v0.cell? ⟨nb + 1, 0, none⟩ = some (.int .i64 y.op) := HR.out.cell 0
    have r1 : v0.cell? ⟨nb + 1, 1, none⟩ = some (.int .i64 y.lba) := HR.out.cell 1
    have r2 : v0.cell? ⟨nb + 1, 2, none⟩ = some (.int .i64 y.blk) := HR.out.cell 2
    have r3 : v0.cell? ⟨nb + 1, 3, none⟩ = some (.bool y.fu) := HR.out.cell 3
    have r4 : v0.cell? ⟨nb + 1, 4, none⟩ = some (.int .i64 y.page) := HR.out.cell 4
    have r5 : v0.cell? ⟨nb + 1, 5, none⟩ = some (.int .i64 y.want) := HR.out.cell 5
    have r6 : v0.cell? ⟨nb + 1, 6, none⟩ = some (.int .i64 y.ty) := HR.out.cell 6
    go_wp2_with (fail)
    go_ret
    exact ⟨by rw [HV.out]; rfl, by rw [← HN.out]; exact HB.out⟩
  | true =>
    cases q1 : (x.lba == y.lba) with
    | false =>
      have HV := Lib.hid (show sameA x y = false by unfold sameA; rw [q0, q1]; rfl)
      go_enter Tryd.func11, Tryd.ntmps11
      go_upto_region 1 with (fail)
      change Code.wp _ _ _ _ ((w.alloc (.cells (akC x) 28)).alloc (.cells (akC y) 28))
      have hsz : (w.alloc (.cells (akC x) 28)).heap.size = w.heap.size + 1 := by simp
      generalize (w.alloc (.cells (akC x) 28)).alloc (.cells (akC y) 28) = v0 at *
      try rw [hsz]
      obtain ⟨nb, hnb⟩ : ∃ nb, nb = w.heap.size := ⟨_, rfl⟩
      rw [← hnb] at HA HR HB ⊢
      have HN := Lib.hid hnb
      clear hnb hsz
      have c0 : v0.cell? ⟨nb, 0, none⟩ = some (.int .i64 x.op) := HA.out.cell 0
      have c1 : v0.cell? ⟨nb, 1, none⟩ = some (.int .i64 x.lba) := HA.out.cell 1
      have c2 : v0.cell? ⟨nb, 2, none⟩ = some (.int .i64 x.blk) := HA.out.cell 2
      have c3 : v0.cell? ⟨nb, 3, none⟩ = some (.bool x.fu) := HA.out.cell 3
      have c4 : v0.cell? ⟨nb, 4, none⟩ = some (.int .i64 x.page) := HA.out.cell 4
      have c5 : v0.cell? ⟨nb, 5, none⟩ = some (.int .i64 x.want) := HA.out.cell 5
      have c6 : v0.cell? ⟨nb, 6, none⟩ = some (.int .i64 x.ty) := HA.out.cell 6
      have r0 : v0.cell? ⟨nb + 1, 0, none⟩ = some (.int .i64 y.op) := HR.out.cell 0
      have r1 : v0.cell? ⟨nb + 1, 1, none⟩ = some (.int .i64 y.lba) := HR.out.cell 1
      have r2 : v0.cell? ⟨nb + 1, 2, none⟩ = some (.int .i64 y.blk) := HR.out.cell 2
      have r3 : v0.cell? ⟨nb + 1, 3, none⟩ = some (.bool y.fu) := HR.out.cell 3
      have r4 : v0.cell? ⟨nb + 1, 4, none⟩ = some (.int .i64 y.page) := HR.out.cell 4
      have r5 : v0.cell? ⟨nb + 1, 5, none⟩ = some (.int .i64 y.want) := HR.out.cell 5
      have r6 : v0.cell? ⟨nb + 1, 6, none⟩ = some (.int .i64 y.ty) := HR.out.cell 6
      go_wp2_with (fail)
      go_ret
      exact ⟨by rw [HV.out]; rfl, by rw [← HN.out]; exact HB.out⟩
    | true =>
      cases q2 : (x.blk == y.blk) with
      | false =>
        have HV := Lib.hid (show sameA x y = false by unfold sameA; rw [q0, q1, q2]; rfl)
        go_enter Tryd.func11, Tryd.ntmps11
        go_upto_region 1 with (fail)
        change Code.wp _ _ _ _ ((w.alloc (.cells (akC x) 28)).alloc (.cells (akC y) 28))
        have hsz : (w.alloc (.cells (akC x) 28)).heap.size = w.heap.size + 1 := by simp
        generalize (w.alloc (.cells (akC x) 28)).alloc (.cells (akC y) 28) = v0 at *
        try rw [hsz]
        obtain ⟨nb, hnb⟩ : ∃ nb, nb = w.heap.size := ⟨_, rfl⟩
        rw [← hnb] at HA HR HB ⊢
        have HN := Lib.hid hnb
        clear hnb hsz
        have c0 : v0.cell? ⟨nb, 0, none⟩ = some (.int .i64 x.op) := HA.out.cell 0
        have c1 : v0.cell? ⟨nb, 1, none⟩ = some (.int .i64 x.lba) := HA.out.cell 1
        have c2 : v0.cell? ⟨nb, 2, none⟩ = some (.int .i64 x.blk) := HA.out.cell 2
        have c3 : v0.cell? ⟨nb, 3, none⟩ = some (.bool x.fu) := HA.out.cell 3
        have c4 : v0.cell? ⟨nb, 4, none⟩ = some (.int .i64 x.page) := HA.out.cell 4
        have c5 : v0.cell? ⟨nb, 5, none⟩ = some (.int .i64 x.want) := HA.out.cell 5
        have c6 : v0.cell? ⟨nb, 6, none⟩ = some (.int .i64 x.ty) := HA.out.cell 6
        have r0 : v0.cell? ⟨nb + 1, 0, none⟩ = some (.int .i64 y.op) := HR.out.cell 0
        have r1 : v0.cell? ⟨nb + 1, 1, none⟩ = some (.int .i64 y.lba) := HR.out.cell 1
        have r2 : v0.cell? ⟨nb + 1, 2, none⟩ = some (.int .i64 y.blk) := HR.out.cell 2
        have r3 : v0.cell? ⟨nb + 1, 3, none⟩ = some (.bool y.fu) := HR.out.cell 3
        have r4 : v0.cell? ⟨nb + 1, 4, none⟩ = some (.int .i64 y.page) := HR.out.cell 4
        have r5 : v0.cell? ⟨nb + 1, 5, none⟩ = some (.int .i64 y.want) := HR.out.cell 5
        have r6 : v0.cell? ⟨nb + 1, 6, none⟩ = some (.int .i64 y.ty) := HR.out.cell 6
        go_wp2_with (fail)
        go_ret
        exact ⟨by rw [HV.out]; rfl, by rw [← HN.out]; exact HB.out⟩
      | true =>
        cases q3 : (x.fu == y.fu) with
        | false =>
          have HV := Lib.hid (show sameA x y = false by unfold sameA; rw [q0, q1, q2, q3]; rfl)
          go_enter Tryd.func11, Tryd.ntmps11
          go_upto_region 1 with (fail)
          change Code.wp _ _ _ _ ((w.alloc (.cells (akC x) 28)).alloc (.cells (akC y) 28))
          have hsz : (w.alloc (.cells (akC x) 28)).heap.size = w.heap.size + 1 := by simp
          generalize (w.alloc (.cells (akC x) 28)).alloc (.cells (akC y) 28) = v0 at *
          try rw [hsz]
          obtain ⟨nb, hnb⟩ : ∃ nb, nb = w.heap.size := ⟨_, rfl⟩
          rw [← hnb] at HA HR HB ⊢
          have HN := Lib.hid hnb
          clear hnb hsz
          have c0 : v0.cell? ⟨nb, 0, none⟩ = some (.int .i64 x.op) := HA.out.cell 0
          have c1 : v0.cell? ⟨nb, 1, none⟩ = some (.int .i64 x.lba) := HA.out.cell 1
          have c2 : v0.cell? ⟨nb, 2, none⟩ = some (.int .i64 x.blk) := HA.out.cell 2
          have c3 : v0.cell? ⟨nb, 3, none⟩ = some (.bool x.fu) := HA.out.cell 3
          have c4 : v0.cell? ⟨nb, 4, none⟩ = some (.int .i64 x.page) := HA.out.cell 4
          have c5 : v0.cell? ⟨nb, 5, none⟩ = some (.int .i64 x.want) := HA.out.cell 5
          have c6 : v0.cell? ⟨nb, 6, none⟩ = some (.int .i64 x.ty) := HA.out.cell 6
          have r0 : v0.cell? ⟨nb + 1, 0, none⟩ = some (.int .i64 y.op) := HR.out.cell 0
          have r1 : v0.cell? ⟨nb + 1, 1, none⟩ = some (.int .i64 y.lba) := HR.out.cell 1
          have r2 : v0.cell? ⟨nb + 1, 2, none⟩ = some (.int .i64 y.blk) := HR.out.cell 2
          have r3 : v0.cell? ⟨nb + 1, 3, none⟩ = some (.bool y.fu) := HR.out.cell 3
          have r4 : v0.cell? ⟨nb + 1, 4, none⟩ = some (.int .i64 y.page) := HR.out.cell 4
          have r5 : v0.cell? ⟨nb + 1, 5, none⟩ = some (.int .i64 y.want) := HR.out.cell 5
          have r6 : v0.cell? ⟨nb + 1, 6, none⟩ = some (.int .i64 y.ty) := HR.out.cell 6
          go_wp2_with (fail)
          go_ret
          exact ⟨by rw [HV.out]; rfl, by rw [← HN.out]; exact HB.out⟩
        | true =>
          cases q4 : (x.page == y.page) with
          | false =>
            have HV := Lib.hid (show sameA x y = false by unfold sameA; rw [q0, q1, q2, q3, q4]; rfl)
            go_enter Tryd.func11, Tryd.ntmps11
            go_upto_region 1 with (fail)
            change Code.wp _ _ _ _ ((w.alloc (.cells (akC x) 28)).alloc (.cells (akC y) 28))
            have hsz : (w.alloc (.cells (akC x) 28)).heap.size = w.heap.size + 1 := by simp
            generalize (w.alloc (.cells (akC x) 28)).alloc (.cells (akC y) 28) = v0 at *
            try rw [hsz]
            obtain ⟨nb, hnb⟩ : ∃ nb, nb = w.heap.size := ⟨_, rfl⟩
            rw [← hnb] at HA HR HB ⊢
            have HN := Lib.hid hnb
            clear hnb hsz
            have c0 : v0.cell? ⟨nb, 0, none⟩ = some (.int .i64 x.op) := HA.out.cell 0
            have c1 : v0.cell? ⟨nb, 1, none⟩ = some (.int .i64 x.lba) := HA.out.cell 1
            have c2 : v0.cell? ⟨nb, 2, none⟩ = some (.int .i64 x.blk) := HA.out.cell 2
            have c3 : v0.cell? ⟨nb, 3, none⟩ = some (.bool x.fu) := HA.out.cell 3
            have c4 : v0.cell? ⟨nb, 4, none⟩ = some (.int .i64 x.page) := HA.out.cell 4
            have c5 : v0.cell? ⟨nb, 5, none⟩ = some (.int .i64 x.want) := HA.out.cell 5
            have c6 : v0.cell? ⟨nb, 6, none⟩ = some (.int .i64 x.ty) := HA.out.cell 6
            have r0 : v0.cell? ⟨nb + 1, 0, none⟩ = some (.int .i64 y.op) := HR.out.cell 0
            have r1 : v0.cell? ⟨nb + 1, 1, none⟩ = some (.int .i64 y.lba) := HR.out.cell 1
            have r2 : v0.cell? ⟨nb + 1, 2, none⟩ = some (.int .i64 y.blk) := HR.out.cell 2
            have r3 : v0.cell? ⟨nb + 1, 3, none⟩ = some (.bool y.fu) := HR.out.cell 3
            have r4 : v0.cell? ⟨nb + 1, 4, none⟩ = some (.int .i64 y.page) := HR.out.cell 4
            have r5 : v0.cell? ⟨nb + 1, 5, none⟩ = some (.int .i64 y.want) := HR.out.cell 5
            have r6 : v0.cell? ⟨nb + 1, 6, none⟩ = some (.int .i64 y.ty) := HR.out.cell 6
            go_wp2_with (fail)
            go_ret
            exact ⟨by rw [HV.out]; rfl, by rw [← HN.out]; exact HB.out⟩
          | true =>
            cases q5 : (x.want == y.want) with
            | false =>
              have HV := Lib.hid (show sameA x y = false by unfold sameA; rw [q0, q1, q2, q3, q4, q5]; rfl)
              go_enter Tryd.func11, Tryd.ntmps11
              go_upto_region 1 with (fail)
              change Code.wp _ _ _ _ ((w.alloc (.cells (akC x) 28)).alloc (.cells (akC y) 28))
              have hsz : (w.alloc (.cells (akC x) 28)).heap.size = w.heap.size + 1 := by simp
              generalize (w.alloc (.cells (akC x) 28)).alloc (.cells (akC y) 28) = v0 at *
              try rw [hsz]
              obtain ⟨nb, hnb⟩ : ∃ nb, nb = w.heap.size := ⟨_, rfl⟩
              rw [← hnb] at HA HR HB ⊢
              have HN := Lib.hid hnb
              clear hnb hsz
              have c0 : v0.cell? ⟨nb, 0, none⟩ = some (.int .i64 x.op) := HA.out.cell 0
              have c1 : v0.cell? ⟨nb, 1, none⟩ = some (.int .i64 x.lba) := HA.out.cell 1
              have c2 : v0.cell? ⟨nb, 2, none⟩ = some (.int .i64 x.blk) := HA.out.cell 2
              have c3 : v0.cell? ⟨nb, 3, none⟩ = some (.bool x.fu) := HA.out.cell 3
              have c4 : v0.cell? ⟨nb, 4, none⟩ = some (.int .i64 x.page) := HA.out.cell 4
              have c5 : v0.cell? ⟨nb, 5, none⟩ = some (.int .i64 x.want) := HA.out.cell 5
              have c6 : v0.cell? ⟨nb, 6, none⟩ = some (.int .i64 x.ty) := HA.out.cell 6
              have r0 : v0.cell? ⟨nb + 1, 0, none⟩ = some (.int .i64 y.op) := HR.out.cell 0
              have r1 : v0.cell? ⟨nb + 1, 1, none⟩ = some (.int .i64 y.lba) := HR.out.cell 1
              have r2 : v0.cell? ⟨nb + 1, 2, none⟩ = some (.int .i64 y.blk) := HR.out.cell 2
              have r3 : v0.cell? ⟨nb + 1, 3, none⟩ = some (.bool y.fu) := HR.out.cell 3
              have r4 : v0.cell? ⟨nb + 1, 4, none⟩ = some (.int .i64 y.page) := HR.out.cell 4
              have r5 : v0.cell? ⟨nb + 1, 5, none⟩ = some (.int .i64 y.want) := HR.out.cell 5
              have r6 : v0.cell? ⟨nb + 1, 6, none⟩ = some (.int .i64 y.ty) := HR.out.cell 6
              go_wp2_with (fail)
              go_ret
              exact ⟨by rw [HV.out]; rfl, by rw [← HN.out]; exact HB.out⟩
            | true =>
              cases q6 : (x.ty == y.ty) with
              | false =>
                have HV := Lib.hid (show sameA x y = false by unfold sameA; rw [q0, q1, q2, q3, q4, q5, q6]; rfl)
                go_enter Tryd.func11, Tryd.ntmps11
                go_upto_region 1 with (fail)
                change Code.wp _ _ _ _ ((w.alloc (.cells (akC x) 28)).alloc (.cells (akC y) 28))
                have hsz : (w.alloc (.cells (akC x) 28)).heap.size = w.heap.size + 1 := by simp
                generalize (w.alloc (.cells (akC x) 28)).alloc (.cells (akC y) 28) = v0 at *
                try rw [hsz]
                obtain ⟨nb, hnb⟩ : ∃ nb, nb = w.heap.size := ⟨_, rfl⟩
                rw [← hnb] at HA HR HB ⊢
                have HN := Lib.hid hnb
                clear hnb hsz
                have c0 : v0.cell? ⟨nb, 0, none⟩ = some (.int .i64 x.op) := HA.out.cell 0
                have c1 : v0.cell? ⟨nb, 1, none⟩ = some (.int .i64 x.lba) := HA.out.cell 1
                have c2 : v0.cell? ⟨nb, 2, none⟩ = some (.int .i64 x.blk) := HA.out.cell 2
                have c3 : v0.cell? ⟨nb, 3, none⟩ = some (.bool x.fu) := HA.out.cell 3
                have c4 : v0.cell? ⟨nb, 4, none⟩ = some (.int .i64 x.page) := HA.out.cell 4
                have c5 : v0.cell? ⟨nb, 5, none⟩ = some (.int .i64 x.want) := HA.out.cell 5
                have c6 : v0.cell? ⟨nb, 6, none⟩ = some (.int .i64 x.ty) := HA.out.cell 6
                have r0 : v0.cell? ⟨nb + 1, 0, none⟩ = some (.int .i64 y.op) := HR.out.cell 0
                have r1 : v0.cell? ⟨nb + 1, 1, none⟩ = some (.int .i64 y.lba) := HR.out.cell 1
                have r2 : v0.cell? ⟨nb + 1, 2, none⟩ = some (.int .i64 y.blk) := HR.out.cell 2
                have r3 : v0.cell? ⟨nb + 1, 3, none⟩ = some (.bool y.fu) := HR.out.cell 3
                have r4 : v0.cell? ⟨nb + 1, 4, none⟩ = some (.int .i64 y.page) := HR.out.cell 4
                have r5 : v0.cell? ⟨nb + 1, 5, none⟩ = some (.int .i64 y.want) := HR.out.cell 5
                have r6 : v0.cell? ⟨nb + 1, 6, none⟩ = some (.int .i64 y.ty) := HR.out.cell 6
                go_wp2_with (fail)
                go_ret
                exact ⟨by rw [HV.out]; rfl, by rw [← HN.out]; exact HB.out⟩
              | true =>
                have HV := Lib.hid (show sameA x y = true by unfold sameA; rw [q0, q1, q2, q3, q4, q5, q6]; rfl)
                go_enter Tryd.func11, Tryd.ntmps11
                go_upto_region 1 with (fail)
                change Code.wp _ _ _ _ ((w.alloc (.cells (akC x) 28)).alloc (.cells (akC y) 28))
                have hsz : (w.alloc (.cells (akC x) 28)).heap.size = w.heap.size + 1 := by simp
                generalize (w.alloc (.cells (akC x) 28)).alloc (.cells (akC y) 28) = v0 at *
                try rw [hsz]
                obtain ⟨nb, hnb⟩ : ∃ nb, nb = w.heap.size := ⟨_, rfl⟩
                rw [← hnb] at HA HR HB ⊢
                have HN := Lib.hid hnb
                clear hnb hsz
                have c0 : v0.cell? ⟨nb, 0, none⟩ = some (.int .i64 x.op) := HA.out.cell 0
                have c1 : v0.cell? ⟨nb, 1, none⟩ = some (.int .i64 x.lba) := HA.out.cell 1
                have c2 : v0.cell? ⟨nb, 2, none⟩ = some (.int .i64 x.blk) := HA.out.cell 2
                have c3 : v0.cell? ⟨nb, 3, none⟩ = some (.bool x.fu) := HA.out.cell 3
                have c4 : v0.cell? ⟨nb, 4, none⟩ = some (.int .i64 x.page) := HA.out.cell 4
                have c5 : v0.cell? ⟨nb, 5, none⟩ = some (.int .i64 x.want) := HA.out.cell 5
                have c6 : v0.cell? ⟨nb, 6, none⟩ = some (.int .i64 x.ty) := HA.out.cell 6
                have r0 : v0.cell? ⟨nb + 1, 0, none⟩ = some (.int .i64 y.op) := HR.out.cell 0
                have r1 : v0.cell? ⟨nb + 1, 1, none⟩ = some (.int .i64 y.lba) := HR.out.cell 1
                have r2 : v0.cell? ⟨nb + 1, 2, none⟩ = some (.int .i64 y.blk) := HR.out.cell 2
                have r3 : v0.cell? ⟨nb + 1, 3, none⟩ = some (.bool y.fu) := HR.out.cell 3
                have r4 : v0.cell? ⟨nb + 1, 4, none⟩ = some (.int .i64 y.page) := HR.out.cell 4
                have r5 : v0.cell? ⟨nb + 1, 5, none⟩ = some (.int .i64 y.want) := HR.out.cell 5
                have r6 : v0.cell? ⟨nb + 1, 6, none⟩ = some (.int .i64 y.ty) := HR.out.cell 6
                go_wp2_with (fail)
                go_ret
                exact ⟨by rw [HV.out]; rfl, by rw [← HN.out]; exact HB.out⟩
end Go.Proofs.YtaachlijpgmjeaaDoor
