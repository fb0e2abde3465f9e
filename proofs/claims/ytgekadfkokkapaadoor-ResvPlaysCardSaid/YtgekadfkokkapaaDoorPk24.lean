/- The document's changes: a reservation made, released. The document's changes: who asks is registered. -/
import Derived.Test.YtgekadfkokkapaaDoorPk21
import Derived.Test.YtgekadfkokkapaaDoorPk13
namespace Go.Proofs.YtgekadfkokkapaaDoor
open Go.RowKit
theorem RdAt.evs {n0 nb : Nat} {w v : World} {A : Option Addr} {c : Nat} {t : Tl} {m : Cm} (h : RdAt n0 nb w v A c t m) {B : Option Addr} {k : Nat} {es : List Ev} (he : OwnE v n0 B k es) {i j : Nat} {x y : Value} : OwnE ((v.setCell ⟨nb, i, none⟩ x).setCell ⟨nb, j, none⟩ y) n0 B k es := by
  have hae : (Value.slice B es.length k).ownBlock ≠ some nb := own_apart he h.box (by decide)
  exact own_keep he fun g hg => (Below.heap_setCell _ _ _ g (fun e => hae (hg.trans (congrArg some e)))).trans (Below.heap_setCell v _ _ g (fun e => hae (hg.trans (congrArg some e))))
set_option maxRecDepth 100000 in
set_option maxHeartbeats 4000000 in
theorem refResv_free (n0 : Nat) (A : Option Addr) (c : Nat) (t : Tl) (m : Cm) (w : World) (ho : Own w n0 A c t.rs) (hn : n0 ≤ w.heap.size) (hm : t.rs.length ≤ 200) (hty : typeB m.ty = true) (hz : (t.ty == 0) = true) :
    Calls Tryd.prog 40 #[tlV A c t, cmV m] w (RdOut n0 w (holdT t m) ([]) (1)) := by
  have R0 := Lib.hid (RdAt.from w A c t m ho hn)
  have HM := Lib.hid (show t.rs.length ≤ maxLen by unfold maxLen; omega)
  have HM2 := Lib.hid hm
  have hnt := not_true
  have hnf := not_false
  obtain ⟨nb, hnb⟩ : ∃ nb, nb = w.heap.size := ⟨_, rfl⟩
  clear ho hn hm
  have HH := Lib.hid (fun v => refHold_any m.ty m.ho v hty)
  obtain ⟨hx, hhx⟩ : ∃ hx, hx = (if shB m.ty then ⟨#[]⟩ else m.ho) := ⟨_, rfl⟩
  rw [← hhx] at HH
  have HX := Lib.hid hhx
  clear hty hhx
  go_enter Tryd.func40, Tryd.ntmps40
  go_upto_region 1 with (fail)
  change Code.wp _ _ _ _ (((w.alloc (.cells (tlC A c t) 27)).alloc (.cells (cmC m) 37)).alloc (.cells tdZ 43))
  generalize ((w.alloc (.cells (tlC A c t) 27)).alloc (.cells (cmC m) 37)).alloc (.cells tdZ 43) = v0 at *
  rw [← hnb] at R0 ⊢
  clear hnb
  have c0 : v0.cell? ⟨nb, 0, none⟩ = some (.slice A t.rs.length c) := R0.out.box.cell 0
  have c1 : v0.cell? ⟨nb, 1, none⟩ = some (.int .i64 t.ty) := R0.out.box.cell 1
  have c2 : v0.cell? ⟨nb, 2, none⟩ = some (.string t.ho) := R0.out.box.cell 2
  have c3 : v0.cell? ⟨nb, 3, none⟩ = some (.int .u32 t.ge) := R0.out.box.cell 3
  have c4 : v0.cell? ⟨nb, 4, none⟩ = some (.bool t.ap) := R0.out.box.cell 4
  have m2 : v0.cell? ⟨nb + 1, 2, none⟩ = some (.string m.ho) := R0.out.cmd.cell 2
  have m11 : v0.cell? ⟨nb + 1, 11, none⟩ = some (.int .i64 m.ty) := R0.out.cmd.cell 11
  go_wp2_with (fail)
  refine (HH.out _).mono ?_; rintro e v1 ⟨rfl, hb⟩
  have R1 := Lib.hid (R0.out.below hb)
  clear c0 c1 c2 c3 c4 m2 m11 hb
  have c0 : v1.cell? ⟨nb, 0, none⟩ = some (.slice A t.rs.length c) := R1.out.box.cell 0
  have c1 : v1.cell? ⟨nb, 1, none⟩ = some (.int .i64 t.ty) := R1.out.box.cell 1
  have c2 : v1.cell? ⟨nb, 2, none⟩ = some (.string t.ho) := R1.out.box.cell 2
  have c3 : v1.cell? ⟨nb, 3, none⟩ = some (.int .u32 t.ge) := R1.out.box.cell 3
  have c4 : v1.cell? ⟨nb, 4, none⟩ = some (.bool t.ap) := R1.out.box.cell 4
  have f1 : v1.frozen? ⟨nb, 1, none⟩ = false := R1.out.box.free 1
  have f2 : v1.frozen? ⟨nb, 2, none⟩ = false := R1.out.box.free 2
  go_upto_region 3 with (fail)
  have R2 := Lib.hid ((R1.out.put 1 (.int .i64 m.ty) (t' := { t with ty := m.ty }) rfl rfl).put 2 (.string hx) (t' := holdT t m) (by rw [HX.out]; rfl) rfl)
  clear c0 c1 c2 c3 c4 f1 f2
  generalize (v1.setCell ⟨nb, 1, none⟩ (.int .i64 m.ty)).setCell ⟨nb, 2, none⟩ (.string hx) = v2 at *
  have c0 : v2.cell? ⟨nb, 0, none⟩ = some (.slice A (holdT t m).rs.length c) := R2.out.box.cell 0
  have c1 : v2.cell? ⟨nb, 1, none⟩ = some (.int .i64 (holdT t m).ty) := R2.out.box.cell 1
  have c2 : v2.cell? ⟨nb, 2, none⟩ = some (.string (holdT t m).ho) := R2.out.box.cell 2
  have c3 : v2.cell? ⟨nb, 3, none⟩ = some (.int .u32 (holdT t m).ge) := R2.out.box.cell 3
  have c4 : v2.cell? ⟨nb, 4, none⟩ = some (.bool (holdT t m).ap) := R2.out.box.cell 4
  have r0 : v2.cell? ⟨nb + 1 + 1, 0, none⟩ = some (.slice none 0 0) := R2.out.res.cell 0
  have q0 : v2.frozen? ⟨nb + 1 + 1, 0, none⟩ = false := R2.out.res.free 0
  have r1 : v2.cell? ⟨nb + 1 + 1, 1, none⟩ = some (.int .i64 0) := R2.out.res.cell 1
  have q1 : v2.frozen? ⟨nb + 1 + 1, 1, none⟩ = false := R2.out.res.free 1
  have r2 : v2.cell? ⟨nb + 1 + 1, 2, none⟩ = some (.string ⟨#[]⟩) := R2.out.res.cell 2
  have q2 : v2.frozen? ⟨nb + 1 + 1, 2, none⟩ = false := R2.out.res.free 2
  have r3 : v2.cell? ⟨nb + 1 + 1, 3, none⟩ = some (.int .u32 0) := R2.out.res.cell 3
  have q3 : v2.frozen? ⟨nb + 1 + 1, 3, none⟩ = false := R2.out.res.free 3
  have r4 : v2.cell? ⟨nb + 1 + 1, 4, none⟩ = some (.bool false) := R2.out.res.cell 4
  have q4 : v2.frozen? ⟨nb + 1 + 1, 4, none⟩ = false := R2.out.res.free 4
  have r5 : v2.cell? ⟨nb + 1 + 1, 5, none⟩ = some (.slice none 0 0) := R2.out.res.cell 5
  have q5 : v2.frozen? ⟨nb + 1 + 1, 5, none⟩ = false := R2.out.res.free 5
  have r6 : v2.cell? ⟨nb + 1 + 1, 6, none⟩ = some (.int .i64 0) := R2.out.res.cell 6
  have q6 : v2.frozen? ⟨nb + 1 + 1, 6, none⟩ = false := R2.out.res.free 6
  go_wp2_with (fail)
  obtain ⟨hK, hO, hB⟩ := td_put R2.out (OwnE.nil v2 n0) (1) _ rfl
  refine bodyPost_ret_by (results_cell_row rfl _ _ (nb + 1 + 1) 43 (tdC A c (holdT t m) none 0 ([]) (1)) (0, 0) _ rfl hK Tryd.underlying43 rfl size43) rfl ?_
  exact ⟨A, c, none, 0, rfl, hO.1, hO.2, hB⟩
set_option maxRecDepth 100000 in
set_option maxHeartbeats 4000000 in
theorem refResv_same (n0 : Nat) (A : Option Addr) (c : Nat) (t : Tl) (m : Cm) (w : World) (ho : Own w n0 A c t.rs) (hn : n0 ≤ w.heap.size) (hm : t.rs.length ≤ 200) (hz : (t.ty == 0) = false) (hh : holdsB t m.ho = true) (hq : (t.ty == m.ty) = true) :
    Calls Tryd.prog 40 #[tlV A c t, cmV m] w (RdOut n0 w (t) ([]) (1)) := by
  have R0 := Lib.hid (RdAt.from w A c t m ho hn)
  have HM := Lib.hid (show t.rs.length ≤ maxLen by unfold maxLen; omega)
  have HM2 := Lib.hid hm
  have hnt := not_true
  have hnf := not_false
  obtain ⟨nb, hnb⟩ : ∃ nb, nb = w.heap.size := ⟨_, rfl⟩
  clear ho hn hm
  have HH := Lib.hid (fun v (hl2 : Rgs v A t.rs) => refHolds_any A c t m.ho v hl2 HM.out)
  rw [hh] at HH
  clear hh
  go_enter Tryd.func40, Tryd.ntmps40
  go_upto_region 1 with (fail)
  change Code.wp _ _ _ _ (((w.alloc (.cells (tlC A c t) 27)).alloc (.cells (cmC m) 37)).alloc (.cells tdZ 43))
  generalize ((w.alloc (.cells (tlC A c t) 27)).alloc (.cells (cmC m) 37)).alloc (.cells tdZ 43) = v0 at *
  rw [← hnb] at R0 ⊢
  clear hnb
  have c0 : v0.cell? ⟨nb, 0, none⟩ = some (.slice A t.rs.length c) := R0.out.box.cell 0
  have c1 : v0.cell? ⟨nb, 1, none⟩ = some (.int .i64 t.ty) := R0.out.box.cell 1
  have c2 : v0.cell? ⟨nb, 2, none⟩ = some (.string t.ho) := R0.out.box.cell 2
  have c3 : v0.cell? ⟨nb, 3, none⟩ = some (.int .u32 t.ge) := R0.out.box.cell 3
  have c4 : v0.cell? ⟨nb, 4, none⟩ = some (.bool t.ap) := R0.out.box.cell 4
  have m2 : v0.cell? ⟨nb + 1, 2, none⟩ = some (.string m.ho) := R0.out.cmd.cell 2
  go_wp2_with (fail)
  refine (HH.out _ R0.out.own.rgs).mono ?_; rintro e v1 ⟨rfl, hb⟩
  have R1 := Lib.hid (R0.out.below hb)
  clear c0 c1 c2 c3 c4 m2 hb
  have c0 : v1.cell? ⟨nb, 0, none⟩ = some (.slice A t.rs.length c) := R1.out.box.cell 0
  have c1 : v1.cell? ⟨nb, 1, none⟩ = some (.int .i64 t.ty) := R1.out.box.cell 1
  have c2 : v1.cell? ⟨nb, 2, none⟩ = some (.string t.ho) := R1.out.box.cell 2
  have c3 : v1.cell? ⟨nb, 3, none⟩ = some (.int .u32 t.ge) := R1.out.box.cell 3
  have c4 : v1.cell? ⟨nb, 4, none⟩ = some (.bool t.ap) := R1.out.box.cell 4
  have m11 : v1.cell? ⟨nb + 1, 11, none⟩ = some (.int .i64 m.ty) := R1.out.cmd.cell 11
  have r0 : v1.cell? ⟨nb + 1 + 1, 0, none⟩ = some (.slice none 0 0) := R1.out.res.cell 0
  have q0 : v1.frozen? ⟨nb + 1 + 1, 0, none⟩ = false := R1.out.res.free 0
  have r1 : v1.cell? ⟨nb + 1 + 1, 1, none⟩ = some (.int .i64 0) := R1.out.res.cell 1
  have q1 : v1.frozen? ⟨nb + 1 + 1, 1, none⟩ = false := R1.out.res.free 1
  have r2 : v1.cell? ⟨nb + 1 + 1, 2, none⟩ = some (.string ⟨#[]⟩) := R1.out.res.cell 2
  have q2 : v1.frozen? ⟨nb + 1 + 1, 2, none⟩ = false := R1.out.res.free 2
  have r3 : v1.cell? ⟨nb + 1 + 1, 3, none⟩ = some (.int .u32 0) := R1.out.res.cell 3
  have q3 : v1.frozen? ⟨nb + 1 + 1, 3, none⟩ = false := R1.out.res.free 3
  have r4 : v1.cell? ⟨nb + 1 + 1, 4, none⟩ = some (.bool false) := R1.out.res.cell 4
  have q4 : v1.frozen? ⟨nb + 1 + 1, 4, none⟩ = false := R1.out.res.free 4
  have r5 : v1.cell? ⟨nb + 1 + 1, 5, none⟩ = some (.slice none 0 0) := R1.out.res.cell 5
  have q5 : v1.frozen? ⟨nb + 1 + 1, 5, none⟩ = false := R1.out.res.free 5
  have r6 : v1.cell? ⟨nb + 1 + 1, 6, none⟩ = some (.int .i64 0) := R1.out.res.cell 6
  have q6 : v1.frozen? ⟨nb + 1 + 1, 6, none⟩ = false := R1.out.res.free 6
  go_wp2_with (fail)
  obtain ⟨hK, hO, hB⟩ := td_put R1.out (OwnE.nil v1 n0) (1) _ rfl
  refine bodyPost_ret_by (results_cell_row rfl _ _ (nb + 1 + 1) 43 (tdC A c (t) none 0 ([]) (1)) (0, 0) _ rfl hK Tryd.underlying43 rfl size43) rfl ?_
  exact ⟨A, c, none, 0, rfl, hO.1, hO.2, hB⟩
set_option maxRecDepth 100000 in
set_option maxHeartbeats 4000000 in
theorem refResv_other (n0 : Nat) (A : Option Addr) (c : Nat) (t : Tl) (m : Cm) (w : World) (ho : Own w n0 A c t.rs) (hn : n0 ≤ w.heap.size) (hm : t.rs.length ≤ 200) (hz : (t.ty == 0) = false) (hh : holdsB t m.ho = true) (hq : (t.ty == m.ty) = false) :
    Calls Tryd.prog 40 #[tlV A c t, cmV m] w (RdOut n0 w (t) ([]) (2)) := by
  have R0 := Lib.hid (RdAt.from w A c t m ho hn)
  have HM := Lib.hid (show t.rs.length ≤ maxLen by unfold maxLen; omega)
  have HM2 := Lib.hid hm
  have hnt := not_true
  have hnf := not_false
  obtain ⟨nb, hnb⟩ : ∃ nb, nb = w.heap.size := ⟨_, rfl⟩
  clear ho hn hm
  have HH := Lib.hid (fun v (hl2 : Rgs v A t.rs) => refHolds_any A c t m.ho v hl2 HM.out)
  rw [hh] at HH
  clear hh
  go_enter Tryd.func40, Tryd.ntmps40
  go_upto_region 1 with (fail)
  change Code.wp _ _ _ _ (((w.alloc (.cells (tlC A c t) 27)).alloc (.cells (cmC m) 37)).alloc (.cells tdZ 43))
  generalize ((w.alloc (.cells (tlC A c t) 27)).alloc (.cells (cmC m) 37)).alloc (.cells tdZ 43) = v0 at *
  rw [← hnb] at R0 ⊢
  clear hnb
  have c0 : v0.cell? ⟨nb, 0, none⟩ = some (.slice A t.rs.length c) := R0.out.box.cell 0
  have c1 : v0.cell? ⟨nb, 1, none⟩ = some (.int .i64 t.ty) := R0.out.box.cell 1
  have c2 : v0.cell? ⟨nb, 2, none⟩ = some (.string t.ho) := R0.out.box.cell 2
  have c3 : v0.cell? ⟨nb, 3, none⟩ = some (.int .u32 t.ge) := R0.out.box.cell 3
  have c4 : v0.cell? ⟨nb, 4, none⟩ = some (.bool t.ap) := R0.out.box.cell 4
  have m2 : v0.cell? ⟨nb + 1, 2, none⟩ = some (.string m.ho) := R0.out.cmd.cell 2
  go_wp2_with (fail)
  refine (HH.out _ R0.out.own.rgs).mono ?_; rintro e v1 ⟨rfl, hb⟩
  have R1 := Lib.hid (R0.out.below hb)
  clear c0 c1 c2 c3 c4 m2 hb
  have c0 : v1.cell? ⟨nb, 0, none⟩ = some (.slice A t.rs.length c) := R1.out.box.cell 0
  have c1 : v1.cell? ⟨nb, 1, none⟩ = some (.int .i64 t.ty) := R1.out.box.cell 1
  have c2 : v1.cell? ⟨nb, 2, none⟩ = some (.string t.ho) := R1.out.box.cell 2
  have c3 : v1.cell? ⟨nb, 3, none⟩ = some (.int .u32 t.ge) := R1.out.box.cell 3
  have c4 : v1.cell? ⟨nb, 4, none⟩ = some (.bool t.ap) := R1.out.box.cell 4
  have m11 : v1.cell? ⟨nb + 1, 11, none⟩ = some (.int .i64 m.ty) := R1.out.cmd.cell 11
  have r0 : v1.cell? ⟨nb + 1 + 1, 0, none⟩ = some (.slice none 0 0) := R1.out.res.cell 0
  have q0 : v1.frozen? ⟨nb + 1 + 1, 0, none⟩ = false := R1.out.res.free 0
  have r1 : v1.cell? ⟨nb + 1 + 1, 1, none⟩ = some (.int .i64 0) := R1.out.res.cell 1
  have q1 : v1.frozen? ⟨nb + 1 + 1, 1, none⟩ = false := R1.out.res.free 1
  have r2 : v1.cell? ⟨nb + 1 + 1, 2, none⟩ = some (.string ⟨#[]⟩) := R1.out.res.cell 2
  have q2 : v1.frozen? ⟨nb + 1 + 1, 2, none⟩ = false := R1.out.res.free 2
  have r3 : v1.cell? ⟨nb + 1 + 1, 3, none⟩ = some (.int .u32 0) := R1.out.res.cell 3
  have q3 : v1.frozen? ⟨nb + 1 + 1, 3, none⟩ = false := R1.out.res.free 3
  have r4 : v1.cell? ⟨nb + 1 + 1, 4, none⟩ = some (.bool false) := R1.out.res.cell 4
  have q4 : v1.frozen? ⟨nb + 1 + 1, 4, none⟩ = false := R1.out.res.free 4
  have r5 : v1.cell? ⟨nb + 1 + 1, 5, none⟩ = some (.slice none 0 0) := R1.out.res.cell 5
  have q5 : v1.frozen? ⟨nb + 1 + 1, 5, none⟩ = false := R1.out.res.free 5
  have r6 : v1.cell? ⟨nb + 1 + 1, 6, none⟩ = some (.int .i64 0) := R1.out.res.cell 6
  have q6 : v1.frozen? ⟨nb + 1 + 1, 6, none⟩ = false := R1.out.res.free 6
  go_wp2_with (fail)
  obtain ⟨hK, hO, hB⟩ := td_put R1.out (OwnE.nil v1 n0) (2) _ rfl
  refine bodyPost_ret_by (results_cell_row rfl _ _ (nb + 1 + 1) 43 (tdC A c (t) none 0 ([]) (2)) (0, 0) _ rfl hK Tryd.underlying43 rfl size43) rfl ?_
  exact ⟨A, c, none, 0, rfl, hO.1, hO.2, hB⟩
set_option maxRecDepth 100000 in
set_option maxHeartbeats 4000000 in
theorem refResv_not (n0 : Nat) (A : Option Addr) (c : Nat) (t : Tl) (m : Cm) (w : World) (ho : Own w n0 A c t.rs) (hn : n0 ≤ w.heap.size) (hm : t.rs.length ≤ 200) (hz : (t.ty == 0) = false) (hh : holdsB t m.ho = false) :
    Calls Tryd.prog 40 #[tlV A c t, cmV m] w (RdOut n0 w (t) ([]) (2)) := by
  have R0 := Lib.hid (RdAt.from w A c t m ho hn)
  have HM := Lib.hid (show t.rs.length ≤ maxLen by unfold maxLen; omega)
  have HM2 := Lib.hid hm
  have hnt := not_true
  have hnf := not_false
  obtain ⟨nb, hnb⟩ : ∃ nb, nb = w.heap.size := ⟨_, rfl⟩
  clear ho hn hm
  have HH := Lib.hid (fun v (hl2 : Rgs v A t.rs) => refHolds_any A c t m.ho v hl2 HM.out)
  rw [hh] at HH
  clear hh
  go_enter Tryd.func40, Tryd.ntmps40
  go_upto_region 1 with (fail)
  change Code.wp _ _ _ _ (((w.alloc (.cells (tlC A c t) 27)).alloc (.cells (cmC m) 37)).alloc (.cells tdZ 43))
  generalize ((w.alloc (.cells (tlC A c t) 27)).alloc (.cells (cmC m) 37)).alloc (.cells tdZ 43) = v0 at *
  rw [← hnb] at R0 ⊢
  clear hnb
  have c0 : v0.cell? ⟨nb, 0, none⟩ = some (.slice A t.rs.length c) := R0.out.box.cell 0
  have c1 : v0.cell? ⟨nb, 1, none⟩ = some (.int .i64 t.ty) := R0.out.box.cell 1
  have c2 : v0.cell? ⟨nb, 2, none⟩ = some (.string t.ho) := R0.out.box.cell 2
  have c3 : v0.cell? ⟨nb, 3, none⟩ = some (.int .u32 t.ge) := R0.out.box.cell 3
  have c4 : v0.cell? ⟨nb, 4, none⟩ = some (.bool t.ap) := R0.out.box.cell 4
  have m2 : v0.cell? ⟨nb + 1, 2, none⟩ = some (.string m.ho) := R0.out.cmd.cell 2
  go_wp2_with (fail)
  refine (HH.out _ R0.out.own.rgs).mono ?_; rintro e v1 ⟨rfl, hb⟩
  have R1 := Lib.hid (R0.out.below hb)
  clear c0 c1 c2 c3 c4 m2 hb
  have c0 : v1.cell? ⟨nb, 0, none⟩ = some (.slice A t.rs.length c) := R1.out.box.cell 0
  have c1 : v1.cell? ⟨nb, 1, none⟩ = some (.int .i64 t.ty) := R1.out.box.cell 1
  have c2 : v1.cell? ⟨nb, 2, none⟩ = some (.string t.ho) := R1.out.box.cell 2
  have c3 : v1.cell? ⟨nb, 3, none⟩ = some (.int .u32 t.ge) := R1.out.box.cell 3
  have c4 : v1.cell? ⟨nb, 4, none⟩ = some (.bool t.ap) := R1.out.box.cell 4
  have m11 : v1.cell? ⟨nb + 1, 11, none⟩ = some (.int .i64 m.ty) := R1.out.cmd.cell 11
  have r0 : v1.cell? ⟨nb + 1 + 1, 0, none⟩ = some (.slice none 0 0) := R1.out.res.cell 0
  have q0 : v1.frozen? ⟨nb + 1 + 1, 0, none⟩ = false := R1.out.res.free 0
  have r1 : v1.cell? ⟨nb + 1 + 1, 1, none⟩ = some (.int .i64 0) := R1.out.res.cell 1
  have q1 : v1.frozen? ⟨nb + 1 + 1, 1, none⟩ = false := R1.out.res.free 1
  have r2 : v1.cell? ⟨nb + 1 + 1, 2, none⟩ = some (.string ⟨#[]⟩) := R1.out.res.cell 2
  have q2 : v1.frozen? ⟨nb + 1 + 1, 2, none⟩ = false := R1.out.res.free 2
  have r3 : v1.cell? ⟨nb + 1 + 1, 3, none⟩ = some (.int .u32 0) := R1.out.res.cell 3
  have q3 : v1.frozen? ⟨nb + 1 + 1, 3, none⟩ = false := R1.out.res.free 3
  have r4 : v1.cell? ⟨nb + 1 + 1, 4, none⟩ = some (.bool false) := R1.out.res.cell 4
  have q4 : v1.frozen? ⟨nb + 1 + 1, 4, none⟩ = false := R1.out.res.free 4
  have r5 : v1.cell? ⟨nb + 1 + 1, 5, none⟩ = some (.slice none 0 0) := R1.out.res.cell 5
  have q5 : v1.frozen? ⟨nb + 1 + 1, 5, none⟩ = false := R1.out.res.free 5
  have r6 : v1.cell? ⟨nb + 1 + 1, 6, none⟩ = some (.int .i64 0) := R1.out.res.cell 6
  have q6 : v1.frozen? ⟨nb + 1 + 1, 6, none⟩ = false := R1.out.res.free 6
  go_wp2_with (fail)
  obtain ⟨hK, hO, hB⟩ := td_put R1.out (OwnE.nil v1 n0) (2) _ rfl
  refine bodyPost_ret_by (results_cell_row rfl _ _ (nb + 1 + 1) 43 (tdC A c (t) none 0 ([]) (2)) (0, 0) _ rfl hK Tryd.underlying43 rfl size43) rfl ?_
  exact ⟨A, c, none, 0, rfl, hO.1, hO.2, hB⟩
set_option maxRecDepth 100000 in
set_option maxHeartbeats 4000000 in
theorem refRel_not (n0 : Nat) (A : Option Addr) (c : Nat) (t : Tl) (m : Cm) (w : World) (ho : Own w n0 A c t.rs) (hn : n0 ≤ w.heap.size) (hm : t.rs.length ≤ 200) (hh : holdsB t m.ho = false) :
    Calls Tryd.prog 41 #[tlV A c t, cmV m] w (RdOut n0 w (t) ([]) (1)) := by
  have R0 := Lib.hid (RdAt.from w A c t m ho hn)
  have HM := Lib.hid (show t.rs.length ≤ maxLen by unfold maxLen; omega)
  have HM2 := Lib.hid hm
  have hnt := not_true
  have hnf := not_false
  obtain ⟨nb, hnb⟩ : ∃ nb, nb = w.heap.size := ⟨_, rfl⟩
  clear ho hn hm
  have HH := Lib.hid (fun v (hl2 : Rgs v A t.rs) => refHolds_any A c t m.ho v hl2 HM.out)
  rw [hh] at HH
  clear hh
  go_enter Tryd.func41, Tryd.ntmps41
  go_upto_region 1 with (fail)
  change Code.wp _ _ _ _ (((w.alloc (.cells (tlC A c t) 27)).alloc (.cells (cmC m) 37)).alloc (.cells tdZ 43))
  generalize ((w.alloc (.cells (tlC A c t) 27)).alloc (.cells (cmC m) 37)).alloc (.cells tdZ 43) = v0 at *
  rw [← hnb] at R0 ⊢
  clear hnb
  have c0 : v0.cell? ⟨nb, 0, none⟩ = some (.slice A t.rs.length c) := R0.out.box.cell 0
  have c1 : v0.cell? ⟨nb, 1, none⟩ = some (.int .i64 t.ty) := R0.out.box.cell 1
  have c2 : v0.cell? ⟨nb, 2, none⟩ = some (.string t.ho) := R0.out.box.cell 2
  have c3 : v0.cell? ⟨nb, 3, none⟩ = some (.int .u32 t.ge) := R0.out.box.cell 3
  have c4 : v0.cell? ⟨nb, 4, none⟩ = some (.bool t.ap) := R0.out.box.cell 4
  have m2 : v0.cell? ⟨nb + 1, 2, none⟩ = some (.string m.ho) := R0.out.cmd.cell 2
  go_wp2_with (fail)
  refine (HH.out _ R0.out.own.rgs).mono ?_; rintro e v1 ⟨rfl, hb⟩
  have R1 := Lib.hid (R0.out.below hb)
  clear c0 c1 c2 c3 c4 m2 hb
  have c0 : v1.cell? ⟨nb, 0, none⟩ = some (.slice A t.rs.length c) := R1.out.box.cell 0
  have c1 : v1.cell? ⟨nb, 1, none⟩ = some (.int .i64 t.ty) := R1.out.box.cell 1
  have c2 : v1.cell? ⟨nb, 2, none⟩ = some (.string t.ho) := R1.out.box.cell 2
  have c3 : v1.cell? ⟨nb, 3, none⟩ = some (.int .u32 t.ge) := R1.out.box.cell 3
  have c4 : v1.cell? ⟨nb, 4, none⟩ = some (.bool t.ap) := R1.out.box.cell 4
  have r0 : v1.cell? ⟨nb + 1 + 1, 0, none⟩ = some (.slice none 0 0) := R1.out.res.cell 0
  have q0 : v1.frozen? ⟨nb + 1 + 1, 0, none⟩ = false := R1.out.res.free 0
  have r1 : v1.cell? ⟨nb + 1 + 1, 1, none⟩ = some (.int .i64 0) := R1.out.res.cell 1
  have q1 : v1.frozen? ⟨nb + 1 + 1, 1, none⟩ = false := R1.out.res.free 1
  have r2 : v1.cell? ⟨nb + 1 + 1, 2, none⟩ = some (.string ⟨#[]⟩) := R1.out.res.cell 2
  have q2 : v1.frozen? ⟨nb + 1 + 1, 2, none⟩ = false := R1.out.res.free 2
  have r3 : v1.cell? ⟨nb + 1 + 1, 3, none⟩ = some (.int .u32 0) := R1.out.res.cell 3
  have q3 : v1.frozen? ⟨nb + 1 + 1, 3, none⟩ = false := R1.out.res.free 3
  have r4 : v1.cell? ⟨nb + 1 + 1, 4, none⟩ = some (.bool false) := R1.out.res.cell 4
  have q4 : v1.frozen? ⟨nb + 1 + 1, 4, none⟩ = false := R1.out.res.free 4
  have r5 : v1.cell? ⟨nb + 1 + 1, 5, none⟩ = some (.slice none 0 0) := R1.out.res.cell 5
  have q5 : v1.frozen? ⟨nb + 1 + 1, 5, none⟩ = false := R1.out.res.free 5
  have r6 : v1.cell? ⟨nb + 1 + 1, 6, none⟩ = some (.int .i64 0) := R1.out.res.cell 6
  have q6 : v1.frozen? ⟨nb + 1 + 1, 6, none⟩ = false := R1.out.res.free 6
  go_wp2_with (fail)
  obtain ⟨hK, hO, hB⟩ := td_put R1.out (OwnE.nil v1 n0) (1) _ rfl
  refine bodyPost_ret_by (results_cell_row rfl _ _ (nb + 1 + 1) 43 (tdC A c (t) none 0 ([]) (1)) (0, 0) _ rfl hK Tryd.underlying43 rfl size43) rfl ?_
  exact ⟨A, c, none, 0, rfl, hO.1, hO.2, hB⟩
set_option maxRecDepth 100000 in
set_option maxHeartbeats 4000000 in
theorem refRel_wrong (n0 : Nat) (A : Option Addr) (c : Nat) (t : Tl) (m : Cm) (w : World) (ho : Own w n0 A c t.rs) (hn : n0 ≤ w.heap.size) (hm : t.rs.length ≤ 200) (hh : holdsB t m.ho = true) (hq : (t.ty != m.ty) = true) :
    Calls Tryd.prog 41 #[tlV A c t, cmV m] w (RdOut n0 w (t) ([]) (5)) := by
  have R0 := Lib.hid (RdAt.from w A c t m ho hn)
  have HM := Lib.hid (show t.rs.length ≤ maxLen by unfold maxLen; omega)
  have HM2 := Lib.hid hm
  have hnt := not_true
  have hnf := not_false
  obtain ⟨nb, hnb⟩ : ∃ nb, nb = w.heap.size := ⟨_, rfl⟩
  clear ho hn hm
  have HH := Lib.hid (fun v (hl2 : Rgs v A t.rs) => refHolds_any A c t m.ho v hl2 HM.out)
  rw [hh] at HH
  clear hh
  go_enter Tryd.func41, Tryd.ntmps41
  go_upto_region 1 with (fail)
  change Code.wp _ _ _ _ (((w.alloc (.cells (tlC A c t) 27)).alloc (.cells (cmC m) 37)).alloc (.cells tdZ 43))
  generalize ((w.alloc (.cells (tlC A c t) 27)).alloc (.cells (cmC m) 37)).alloc (.cells tdZ 43) = v0 at *
  rw [← hnb] at R0 ⊢
  clear hnb
  have c0 : v0.cell? ⟨nb, 0, none⟩ = some (.slice A t.rs.length c) := R0.out.box.cell 0
  have c1 : v0.cell? ⟨nb, 1, none⟩ = some (.int .i64 t.ty) := R0.out.box.cell 1
  have c2 : v0.cell? ⟨nb, 2, none⟩ = some (.string t.ho) := R0.out.box.cell 2
  have c3 : v0.cell? ⟨nb, 3, none⟩ = some (.int .u32 t.ge) := R0.out.box.cell 3
  have c4 : v0.cell? ⟨nb, 4, none⟩ = some (.bool t.ap) := R0.out.box.cell 4
  have m2 : v0.cell? ⟨nb + 1, 2, none⟩ = some (.string m.ho) := R0.out.cmd.cell 2
  go_wp2_with (fail)
  refine (HH.out _ R0.out.own.rgs).mono ?_; rintro e v1 ⟨rfl, hb⟩
  have R1 := Lib.hid (R0.out.below hb)
  clear c0 c1 c2 c3 c4 m2 hb
  have c0 : v1.cell? ⟨nb, 0, none⟩ = some (.slice A t.rs.length c) := R1.out.box.cell 0
  have c1 : v1.cell? ⟨nb, 1, none⟩ = some (.int .i64 t.ty) := R1.out.box.cell 1
  have c2 : v1.cell? ⟨nb, 2, none⟩ = some (.string t.ho) := R1.out.box.cell 2
  have c3 : v1.cell? ⟨nb, 3, none⟩ = some (.int .u32 t.ge) := R1.out.box.cell 3
  have c4 : v1.cell? ⟨nb, 4, none⟩ = some (.bool t.ap) := R1.out.box.cell 4
  have m11 : v1.cell? ⟨nb + 1, 11, none⟩ = some (.int .i64 m.ty) := R1.out.cmd.cell 11
  have r0 : v1.cell? ⟨nb + 1 + 1, 0, none⟩ = some (.slice none 0 0) := R1.out.res.cell 0
  have q0 : v1.frozen? ⟨nb + 1 + 1, 0, none⟩ = false := R1.out.res.free 0
  have r1 : v1.cell? ⟨nb + 1 + 1, 1, none⟩ = some (.int .i64 0) := R1.out.res.cell 1
  have q1 : v1.frozen? ⟨nb + 1 + 1, 1, none⟩ = false := R1.out.res.free 1
  have r2 : v1.cell? ⟨nb + 1 + 1, 2, none⟩ = some (.string ⟨#[]⟩) := R1.out.res.cell 2
  have q2 : v1.frozen? ⟨nb + 1 + 1, 2, none⟩ = false := R1.out.res.free 2
  have r3 : v1.cell? ⟨nb + 1 + 1, 3, none⟩ = some (.int .u32 0) := R1.out.res.cell 3
  have q3 : v1.frozen? ⟨nb + 1 + 1, 3, none⟩ = false := R1.out.res.free 3
  have r4 : v1.cell? ⟨nb + 1 + 1, 4, none⟩ = some (.bool false) := R1.out.res.cell 4
  have q4 : v1.frozen? ⟨nb + 1 + 1, 4, none⟩ = false := R1.out.res.free 4
  have r5 : v1.cell? ⟨nb + 1 + 1, 5, none⟩ = some (.slice none 0 0) := R1.out.res.cell 5
  have q5 : v1.frozen? ⟨nb + 1 + 1, 5, none⟩ = false := R1.out.res.free 5
  have r6 : v1.cell? ⟨nb + 1 + 1, 6, none⟩ = some (.int .i64 0) := R1.out.res.cell 6
  have q6 : v1.frozen? ⟨nb + 1 + 1, 6, none⟩ = false := R1.out.res.free 6
  go_wp2_with (fail)
  obtain ⟨hK, hO, hB⟩ := td_put R1.out (OwnE.nil v1 n0) (5) _ rfl
  refine bodyPost_ret_by (results_cell_row rfl _ _ (nb + 1 + 1) 43 (tdC A c (t) none 0 ([]) (5)) (0, 0) _ rfl hK Tryd.underlying43 rfl size43) rfl ?_
  exact ⟨A, c, none, 0, rfl, hO.1, hO.2, hB⟩
set_option maxRecDepth 100000 in
set_option maxHeartbeats 4000000 in
theorem refRel_one (n0 : Nat) (A : Option Addr) (c : Nat) (t : Tl) (m : Cm) (w : World) (ho : Own w n0 A c t.rs) (hn : n0 ≤ w.heap.size) (hm : t.rs.length ≤ 200) (hh : holdsB t m.ho = true) (hq : (t.ty != m.ty) = false) (h1 : (m.ty != 1) = false) :
    Calls Tryd.prog 41 #[tlV A c t, cmV m] w (RdOut n0 w (endT t) ([]) (1)) := by
  have R0 := Lib.hid (RdAt.from w A c t m ho hn)
  have HM := Lib.hid (show t.rs.length ≤ maxLen by unfold maxLen; omega)
  have HM2 := Lib.hid hm
  have hnt := not_true
  have hnf := not_false
  obtain ⟨nb, hnb⟩ : ∃ nb, nb = w.heap.size := ⟨_, rfl⟩
  clear ho hn hm
  have HH := Lib.hid (fun v (hl2 : Rgs v A t.rs) => refHolds_any A c t m.ho v hl2 HM.out)
  rw [hh] at HH
  clear hh
  go_enter Tryd.func41, Tryd.ntmps41
  go_upto_region 1 with (fail)
  change Code.wp _ _ _ _ (((w.alloc (.cells (tlC A c t) 27)).alloc (.cells (cmC m) 37)).alloc (.cells tdZ 43))
  generalize ((w.alloc (.cells (tlC A c t) 27)).alloc (.cells (cmC m) 37)).alloc (.cells tdZ 43) = v0 at *
  rw [← hnb] at R0 ⊢
  clear hnb
  have c0 : v0.cell? ⟨nb, 0, none⟩ = some (.slice A t.rs.length c) := R0.out.box.cell 0
  have c1 : v0.cell? ⟨nb, 1, none⟩ = some (.int .i64 t.ty) := R0.out.box.cell 1
  have c2 : v0.cell? ⟨nb, 2, none⟩ = some (.string t.ho) := R0.out.box.cell 2
  have c3 : v0.cell? ⟨nb, 3, none⟩ = some (.int .u32 t.ge) := R0.out.box.cell 3
  have c4 : v0.cell? ⟨nb, 4, none⟩ = some (.bool t.ap) := R0.out.box.cell 4
  have m2 : v0.cell? ⟨nb + 1, 2, none⟩ = some (.string m.ho) := R0.out.cmd.cell 2
  go_wp2_with (fail)
  refine (HH.out _ R0.out.own.rgs).mono ?_; rintro e v1 ⟨rfl, hb⟩
  have R1 := Lib.hid (R0.out.below hb)
  clear c0 c1 c2 c3 c4 m2 hb
  have c0 : v1.cell? ⟨nb, 0, none⟩ = some (.slice A t.rs.length c) := R1.out.box.cell 0
  have c1 : v1.cell? ⟨nb, 1, none⟩ = some (.int .i64 t.ty) := R1.out.box.cell 1
  have c2 : v1.cell? ⟨nb, 2, none⟩ = some (.string t.ho) := R1.out.box.cell 2
  have c3 : v1.cell? ⟨nb, 3, none⟩ = some (.int .u32 t.ge) := R1.out.box.cell 3
  have c4 : v1.cell? ⟨nb, 4, none⟩ = some (.bool t.ap) := R1.out.box.cell 4
  have m11 : v1.cell? ⟨nb + 1, 11, none⟩ = some (.int .i64 m.ty) := R1.out.cmd.cell 11
  have f1 : v1.frozen? ⟨nb, 1, none⟩ = false := R1.out.box.free 1
  have f2 : v1.frozen? ⟨nb, 2, none⟩ = false := R1.out.box.free 2
  go_upto_region 9 with (fail)
  clear m11
  have R2 := Lib.hid ((R1.out.put 1 (.int .i64 0) (t' := { t with ty := 0 }) rfl rfl).put 2 (.string ⟨#[]⟩) (t' := endT t) rfl rfl)
  clear c0 c1 c2 c3 c4 f1 f2
  generalize (v1.setCell ⟨nb, 1, none⟩ (.int .i64 0)).setCell ⟨nb, 2, none⟩ (.string ⟨#[]⟩) = v2 at *
  have c0 : v2.cell? ⟨nb, 0, none⟩ = some (.slice A (endT t).rs.length c) := R2.out.box.cell 0
  have c1 : v2.cell? ⟨nb, 1, none⟩ = some (.int .i64 (endT t).ty) := R2.out.box.cell 1
  have c2 : v2.cell? ⟨nb, 2, none⟩ = some (.string (endT t).ho) := R2.out.box.cell 2
  have c3 : v2.cell? ⟨nb, 3, none⟩ = some (.int .u32 (endT t).ge) := R2.out.box.cell 3
  have c4 : v2.cell? ⟨nb, 4, none⟩ = some (.bool (endT t).ap) := R2.out.box.cell 4
  have r0 : v2.cell? ⟨nb + 1 + 1, 0, none⟩ = some (.slice none 0 0) := R2.out.res.cell 0
  have q0 : v2.frozen? ⟨nb + 1 + 1, 0, none⟩ = false := R2.out.res.free 0
  have r1 : v2.cell? ⟨nb + 1 + 1, 1, none⟩ = some (.int .i64 0) := R2.out.res.cell 1
  have q1 : v2.frozen? ⟨nb + 1 + 1, 1, none⟩ = false := R2.out.res.free 1
  have r2 : v2.cell? ⟨nb + 1 + 1, 2, none⟩ = some (.string ⟨#[]⟩) := R2.out.res.cell 2
  have q2 : v2.frozen? ⟨nb + 1 + 1, 2, none⟩ = false := R2.out.res.free 2
  have r3 : v2.cell? ⟨nb + 1 + 1, 3, none⟩ = some (.int .u32 0) := R2.out.res.cell 3
  have q3 : v2.frozen? ⟨nb + 1 + 1, 3, none⟩ = false := R2.out.res.free 3
  have r4 : v2.cell? ⟨nb + 1 + 1, 4, none⟩ = some (.bool false) := R2.out.res.cell 4
  have q4 : v2.frozen? ⟨nb + 1 + 1, 4, none⟩ = false := R2.out.res.free 4
  have r5 : v2.cell? ⟨nb + 1 + 1, 5, none⟩ = some (.slice none 0 0) := R2.out.res.cell 5
  have q5 : v2.frozen? ⟨nb + 1 + 1, 5, none⟩ = false := R2.out.res.free 5
  have r6 : v2.cell? ⟨nb + 1 + 1, 6, none⟩ = some (.int .i64 0) := R2.out.res.cell 6
  have q6 : v2.frozen? ⟨nb + 1 + 1, 6, none⟩ = false := R2.out.res.free 6
  go_wp2_with (fail)
  obtain ⟨hK, hO, hB⟩ := td_put R2.out (OwnE.nil v2 n0) (1) _ rfl
  refine bodyPost_ret_by (results_cell_row rfl _ _ (nb + 1 + 1) 43 (tdC A c (endT t) none 0 ([]) (1)) (0, 0) _ rfl hK Tryd.underlying43 rfl size43) rfl ?_
  exact ⟨A, c, none, 0, rfl, hO.1, hO.2, hB⟩
set_option maxRecDepth 100000 in
set_option maxHeartbeats 4000000 in
theorem refRel_two (n0 : Nat) (A : Option Addr) (c : Nat) (t : Tl) (m : Cm) (w : World) (ho : Own w n0 A c t.rs) (hn : n0 ≤ w.heap.size) (hm : t.rs.length ≤ 200) (hh : holdsB t m.ho = true) (hq : (t.ty != m.ty) = false) (h1 : (m.ty != 1) = true) (h2 : (m.ty != 2) = false) :
    Calls Tryd.prog 41 #[tlV A c t, cmV m] w (RdOut n0 w (endT t) ([]) (1)) := by
  have R0 := Lib.hid (RdAt.from w A c t m ho hn)
  have HM := Lib.hid (show t.rs.length ≤ maxLen by unfold maxLen; omega)
  have HM2 := Lib.hid hm
  have hnt := not_true
  have hnf := not_false
  obtain ⟨nb, hnb⟩ : ∃ nb, nb = w.heap.size := ⟨_, rfl⟩
  clear ho hn hm
  have HH := Lib.hid (fun v (hl2 : Rgs v A t.rs) => refHolds_any A c t m.ho v hl2 HM.out)
  rw [hh] at HH
  clear hh
  go_enter Tryd.func41, Tryd.ntmps41
  go_upto_region 1 with (fail)
  change Code.wp _ _ _ _ (((w.alloc (.cells (tlC A c t) 27)).alloc (.cells (cmC m) 37)).alloc (.cells tdZ 43))
  generalize ((w.alloc (.cells (tlC A c t) 27)).alloc (.cells (cmC m) 37)).alloc (.cells tdZ 43) = v0 at *
  rw [← hnb] at R0 ⊢
  clear hnb
  have c0 : v0.cell? ⟨nb, 0, none⟩ = some (.slice A t.rs.length c) := R0.out.box.cell 0
  have c1 : v0.cell? ⟨nb, 1, none⟩ = some (.int .i64 t.ty) := R0.out.box.cell 1
  have c2 : v0.cell? ⟨nb, 2, none⟩ = some (.string t.ho) := R0.out.box.cell 2
  have c3 : v0.cell? ⟨nb, 3, none⟩ = some (.int .u32 t.ge) := R0.out.box.cell 3
  have c4 : v0.cell? ⟨nb, 4, none⟩ = some (.bool t.ap) := R0.out.box.cell 4
  have m2 : v0.cell? ⟨nb + 1, 2, none⟩ = some (.string m.ho) := R0.out.cmd.cell 2
  go_wp2_with (fail)
  refine (HH.out _ R0.out.own.rgs).mono ?_; rintro e v1 ⟨rfl, hb⟩
  have R1 := Lib.hid (R0.out.below hb)
  clear c0 c1 c2 c3 c4 m2 hb
  have c0 : v1.cell? ⟨nb, 0, none⟩ = some (.slice A t.rs.length c) := R1.out.box.cell 0
  have c1 : v1.cell? ⟨nb, 1, none⟩ = some (.int .i64 t.ty) := R1.out.box.cell 1
  have c2 : v1.cell? ⟨nb, 2, none⟩ = some (.string t.ho) := R1.out.box.cell 2
  have c3 : v1.cell? ⟨nb, 3, none⟩ = some (.int .u32 t.ge) := R1.out.box.cell 3
  have c4 : v1.cell? ⟨nb, 4, none⟩ = some (.bool t.ap) := R1.out.box.cell 4
  have m11 : v1.cell? ⟨nb + 1, 11, none⟩ = some (.int .i64 m.ty) := R1.out.cmd.cell 11
  have f1 : v1.frozen? ⟨nb, 1, none⟩ = false := R1.out.box.free 1
  have f2 : v1.frozen? ⟨nb, 2, none⟩ = false := R1.out.box.free 2
  go_upto_region 9 with (fail)
  clear m11
  have R2 := Lib.hid ((R1.out.put 1 (.int .i64 0) (t' := { t with ty := 0 }) rfl rfl).put 2 (.string ⟨#[]⟩) (t' := endT t) rfl rfl)
  clear c0 c1 c2 c3 c4 f1 f2
  generalize (v1.setCell ⟨nb, 1, none⟩ (.int .i64 0)).setCell ⟨nb, 2, none⟩ (.string ⟨#[]⟩) = v2 at *
  have c0 : v2.cell? ⟨nb, 0, none⟩ = some (.slice A (endT t).rs.length c) := R2.out.box.cell 0
  have c1 : v2.cell? ⟨nb, 1, none⟩ = some (.int .i64 (endT t).ty) := R2.out.box.cell 1
  have c2 : v2.cell? ⟨nb, 2, none⟩ = some (.string (endT t).ho) := R2.out.box.cell 2
  have c3 : v2.cell? ⟨nb, 3, none⟩ = some (.int .u32 (endT t).ge) := R2.out.box.cell 3
  have c4 : v2.cell? ⟨nb, 4, none⟩ = some (.bool (endT t).ap) := R2.out.box.cell 4
  have r0 : v2.cell? ⟨nb + 1 + 1, 0, none⟩ = some (.slice none 0 0) := R2.out.res.cell 0
  have q0 : v2.frozen? ⟨nb + 1 + 1, 0, none⟩ = false := R2.out.res.free 0
  have r1 : v2.cell? ⟨nb + 1 + 1, 1, none⟩ = some (.int .i64 0) := R2.out.res.cell 1
  have q1 : v2.frozen? ⟨nb + 1 + 1, 1, none⟩ = false := R2.out.res.free 1
  have r2 : v2.cell? ⟨nb + 1 + 1, 2, none⟩ = some (.string ⟨#[]⟩) := R2.out.res.cell 2
  have q2 : v2.frozen? ⟨nb + 1 + 1, 2, none⟩ = false := R2.out.res.free 2
  have r3 : v2.cell? ⟨nb + 1 + 1, 3, none⟩ = some (.int .u32 0) := R2.out.res.cell 3
  have q3 : v2.frozen? ⟨nb + 1 + 1, 3, none⟩ = false := R2.out.res.free 3
  have r4 : v2.cell? ⟨nb + 1 + 1, 4, none⟩ = some (.bool false) := R2.out.res.cell 4
  have q4 : v2.frozen? ⟨nb + 1 + 1, 4, none⟩ = false := R2.out.res.free 4
  have r5 : v2.cell? ⟨nb + 1 + 1, 5, none⟩ = some (.slice none 0 0) := R2.out.res.cell 5
  have q5 : v2.frozen? ⟨nb + 1 + 1, 5, none⟩ = false := R2.out.res.free 5
  have r6 : v2.cell? ⟨nb + 1 + 1, 6, none⟩ = some (.int .i64 0) := R2.out.res.cell 6
  have q6 : v2.frozen? ⟨nb + 1 + 1, 6, none⟩ = false := R2.out.res.free 6
  go_wp2_with (fail)
  obtain ⟨hK, hO, hB⟩ := td_put R2.out (OwnE.nil v2 n0) (1) _ rfl
  refine bodyPost_ret_by (results_cell_row rfl _ _ (nb + 1 + 1) 43 (tdC A c (endT t) none 0 ([]) (1)) (0, 0) _ rfl hK Tryd.underlying43 rfl size43) rfl ?_
  exact ⟨A, c, none, 0, rfl, hO.1, hO.2, hB⟩
set_option maxRecDepth 100000 in
set_option maxHeartbeats 4000000 in
theorem refRel_told (n0 : Nat) (A : Option Addr) (c : Nat) (t : Tl) (m : Cm) (w : World) (ho : Own w n0 A c t.rs) (hn : n0 ≤ w.heap.size) (hm : t.rs.length ≤ 200) (hh : holdsB t m.ho = true) (hq : (t.ty != m.ty) = false) (h1 : (m.ty != 1) = true) (h2 : (m.ty != 2) = true) :
    Calls Tryd.prog 41 #[tlV A c t, cmV m] w (RdOut n0 w (endT t) (evsOf 3 m.ho t.rs) (1)) := by
  have R0 := Lib.hid (RdAt.from w A c t m ho hn)
  have HM := Lib.hid (show t.rs.length ≤ maxLen by unfold maxLen; omega)
  have HM2 := Lib.hid hm
  have hnt := not_true
  have hnf := not_false
  obtain ⟨nb, hnb⟩ : ∃ nb, nb = w.heap.size := ⟨_, rfl⟩
  clear ho hn hm
  have HH := Lib.hid (fun v (hl2 : Rgs v A t.rs) => refHolds_any A c t m.ho v hl2 HM.out)
  rw [hh] at HH
  clear hh
  go_enter Tryd.func41, Tryd.ntmps41
  go_upto_region 1 with (fail)
  change Code.wp _ _ _ _ (((w.alloc (.cells (tlC A c t) 27)).alloc (.cells (cmC m) 37)).alloc (.cells tdZ 43))
  generalize ((w.alloc (.cells (tlC A c t) 27)).alloc (.cells (cmC m) 37)).alloc (.cells tdZ 43) = v0 at *
  rw [← hnb] at R0 ⊢
  clear hnb
  have c0 : v0.cell? ⟨nb, 0, none⟩ = some (.slice A t.rs.length c) := R0.out.box.cell 0
  have c1 : v0.cell? ⟨nb, 1, none⟩ = some (.int .i64 t.ty) := R0.out.box.cell 1
  have c2 : v0.cell? ⟨nb, 2, none⟩ = some (.string t.ho) := R0.out.box.cell 2
  have c3 : v0.cell? ⟨nb, 3, none⟩ = some (.int .u32 t.ge) := R0.out.box.cell 3
  have c4 : v0.cell? ⟨nb, 4, none⟩ = some (.bool t.ap) := R0.out.box.cell 4
  have m2 : v0.cell? ⟨nb + 1, 2, none⟩ = some (.string m.ho) := R0.out.cmd.cell 2
  go_wp2_with (fail)
  refine (HH.out _ R0.out.own.rgs).mono ?_; rintro e v1 ⟨rfl, hb⟩
  have R1 := Lib.hid (R0.out.below hb)
  clear c0 c1 c2 c3 c4 m2 hb
  have c0 : v1.cell? ⟨nb, 0, none⟩ = some (.slice A t.rs.length c) := R1.out.box.cell 0
  have c1 : v1.cell? ⟨nb, 1, none⟩ = some (.int .i64 t.ty) := R1.out.box.cell 1
  have c2 : v1.cell? ⟨nb, 2, none⟩ = some (.string t.ho) := R1.out.box.cell 2
  have c3 : v1.cell? ⟨nb, 3, none⟩ = some (.int .u32 t.ge) := R1.out.box.cell 3
  have c4 : v1.cell? ⟨nb, 4, none⟩ = some (.bool t.ap) := R1.out.box.cell 4
  have m2 : v1.cell? ⟨nb + 1, 2, none⟩ = some (.string m.ho) := R1.out.cmd.cell 2
  have m11 : v1.cell? ⟨nb + 1, 11, none⟩ = some (.int .i64 m.ty) := R1.out.cmd.cell 11
  go_wp2_with (fail)
  refine (events_any A c t.rs m.ho 3 v1 R1.out.own.rgs (Nat.le_trans HM2.out (by decide))).mono ?_; rintro e v2 ⟨B, kk, rfl, he, hb⟩
  have R2 := Lib.hid (R1.out.below hb); have HE := Lib.hid (OwnE.base he R1.out.lt)
  clear c0 c1 c2 c3 c4 m2 m11 he hb
  have c0 : v2.cell? ⟨nb, 0, none⟩ = some (.slice A t.rs.length c) := R2.out.box.cell 0
  have c1 : v2.cell? ⟨nb, 1, none⟩ = some (.int .i64 t.ty) := R2.out.box.cell 1
  have c2 : v2.cell? ⟨nb, 2, none⟩ = some (.string t.ho) := R2.out.box.cell 2
  have c3 : v2.cell? ⟨nb, 3, none⟩ = some (.int .u32 t.ge) := R2.out.box.cell 3
  have c4 : v2.cell? ⟨nb, 4, none⟩ = some (.bool t.ap) := R2.out.box.cell 4
  have f1 : v2.frozen? ⟨nb, 1, none⟩ = false := R2.out.box.free 1
  have f2 : v2.frozen? ⟨nb, 2, none⟩ = false := R2.out.box.free 2
  go_upto_region 9 with (fail)
  have HE3 := Lib.hid (RdAt.evs R2.out HE.out (i := 1) (j := 2) (x := .int .i64 0) (y := .string ⟨#[]⟩))
  have R3 := Lib.hid ((R2.out.put 1 (.int .i64 0) (t' := { t with ty := 0 }) rfl rfl).put 2 (.string ⟨#[]⟩) (t' := endT t) rfl rfl)
  clear c0 c1 c2 c3 c4 f1 f2
  generalize (v2.setCell ⟨nb, 1, none⟩ (.int .i64 0)).setCell ⟨nb, 2, none⟩ (.string ⟨#[]⟩) = v3 at *
  have c0 : v3.cell? ⟨nb, 0, none⟩ = some (.slice A (endT t).rs.length c) := R3.out.box.cell 0
  have c1 : v3.cell? ⟨nb, 1, none⟩ = some (.int .i64 (endT t).ty) := R3.out.box.cell 1
  have c2 : v3.cell? ⟨nb, 2, none⟩ = some (.string (endT t).ho) := R3.out.box.cell 2
  have c3 : v3.cell? ⟨nb, 3, none⟩ = some (.int .u32 (endT t).ge) := R3.out.box.cell 3
  have c4 : v3.cell? ⟨nb, 4, none⟩ = some (.bool (endT t).ap) := R3.out.box.cell 4
  have r0 : v3.cell? ⟨nb + 1 + 1, 0, none⟩ = some (.slice none 0 0) := R3.out.res.cell 0
  have q0 : v3.frozen? ⟨nb + 1 + 1, 0, none⟩ = false := R3.out.res.free 0
  have r1 : v3.cell? ⟨nb + 1 + 1, 1, none⟩ = some (.int .i64 0) := R3.out.res.cell 1
  have q1 : v3.frozen? ⟨nb + 1 + 1, 1, none⟩ = false := R3.out.res.free 1
  have r2 : v3.cell? ⟨nb + 1 + 1, 2, none⟩ = some (.string ⟨#[]⟩) := R3.out.res.cell 2
  have q2 : v3.frozen? ⟨nb + 1 + 1, 2, none⟩ = false := R3.out.res.free 2
  have r3 : v3.cell? ⟨nb + 1 + 1, 3, none⟩ = some (.int .u32 0) := R3.out.res.cell 3
  have q3 : v3.frozen? ⟨nb + 1 + 1, 3, none⟩ = false := R3.out.res.free 3
  have r4 : v3.cell? ⟨nb + 1 + 1, 4, none⟩ = some (.bool false) := R3.out.res.cell 4
  have q4 : v3.frozen? ⟨nb + 1 + 1, 4, none⟩ = false := R3.out.res.free 4
  have r5 : v3.cell? ⟨nb + 1 + 1, 5, none⟩ = some (.slice none 0 0) := R3.out.res.cell 5
  have q5 : v3.frozen? ⟨nb + 1 + 1, 5, none⟩ = false := R3.out.res.free 5
  have r6 : v3.cell? ⟨nb + 1 + 1, 6, none⟩ = some (.int .i64 0) := R3.out.res.cell 6
  have q6 : v3.frozen? ⟨nb + 1 + 1, 6, none⟩ = false := R3.out.res.free 6
  go_wp2_with (fail)
  obtain ⟨hK, hO, hB⟩ := td_put R3.out HE3.out (1) _ rfl
  refine bodyPost_ret_by (results_cell_row rfl _ _ (nb + 1 + 1) 43 (tdC A c (endT t) B kk (evsOf 3 m.ho t.rs) (1)) (0, 0) _ rfl hK Tryd.underlying43 rfl size43) rfl ?_
  exact ⟨A, c, B, kk, rfl, hO.1, hO.2, hB⟩
open Go.RowKit
set_option maxRecDepth 100000 in
set_option maxHeartbeats 4000000 in
theorem refReg_full_i (n0 : Nat) (A : Option Addr) (c : Nat) (t : Tl) (m : Cm) (w : World) (ho : Own w n0 A c t.rs) (hn : n0 ≤ w.heap.size) (hm : t.rs.length ≤ 200) (hg : m.ig = true) (hk : (m.nk != 0) = true) (hw : (keyR t.rs m.ho == 0) = true) (h16 : ((t.rs.length : Int) == 16) = true) :
    Calls Tryd.prog 39 #[tlV A c t, cmV m] w (RdOut n0 w (t) ([]) (8)) := by
  have R0 := Lib.hid (RdAt.from w A c t m ho hn)
  have HM := Lib.hid (show t.rs.length ≤ maxLen by unfold maxLen; omega)
  have HM2 := Lib.hid hm
  have hnt := not_true
  have hnf := not_false
  obtain ⟨nb, hnb⟩ : ∃ nb, nb = w.heap.size := ⟨_, rfl⟩
  clear ho hn hm
  have HK := Lib.hid (fun v (hl2 : Rgs v A t.rs) => refKey_any A c t m.ho v hl2 HM.out)
  go_enter Tryd.func39, Tryd.ntmps39
  go_upto_region 1 with (fail)
  change Code.wp _ _ _ _ (((w.alloc (.cells (tlC A c t) 27)).alloc (.cells (cmC m) 37)).alloc (.cells tdZ 43))
  generalize ((w.alloc (.cells (tlC A c t) 27)).alloc (.cells (cmC m) 37)).alloc (.cells tdZ 43) = v0 at *
  rw [← hnb] at R0 ⊢
  clear hnb
  have c0 : v0.cell? ⟨nb, 0, none⟩ = some (.slice A t.rs.length c) := R0.out.box.cell 0
  have c1 : v0.cell? ⟨nb, 1, none⟩ = some (.int .i64 t.ty) := R0.out.box.cell 1
  have c2 : v0.cell? ⟨nb, 2, none⟩ = some (.string t.ho) := R0.out.box.cell 2
  have c3 : v0.cell? ⟨nb, 3, none⟩ = some (.int .u32 t.ge) := R0.out.box.cell 3
  have c4 : v0.cell? ⟨nb, 4, none⟩ = some (.bool t.ap) := R0.out.box.cell 4
  have m2 : v0.cell? ⟨nb + 1, 2, none⟩ = some (.string m.ho) := R0.out.cmd.cell 2
  go_wp2_with (fail)
  refine (HK.out _ R0.out.own.rgs).mono ?_; rintro e v1 ⟨rfl, hb⟩
  have R1 := Lib.hid (R0.out.below hb)
  clear c0 c1 c2 c3 c4 m2 hb
  have m8 : v1.cell? ⟨nb + 1, 8, none⟩ = some (.int .u64 m.ke) := R1.out.cmd.cell 8
  have m12 : v1.cell? ⟨nb + 1, 12, none⟩ = some (.bool true) := by rw [← hg]; exact R1.out.cmd.cell 12
  go_upto_region 5 with (fail)
  change Code.wp _ _ _ _ (v1.alloc (.cells (tdC none 0 zT none 0 [] 1) 43))
  have hal := (Below.refl v1.heap.size v1).alloc (Nat.le_refl _) (.cells (tdC none 0 zT none 0 [] 1) 43)
  have R2 := Lib.hid (R1.out.below hal); have HTD := Lib.hid (Blk.new v1 43 (tdC none 0 zT none 0 [] 1))
  obtain ⟨pt, hpt⟩ : ∃ pt, pt = v1.heap.size := ⟨_, rfl⟩
  rw [← hpt] at HTD ⊢
  clear hal hpt m8 m12
  generalize v1.alloc (.cells (tdC none 0 zT none 0 [] 1) 43) = v2 at *
  have c0 : v2.cell? ⟨nb, 0, none⟩ = some (.slice A t.rs.length c) := R2.out.box.cell 0
  have c1 : v2.cell? ⟨nb, 1, none⟩ = some (.int .i64 t.ty) := R2.out.box.cell 1
  have c2 : v2.cell? ⟨nb, 2, none⟩ = some (.string t.ho) := R2.out.box.cell 2
  have c3 : v2.cell? ⟨nb, 3, none⟩ = some (.int .u32 t.ge) := R2.out.box.cell 3
  have c4 : v2.cell? ⟨nb, 4, none⟩ = some (.bool t.ap) := R2.out.box.cell 4
  have m9 : v2.cell? ⟨nb + 1, 9, none⟩ = some (.int .u64 m.nk) := R2.out.cmd.cell 9
  have r0 : v2.cell? ⟨nb + 1 + 1, 0, none⟩ = some (.slice none 0 0) := R2.out.res.cell 0
  have q0 : v2.frozen? ⟨nb + 1 + 1, 0, none⟩ = false := R2.out.res.free 0
  have r1 : v2.cell? ⟨nb + 1 + 1, 1, none⟩ = some (.int .i64 0) := R2.out.res.cell 1
  have q1 : v2.frozen? ⟨nb + 1 + 1, 1, none⟩ = false := R2.out.res.free 1
  have r2 : v2.cell? ⟨nb + 1 + 1, 2, none⟩ = some (.string ⟨#[]⟩) := R2.out.res.cell 2
  have q2 : v2.frozen? ⟨nb + 1 + 1, 2, none⟩ = false := R2.out.res.free 2
  have r3 : v2.cell? ⟨nb + 1 + 1, 3, none⟩ = some (.int .u32 0) := R2.out.res.cell 3
  have q3 : v2.frozen? ⟨nb + 1 + 1, 3, none⟩ = false := R2.out.res.free 3
  have r4 : v2.cell? ⟨nb + 1 + 1, 4, none⟩ = some (.bool false) := R2.out.res.cell 4
  have q4 : v2.frozen? ⟨nb + 1 + 1, 4, none⟩ = false := R2.out.res.free 4
  have r5 : v2.cell? ⟨nb + 1 + 1, 5, none⟩ = some (.slice none 0 0) := R2.out.res.cell 5
  have q5 : v2.frozen? ⟨nb + 1 + 1, 5, none⟩ = false := R2.out.res.free 5
  have r6 : v2.cell? ⟨nb + 1 + 1, 6, none⟩ = some (.int .i64 0) := R2.out.res.cell 6
  have q6 : v2.frozen? ⟨nb + 1 + 1, 6, none⟩ = false := R2.out.res.free 6
  go_wp2_with (fail)
  obtain ⟨hK, hO, hB⟩ := td_put R2.out (OwnE.nil _ n0) (8) _ rfl
  refine bodyPost_ret_by (results_cell_row rfl _ _ (nb + 1 + 1) 43 (tdC A c (t) none 0 ([]) (8)) (0, 0) _ rfl hK Tryd.underlying43 rfl size43) rfl ?_
  exact ⟨A, c, none, 0, rfl, hO.1, hO.2, hB⟩
set_option maxRecDepth 100000 in
set_option maxHeartbeats 4000000 in
theorem refReg_full_k (n0 : Nat) (A : Option Addr) (c : Nat) (t : Tl) (m : Cm) (w : World) (ho : Own w n0 A c t.rs) (hn : n0 ≤ w.heap.size) (hm : t.rs.length ≤ 200) (hg : m.ig = false) (hq : (m.ke != keyR t.rs m.ho) = false) (hk : (m.nk != 0) = true) (hw : (keyR t.rs m.ho == 0) = true) (h16 : ((t.rs.length : Int) == 16) = true) :
    Calls Tryd.prog 39 #[tlV A c t, cmV m] w (RdOut n0 w (t) ([]) (8)) := by
  have R0 := Lib.hid (RdAt.from w A c t m ho hn)
  have HM := Lib.hid (show t.rs.length ≤ maxLen by unfold maxLen; omega)
  have HM2 := Lib.hid hm
  have hnt := not_true
  have hnf := not_false
  obtain ⟨nb, hnb⟩ : ∃ nb, nb = w.heap.size := ⟨_, rfl⟩
  clear ho hn hm
  have HK := Lib.hid (fun v (hl2 : Rgs v A t.rs) => refKey_any A c t m.ho v hl2 HM.out)
  go_enter Tryd.func39, Tryd.ntmps39
  go_upto_region 1 with (fail)
  change Code.wp _ _ _ _ (((w.alloc (.cells (tlC A c t) 27)).alloc (.cells (cmC m) 37)).alloc (.cells tdZ 43))
  generalize ((w.alloc (.cells (tlC A c t) 27)).alloc (.cells (cmC m) 37)).alloc (.cells tdZ 43) = v0 at *
  rw [← hnb] at R0 ⊢
  clear hnb
  have c0 : v0.cell? ⟨nb, 0, none⟩ = some (.slice A t.rs.length c) := R0.out.box.cell 0
  have c1 : v0.cell? ⟨nb, 1, none⟩ = some (.int .i64 t.ty) := R0.out.box.cell 1
  have c2 : v0.cell? ⟨nb, 2, none⟩ = some (.string t.ho) := R0.out.box.cell 2
  have c3 : v0.cell? ⟨nb, 3, none⟩ = some (.int .u32 t.ge) := R0.out.box.cell 3
  have c4 : v0.cell? ⟨nb, 4, none⟩ = some (.bool t.ap) := R0.out.box.cell 4
  have m2 : v0.cell? ⟨nb + 1, 2, none⟩ = some (.string m.ho) := R0.out.cmd.cell 2
  go_wp2_with (fail)
  refine (HK.out _ R0.out.own.rgs).mono ?_; rintro e v1 ⟨rfl, hb⟩
  have R1 := Lib.hid (R0.out.below hb)
  clear c0 c1 c2 c3 c4 m2 hb
  have m8 : v1.cell? ⟨nb + 1, 8, none⟩ = some (.int .u64 m.ke) := R1.out.cmd.cell 8
  have m12 : v1.cell? ⟨nb + 1, 12, none⟩ = some (.bool false) := by rw [← hg]; exact R1.out.cmd.cell 12
  go_upto_region 5 with (fail)
  change Code.wp _ _ _ _ (v1.alloc (.cells (tdC none 0 zT none 0 [] 1) 43))
  have hal := (Below.refl v1.heap.size v1).alloc (Nat.le_refl _) (.cells (tdC none 0 zT none 0 [] 1) 43)
  have R2 := Lib.hid (R1.out.below hal); have HTD := Lib.hid (Blk.new v1 43 (tdC none 0 zT none 0 [] 1))
  obtain ⟨pt, hpt⟩ : ∃ pt, pt = v1.heap.size := ⟨_, rfl⟩
  rw [← hpt] at HTD ⊢
  clear hal hpt m8 m12
  generalize v1.alloc (.cells (tdC none 0 zT none 0 [] 1) 43) = v2 at *
  have c0 : v2.cell? ⟨nb, 0, none⟩ = some (.slice A t.rs.length c) := R2.out.box.cell 0
  have c1 : v2.cell? ⟨nb, 1, none⟩ = some (.int .i64 t.ty) := R2.out.box.cell 1
  have c2 : v2.cell? ⟨nb, 2, none⟩ = some (.string t.ho) := R2.out.box.cell 2
  have c3 : v2.cell? ⟨nb, 3, none⟩ = some (.int .u32 t.ge) := R2.out.box.cell 3
  have c4 : v2.cell? ⟨nb, 4, none⟩ = some (.bool t.ap) := R2.out.box.cell 4
  have m9 : v2.cell? ⟨nb + 1, 9, none⟩ = some (.int .u64 m.nk) := R2.out.cmd.cell 9
  have r0 : v2.cell? ⟨nb + 1 + 1, 0, none⟩ = some (.slice none 0 0) := R2.out.res.cell 0
  have q0 : v2.frozen? ⟨nb + 1 + 1, 0, none⟩ = false := R2.out.res.free 0
  have r1 : v2.cell? ⟨nb + 1 + 1, 1, none⟩ = some (.int .i64 0) := R2.out.res.cell 1
  have q1 : v2.frozen? ⟨nb + 1 + 1, 1, none⟩ = false := R2.out.res.free 1
  have r2 : v2.cell? ⟨nb + 1 + 1, 2, none⟩ = some (.string ⟨#[]⟩) := R2.out.res.cell 2
  have q2 : v2.frozen? ⟨nb + 1 + 1, 2, none⟩ = false := R2.out.res.free 2
  have r3 : v2.cell? ⟨nb + 1 + 1, 3, none⟩ = some (.int .u32 0) := R2.out.res.cell 3
  have q3 : v2.frozen? ⟨nb + 1 + 1, 3, none⟩ = false := R2.out.res.free 3
  have r4 : v2.cell? ⟨nb + 1 + 1, 4, none⟩ = some (.bool false) := R2.out.res.cell 4
  have q4 : v2.frozen? ⟨nb + 1 + 1, 4, none⟩ = false := R2.out.res.free 4
  have r5 : v2.cell? ⟨nb + 1 + 1, 5, none⟩ = some (.slice none 0 0) := R2.out.res.cell 5
  have q5 : v2.frozen? ⟨nb + 1 + 1, 5, none⟩ = false := R2.out.res.free 5
  have r6 : v2.cell? ⟨nb + 1 + 1, 6, none⟩ = some (.int .i64 0) := R2.out.res.cell 6
  have q6 : v2.frozen? ⟨nb + 1 + 1, 6, none⟩ = false := R2.out.res.free 6
  go_wp2_with (fail)
  obtain ⟨hK, hO, hB⟩ := td_put R2.out (OwnE.nil _ n0) (8) _ rfl
  refine bodyPost_ret_by (results_cell_row rfl _ _ (nb + 1 + 1) 43 (tdC A c (t) none 0 ([]) (8)) (0, 0) _ rfl hK Tryd.underlying43 rfl size43) rfl ?_
  exact ⟨A, c, none, 0, rfl, hO.1, hO.2, hB⟩
set_option maxRecDepth 100000 in
set_option maxHeartbeats 4000000 in
theorem refReg_conflict (n0 : Nat) (A : Option Addr) (c : Nat) (t : Tl) (m : Cm) (w : World) (ho : Own w n0 A c t.rs) (hn : n0 ≤ w.heap.size) (hm : t.rs.length ≤ 200) (hg : m.ig = false) (hq : (m.ke != keyR t.rs m.ho) = true) :
    Calls Tryd.prog 39 #[tlV A c t, cmV m] w (RdOut n0 w (t) ([]) (2)) := by
  have R0 := Lib.hid (RdAt.from w A c t m ho hn)
  have HM := Lib.hid (show t.rs.length ≤ maxLen by unfold maxLen; omega)
  have HM2 := Lib.hid hm
  have hnt := not_true
  have hnf := not_false
  obtain ⟨nb, hnb⟩ : ∃ nb, nb = w.heap.size := ⟨_, rfl⟩
  clear ho hn hm
  have HK := Lib.hid (fun v (hl2 : Rgs v A t.rs) => refKey_any A c t m.ho v hl2 HM.out)
  go_enter Tryd.func39, Tryd.ntmps39
  go_upto_region 1 with (fail)
  change Code.wp _ _ _ _ (((w.alloc (.cells (tlC A c t) 27)).alloc (.cells (cmC m) 37)).alloc (.cells tdZ 43))
  generalize ((w.alloc (.cells (tlC A c t) 27)).alloc (.cells (cmC m) 37)).alloc (.cells tdZ 43) = v0 at *
  rw [← hnb] at R0 ⊢
  clear hnb
  have c0 : v0.cell? ⟨nb, 0, none⟩ = some (.slice A t.rs.length c) := R0.out.box.cell 0
  have c1 : v0.cell? ⟨nb, 1, none⟩ = some (.int .i64 t.ty) := R0.out.box.cell 1
  have c2 : v0.cell? ⟨nb, 2, none⟩ = some (.string t.ho) := R0.out.box.cell 2
  have c3 : v0.cell? ⟨nb, 3, none⟩ = some (.int .u32 t.ge) := R0.out.box.cell 3
  have c4 : v0.cell? ⟨nb, 4, none⟩ = some (.bool t.ap) := R0.out.box.cell 4
  have m2 : v0.cell? ⟨nb + 1, 2, none⟩ = some (.string m.ho) := R0.out.cmd.cell 2
  go_wp2_with (fail)
  refine (HK.out _ R0.out.own.rgs).mono ?_; rintro e v1 ⟨rfl, hb⟩
  have R1 := Lib.hid (R0.out.below hb)
  clear c0 c1 c2 c3 c4 m2 hb
  have c0 : v1.cell? ⟨nb, 0, none⟩ = some (.slice A t.rs.length c) := R1.out.box.cell 0
  have c1 : v1.cell? ⟨nb, 1, none⟩ = some (.int .i64 t.ty) := R1.out.box.cell 1
  have c2 : v1.cell? ⟨nb, 2, none⟩ = some (.string t.ho) := R1.out.box.cell 2
  have c3 : v1.cell? ⟨nb, 3, none⟩ = some (.int .u32 t.ge) := R1.out.box.cell 3
  have c4 : v1.cell? ⟨nb, 4, none⟩ = some (.bool t.ap) := R1.out.box.cell 4
  have m8 : v1.cell? ⟨nb + 1, 8, none⟩ = some (.int .u64 m.ke) := R1.out.cmd.cell 8
  have m12 : v1.cell? ⟨nb + 1, 12, none⟩ = some (.bool false) := by rw [← hg]; exact R1.out.cmd.cell 12
  have r0 : v1.cell? ⟨nb + 1 + 1, 0, none⟩ = some (.slice none 0 0) := R1.out.res.cell 0
  have q0 : v1.frozen? ⟨nb + 1 + 1, 0, none⟩ = false := R1.out.res.free 0
  have r1 : v1.cell? ⟨nb + 1 + 1, 1, none⟩ = some (.int .i64 0) := R1.out.res.cell 1
  have q1 : v1.frozen? ⟨nb + 1 + 1, 1, none⟩ = false := R1.out.res.free 1
  have r2 : v1.cell? ⟨nb + 1 + 1, 2, none⟩ = some (.string ⟨#[]⟩) := R1.out.res.cell 2
  have q2 : v1.frozen? ⟨nb + 1 + 1, 2, none⟩ = false := R1.out.res.free 2
  have r3 : v1.cell? ⟨nb + 1 + 1, 3, none⟩ = some (.int .u32 0) := R1.out.res.cell 3
  have q3 : v1.frozen? ⟨nb + 1 + 1, 3, none⟩ = false := R1.out.res.free 3
  have r4 : v1.cell? ⟨nb + 1 + 1, 4, none⟩ = some (.bool false) := R1.out.res.cell 4
  have q4 : v1.frozen? ⟨nb + 1 + 1, 4, none⟩ = false := R1.out.res.free 4
  have r5 : v1.cell? ⟨nb + 1 + 1, 5, none⟩ = some (.slice none 0 0) := R1.out.res.cell 5
  have q5 : v1.frozen? ⟨nb + 1 + 1, 5, none⟩ = false := R1.out.res.free 5
  have r6 : v1.cell? ⟨nb + 1 + 1, 6, none⟩ = some (.int .i64 0) := R1.out.res.cell 6
  have q6 : v1.frozen? ⟨nb + 1 + 1, 6, none⟩ = false := R1.out.res.free 6
  go_wp2_with (fail)
  obtain ⟨hK, hO, hB⟩ := td_put R1.out (OwnE.nil v1 n0) (2) _ rfl
  refine bodyPost_ret_by (results_cell_row rfl _ _ (nb + 1 + 1) 43 (tdC A c (t) none 0 ([]) (2)) (0, 0) _ rfl hK Tryd.underlying43 rfl size43) rfl ?_
  exact ⟨A, c, none, 0, rfl, hO.1, hO.2, hB⟩
end Go.Proofs.YtgekadfkokkapaaDoor
