/- A state is begun: its frame, and then its head. Append. Checkpoint. Format. -/
import Derived.Test.YtglfjlbhjaemgaaGreatDoorPl21
import Derived.Deep.RegionLaw
namespace Go.Proofs.YtglfjlbhjaemgaaGreatDoor
open Go.RowKit
theorem wrap_opU (k : Nat) (h : k ≤ 1099511627776) : (Op.intArith .add .u64 (k : Int) 1).run Tryz.prog = fun w => .ok (.int .u64 ((k : Int) + 1)) w := by
  funext w
  have : IntKind.u64.wrap ((k : Int) + 1) = (k : Int) + 1 := by rw [IntKind.wrap_u64]; omega
  simp [go_sem, this]
theorem uadd_any (w : World) (p o k : Nat) (h : w.cell? ⟨p, o, none⟩ = some (.int .u64 (k : Int))) (hz : w.frozen? ⟨p, o, none⟩ = false) (hk : k ≤ 1099511627776) (N : Nat) (hN : N = k + 1) :
    Calls Tryz.prog 125 #[.pointer (some ⟨p, o, none⟩), .int .u64 1] w fun e w' => e = .returned (.int .u64 (N : Int)) ∧ w.setCell ⟨p, o, none⟩ (.int .u64 (N : Int)) = w' := by
  rw [show (N : Int) = (k : Int) + 1 by omega]
  clear hN
  have ha := run_call_add (P := Tryz.prog) Tryz.func166 (by kernel_rfl) (by kernel_rfl) (by kernel_rfl) .u64 (by kernel_rfl) (y := 1) (s := (k : Int) + 1) h hz (by rw [wrap_opU k hk])
  clear hk
  go_enter Tryz.func125, Tryz.ntmps125
  go_wp2
  go_ret
  exact ⟨rfl, rfl⟩
theorem wr_ops (i : Nat) (s : ByteArray) : ∀ (m k : Nat) (x : St), (x.wr i s k m).1.ops ≤ x.ops + m
  | 0, k, x => by simp [St.wr]
  | m + 1, k, x => by
    unfold St.wr
    split
    · show x.ops ≤ _; omega
    · have := wr_ops i s m (k + 1) (x.oped.hold (i + k) (sec s k))
      have e : (x.oped.hold (i + k) (sec s k)).ops = x.ops + 1 := rfl
      omega
theorem put_ops (x : St) (i m : Nat) (s : ByteArray) : (x.put i s m).1.ops ≤ x.ops + m := by
  unfold St.put
  split
  · simp
  · exact wr_ops i s m 0 x
theorem flsh_ops (x : St) : x.flsh.1.ops ≤ x.ops + 1 := by
  unfold St.flsh
  split
  · simp
  · split
    · simp [St.fall]
    · simp [St.flushed, St.oped]
def Jn.body (j : Jn) (x : St) (t : ByteArray) (half behind : Nat) : St × Bool := x.put (halfAt j.fr j.se half + behind) (putS (j.num + 1) t) (secF t.size)
def Jn.head (j : Jn) (x : St) (half recs : Nat) : St × Bool := x.put (slotAt j.fr (j.num + 1)) (hdS (j.num + 1) j.fr j.se half recs) 1
/-- What the device is when a state was begun, and whether it was. -/
def Jn.enter (j : Jn) (x : St) (t : ByteArray) (half behind recs : Nat) : St × Bool :=
  if (j.body x t half behind).2 then (if (j.body x t half behind).1.flsh.2 then j.head (j.body x t half behind).1.flsh.1 half recs else (j.body x t half behind).1.flsh) else j.body x t half behind
def Jn.begun (j : Jn) (b : Bool) : Jn := { j with num := j.num + 1, unfit := !b }
theorem enter_no1 {j : Jn} {x : St} {t : ByteArray} {half behind recs : Nat} (h : (j.body x t half behind).2 = false) : j.enter x t half behind recs = ((j.body x t half behind).1, false) := by
  unfold Jn.enter
  rw [if_neg (by simp [h]), ← h]
theorem enter_no2 {j : Jn} {x : St} {t : ByteArray} {half behind recs : Nat} (h : (j.body x t half behind).2 = true) (h2 : (j.body x t half behind).1.flsh.2 = false) : j.enter x t half behind recs = ((j.body x t half behind).1.flsh.1, false) := by
  unfold Jn.enter
  rw [if_pos h, if_neg (by simp [h2]), ← h2]
theorem enter_yes {j : Jn} {x : St} {t : ByteArray} {half behind recs : Nat} (h : (j.body x t half behind).2 = true) (h2 : (j.body x t half behind).1.flsh.2 = true) : j.enter x t half behind recs = j.head (j.body x t half behind).1.flsh.1 half recs := by
  unfold Jn.enter
  rw [if_pos h, if_pos h2]
theorem enter_ops (j : Jn) (x : St) (t : ByteArray) (half behind recs : Nat) : (j.enter x t half behind recs).1.ops ≤ x.ops + secF t.size + 2 := by
  have h1 : (j.body x t half behind).1.ops ≤ x.ops + secF t.size := put_ops ..
  have h2 := flsh_ops (j.body x t half behind).1
  have h3 : (j.head (j.body x t half behind).1.flsh.1 half recs).1.ops ≤ (j.body x t half behind).1.flsh.1.ops + 1 := put_ops ..
  unfold Jn.enter
  split
  · split <;> omega
  · omega
theorem hdS_size (n fr se half recs : Nat) : (hdS n fr se half recs).size = 512 := by
  unfold hdS padB
  rw [ByteArray.size_append, ByteArray.size_append, putHi8, hdPre_size, zeros_size]
theorem half_room {j : Jn} {n half behind m : Nat} (hse : 8 ≤ j.se) (hfr : j.fr + j.se ≤ n) (hh : half ≤ 1) (hb : behind + m ≤ j.size) : halfAt j.fr j.se half + behind + m ≤ n := by
  have hz : j.size = (j.se - 4) / 2 := rfl
  have : half * hsz j.se ≤ 1 * hsz j.se := Nat.mul_le_mul_right _ hh
  have hz2 : hsz j.se = (j.se - 4) / 2 := rfl
  unfold halfAt
  omega
theorem slot_room {j : Jn} {n k : Nat} (hse : 8 ≤ j.se) (hfr : j.fr + j.se ≤ n) : slotAt j.fr k + 1 ≤ n := by unfold slotAt; omega
/-- The cells of a journal's area. -/
theorem jd_area {w : World} {S : Nat → Prop} {p q n : Nat} {x : St} {j : Jn} (h : JD w S p q n x j) :
    w.cell? ⟨q, 0, none⟩ = some (.pointer (some ⟨p, 0, none⟩)) ∧ w.cell? ⟨q, 1, none⟩ = some (.int .i64 (j.fr : Int)) ∧ w.cell? ⟨q, 2, none⟩ = some (.int .i64 (j.se : Int)) := by
  obtain ⟨rv, hb, _, _⟩ := h.cells
  exact ⟨hb.cell 0, hb.cell 1, hb.cell 2⟩
structure Asked (w : World) (S : Nat → Prop) (p q n : Nat) (x : St) (j : Jn) (t : ByteArray) (half behind recs : Nat) : Prop where
  jd : JD w S p q n x j
  se : 8 ≤ j.se
  fr : j.fr + j.se ≤ n
  half : half ≤ 1
  room : behind + secF t.size ≤ j.size
  long : t.size ≤ 65536
  recs : recs < 4294967296
  fit : j.unfit = false
  ops : x.ops ≤ 100000000000
  num : j.num ≤ 100000000000
theorem fit_same {j : Jn} (h : j.unfit = false) : ({ j with unfit := !true } : Jn) = j := by cases j; cases h; rfl
set_option maxRecDepth 100000 in
set_option maxHeartbeats 1600000 in
theorem enter_a (w : World) {S : Nat → Prop} {p q n : Nat} {x : St} {j : Jn} {t : ByteArray} {half behind recs : Nat} (h : Asked w S p q n x j t half behind recs) (h1 : (j.body x t half behind).2 = false) :
    Calls Tryz.prog 161 #[.pointer (some ⟨q, 0, none⟩), .string t, .int .i64 (half : Int), .int .i64 (behind : Int), .int .i64 (recs : Int)] w fun e w' =>
      e = .returned (.int .i64 (wrCode (j.enter x t half behind recs).2)) ∧ JOut S w p q n (j.enter x t half behind recs).1 (j.begun (j.enter x t half behind recs).2) w' := by
  have HE := Lib.hid (enter_no1 (recs := recs) h1)
  have hm := h.jd.good.most
  have lt := h.long
  have hroom := half_room h.se h.fr h.half h.room
  have hslot := slot_room (k := j.num + 1) h.se h.fr
  obtain ⟨rv, hb, _, _⟩ := h.jd.cells
  have c3 : w.cell? ⟨q, 3, none⟩ = some (.int .u64 (j.num : Int)) := hb.cell 3
  have f3 := hb.free 3
  obtain ⟨N, hN⟩ : ∃ N, N = j.num + 1 := ⟨_, rfl⟩
  obtain ⟨j1, hj1⟩ : ∃ j1 : Jn, j1 = { j with num := N } := ⟨_, rfl⟩
  have HU := Lib.hid (fun v hc hz => uadd_any v q 3 j.num hc hz (by have := h.num; omega) N hN)
  have J1 := Lib.hid (h.jd.set 3 (.int .u64 (N : Int)) j1 (fun _ => by subst hj1; simp [jCells]) (by subst hj1; rfl))
  have hsz := putS_size N t
  have e1 : j1.fr = j.fr := by subst hj1; rfl
  have e2 : j1.se = j.se := by subst hj1; rfl
  have e3 : j1.unfit = false := by subst hj1; exact h.fit
  obtain ⟨r1, hr1⟩ : ∃ r, r = j.body x t half behind := ⟨_, rfl⟩
  have hr1' : r1 = x.put (halfAt j.fr j.se half + behind) (putS N t) (secF t.size) := by rw [hr1, hN]; rfl
  have ops1 : r1.1.ops ≤ x.ops + secF t.size := by rw [hr1']; exact put_ops ..
  obtain ⟨r2, hr2⟩ : ∃ r, r = r1.1.flsh := ⟨_, rfl⟩
  have ops2 : r2.1.ops ≤ r1.1.ops + 1 := by rw [hr2]; exact flsh_ops ..
  have hopsx := h.ops
  have hfs : secF t.size ≤ 130 := by unfold secF; omega
  have hwA : IntKind.i64.wrap ((halfAt j.fr j.se half : Int) + (behind : Int)) = (halfAt j.fr j.se half : Int) + (behind : Int) := i64w _ (by omega)
  have HA := Lib.hid h
  have HR1 := Lib.hid hr1
  have HR2 := Lib.hid hr2
  have H1 := Lib.hid h1
  clear hb h hr1 hr2 h1
  obtain ⟨at1, hat1⟩ : ∃ a, a = halfAt j.fr j.se half + behind := ⟨_, rfl⟩
  have hatI : (halfAt j.fr j.se half : Int) + (behind : Int) = (at1 : Int) := by omega
  rw [← hat1] at hr1'
  rw [hatI] at hwA
  have HP := Lib.hid hr1'
  have HI := Lib.hid hatI
  clear hr1' hatI
  have HN := Lib.hid hN
  have HJ := Lib.hid hj1
  have HT1 := Lib.hid hat1
  clear hN hj1 hat1
  go_enter Tryz.func161, Tryz.ntmps161
  go_wp2_with (fail)
  refine (HU.out _ c3 f3).mono ?_
  rintro e w1 ⟨rfl, hw1⟩
  have J2 := Lib.hid (hw1 ▸ J1.out)
  clear hw1 c3 f3 J1
  obtain ⟨S1, d1, o1, g1⟩ := J2.out
  have hBnew := Blk.new w1 232 #[.int .u64 (N : Int), .int .i64 (half : Int), .int .i64 (recs : Int)]
  have hBel := (Below.refl w1.heap.size w1).alloc (Nat.le_refl _) (.cells #[.int .u64 (N : Int), .int .i64 (half : Int), .int .i64 (recs : Int)] 232)
  have n1 : ¬ S1 w1.heap.size := fun hk => Nat.lt_irrefl _ (d1.lt _ hk)
  have D1 := Lib.hid (d1.below hBel)
  have O1 := Lib.hid (o1.below hBel)
  have G1 := Lib.hid g1
  have HB := Lib.hid hBnew
  have hs1 := hBel.size
  have N1 := Lib.hid n1
  have h0 := hBnew.cell 0
  clear d1 o1 g1 J2 hBel n1 hBnew
  go_wp2_with (fail)
  refine (put_ok N t _ lt D1.out.tab).mono ?_
  rintro e w2 ⟨rfl, hb2⟩
  have D2 := Lib.hid (D1.out.below hb2)
  have O2 := Lib.hid (O1.out.below hb2)
  have B2 := Lib.hid (HB.out.below hb2 HB.out.lt)
  obtain ⟨a0, a1, a2⟩ := jd_area D2.out
  rw [e1] at a1
  rw [e2] at a2
  have lb2 := B2.out.lt
  clear hb2 D1 O1 HB h0
  go_wp2_with (fail)
  refine (half_area _ p j.fr j.se half HA.out.se (by have := HA.out.fr; omega) HA.out.half).mono ?_
  rintro e w3 ⟨rfl, hb3⟩
  have D3 := Lib.hid (D2.out.below hb3)
  have O3 := Lib.hid (O2.out.below hb3)
  have B3 := Lib.hid (B2.out.below hb3 B2.out.lt)
  clear hb3 D2 O2 B2 a0 a1 a2 lb2
  go_wp2_with (fail)
  rw [HI.out]
  refine (jwrite_fit _ D3.out e3 (by omega) at1 (secF t.size) (putS N t) (by omega) (by have := HT1.out; omega)).mono ?_
  rintro e w4 ⟨rfl, hv⟩
  rw [← HP.out] at hv ⊢
  obtain ⟨S4, d4, o4, g4⟩ := hv
  have n4 : ¬ S1 w1.heap.size := N1.out
  have D4 := Lib.hid d4
  have O4 := Lib.hid (O3.out.go G1.out o4)
  have G4 := Lib.hid (G1.out.trans g4 O3.out.size)
  have B4 := Lib.hid (B3.out.only o4 n4)
  have N4 := Lib.hid (show ¬ S4 w1.heap.size from fun hk => (g4 _ hk).elim n4 (fun h' => by have := B3.out.lt; omega))
  clear d4 o4 g4 n4 D3 O3 B3 G1 N1
  have e1f : r1.2 = false := by rw [HR1.out]; exact H1.out
  rw [e1f] at D4 ⊢
  have HF := Lib.hid (show JOut S w p q n (j.enter x t half behind recs).1 (j.begun (j.enter x t half behind recs).2) w4 by
    rw [HE.out, ← HR1.out]
    have : j.begun false = { j1 with unfit := !false } := by rw [HJ.out, HN.out]; rfl
    rw [this]
    exact ⟨S4, D4.out, O4.out, G4.out⟩)
  have HV := Lib.hid (show (j.enter x t half behind recs).2 = false by rw [HE.out])
  rw [show wrCode false = 41 from rfl]
  go_wp2_with (fail)
  go_ret
  exact ⟨by rw [HV.out]; rfl, HF.out⟩
set_option maxRecDepth 100000 in
set_option maxHeartbeats 1600000 in
theorem enter_b (w : World) {S : Nat → Prop} {p q n : Nat} {x : St} {j : Jn} {t : ByteArray} {half behind recs : Nat} (h : Asked w S p q n x j t half behind recs) (h1 : (j.body x t half behind).2 = true) (h2 : (j.body x t half behind).1.flsh.2 = false) :
    Calls Tryz.prog 161 #[.pointer (some ⟨q, 0, none⟩), .string t, .int .i64 (half : Int), .int .i64 (behind : Int), .int .i64 (recs : Int)] w fun e w' =>
      e = .returned (.int .i64 (wrCode (j.enter x t half behind recs).2)) ∧ JOut S w p q n (j.enter x t half behind recs).1 (j.begun (j.enter x t half behind recs).2) w' := by
  have HE := Lib.hid (enter_no2 (recs := recs) h1 h2)
  have hm := h.jd.good.most
  have lt := h.long
  have hroom := half_room h.se h.fr h.half h.room
  have hslot := slot_room (k := j.num + 1) h.se h.fr
  obtain ⟨rv, hb, _, _⟩ := h.jd.cells
  have c3 : w.cell? ⟨q, 3, none⟩ = some (.int .u64 (j.num : Int)) := hb.cell 3
  have f3 := hb.free 3
  obtain ⟨N, hN⟩ : ∃ N, N = j.num + 1 := ⟨_, rfl⟩
  obtain ⟨j1, hj1⟩ : ∃ j1 : Jn, j1 = { j with num := N } := ⟨_, rfl⟩
  have HU := Lib.hid (fun v hc hz => uadd_any v q 3 j.num hc hz (by have := h.num; omega) N hN)
  have J1 := Lib.hid (h.jd.set 3 (.int .u64 (N : Int)) j1 (fun _ => by subst hj1; simp [jCells]) (by subst hj1; rfl))
  have hsz := putS_size N t
  have e1 : j1.fr = j.fr := by subst hj1; rfl
  have e2 : j1.se = j.se := by subst hj1; rfl
  have e3 : j1.unfit = false := by subst hj1; exact h.fit
  obtain ⟨r1, hr1⟩ : ∃ r, r = j.body x t half behind := ⟨_, rfl⟩
  have hr1' : r1 = x.put (halfAt j.fr j.se half + behind) (putS N t) (secF t.size) := by rw [hr1, hN]; rfl
  have ops1 : r1.1.ops ≤ x.ops + secF t.size := by rw [hr1']; exact put_ops ..
  obtain ⟨r2, hr2⟩ : ∃ r, r = r1.1.flsh := ⟨_, rfl⟩
  have ops2 : r2.1.ops ≤ r1.1.ops + 1 := by rw [hr2]; exact flsh_ops ..
  have hopsx := h.ops
  have hfs : secF t.size ≤ 130 := by unfold secF; omega
  have hwA : IntKind.i64.wrap ((halfAt j.fr j.se half : Int) + (behind : Int)) = (halfAt j.fr j.se half : Int) + (behind : Int) := i64w _ (by omega)
  have HA := Lib.hid h
  have HR1 := Lib.hid hr1
  have HR2 := Lib.hid hr2
  have H1 := Lib.hid h1
  have H2 := Lib.hid h2
  clear hb h hr1 hr2 h1 h2
  obtain ⟨at1, hat1⟩ : ∃ a, a = halfAt j.fr j.se half + behind := ⟨_, rfl⟩
  have hatI : (halfAt j.fr j.se half : Int) + (behind : Int) = (at1 : Int) := by omega
  rw [← hat1] at hr1'
  rw [hatI] at hwA
  have HP := Lib.hid hr1'
  have HI := Lib.hid hatI
  clear hr1' hatI
  have HN := Lib.hid hN
  have HJ := Lib.hid hj1
  have HT1 := Lib.hid hat1
  clear hN hj1 hat1
  go_enter Tryz.func161, Tryz.ntmps161
  go_wp2_with (fail)
  refine (HU.out _ c3 f3).mono ?_
  rintro e w1 ⟨rfl, hw1⟩
  have J2 := Lib.hid (hw1 ▸ J1.out)
  clear hw1 c3 f3 J1
  obtain ⟨S1, d1, o1, g1⟩ := J2.out
  have hBnew := Blk.new w1 232 #[.int .u64 (N : Int), .int .i64 (half : Int), .int .i64 (recs : Int)]
  have hBel := (Below.refl w1.heap.size w1).alloc (Nat.le_refl _) (.cells #[.int .u64 (N : Int), .int .i64 (half : Int), .int .i64 (recs : Int)] 232)
  have n1 : ¬ S1 w1.heap.size := fun hk => Nat.lt_irrefl _ (d1.lt _ hk)
  have D1 := Lib.hid (d1.below hBel)
  have O1 := Lib.hid (o1.below hBel)
  have G1 := Lib.hid g1
  have HB := Lib.hid hBnew
  have hs1 := hBel.size
  have N1 := Lib.hid n1
  have h0 := hBnew.cell 0
  clear d1 o1 g1 J2 hBel n1 hBnew
  go_wp2_with (fail)
  refine (put_ok N t _ lt D1.out.tab).mono ?_
  rintro e w2 ⟨rfl, hb2⟩
  have D2 := Lib.hid (D1.out.below hb2)
  have O2 := Lib.hid (O1.out.below hb2)
  have B2 := Lib.hid (HB.out.below hb2 HB.out.lt)
  obtain ⟨a0, a1, a2⟩ := jd_area D2.out
  rw [e1] at a1
  rw [e2] at a2
  have lb2 := B2.out.lt
  clear hb2 D1 O1 HB h0
  go_wp2_with (fail)
  refine (half_area _ p j.fr j.se half HA.out.se (by have := HA.out.fr; omega) HA.out.half).mono ?_
  rintro e w3 ⟨rfl, hb3⟩
  have D3 := Lib.hid (D2.out.below hb3)
  have O3 := Lib.hid (O2.out.below hb3)
  have B3 := Lib.hid (B2.out.below hb3 B2.out.lt)
  clear hb3 D2 O2 B2 a0 a1 a2 lb2
  go_wp2_with (fail)
  rw [HI.out]
  refine (jwrite_fit _ D3.out e3 (by omega) at1 (secF t.size) (putS N t) (by omega) (by have := HT1.out; omega)).mono ?_
  rintro e w4 ⟨rfl, hv⟩
  rw [← HP.out] at hv ⊢
  obtain ⟨S4, d4, o4, g4⟩ := hv
  have n4 : ¬ S1 w1.heap.size := N1.out
  have D4 := Lib.hid d4
  have O4 := Lib.hid (O3.out.go G1.out o4)
  have G4 := Lib.hid (G1.out.trans g4 O3.out.size)
  have B4 := Lib.hid (B3.out.only o4 n4)
  have N4 := Lib.hid (show ¬ S4 w1.heap.size from fun hk => (g4 _ hk).elim n4 (fun h' => by have := B3.out.lt; omega))
  clear d4 o4 g4 n4 D3 O3 B3 G1 N1
  have e1t : r1.2 = true := by rw [HR1.out]; exact H1.out
  rw [e1t] at D4 ⊢
  have e4 : ({ j1 with unfit := !true } : Jn) = j1 := fit_same e3
  rw [e4] at D4
  clear e4
  rw [show wrCode true = 0 from rfl]
  go_wp2_with (fail)
  refine (jflush_fit _ D4.out e3 (by omega)).mono ?_
  rintro e w5 ⟨rfl, hv⟩
  rw [← HR2.out] at hv ⊢
  obtain ⟨S5, d5, o5, g5⟩ := hv
  have D5 := Lib.hid d5
  have O5 := Lib.hid (O4.out.go G4.out o5)
  have G5 := Lib.hid (G4.out.trans g5 O4.out.size)
  have B5 := Lib.hid (B4.out.only o5 N4.out)
  have N5 := Lib.hid (show ¬ S5 w1.heap.size from fun hk => (g5 _ hk).elim N4.out (fun h' => by have := B4.out.lt; omega))
  clear d5 o5 g5 D4 O4 B4 G4 N4
  have e2f : r2.2 = false := by rw [HR2.out, HR1.out]; exact H2.out
  rw [e2f] at D5 ⊢
  have HF := Lib.hid (show JOut S w p q n (j.enter x t half behind recs).1 (j.begun (j.enter x t half behind recs).2) w5 by
    rw [HE.out, ← HR1.out, ← HR2.out]
    have : j.begun false = { j1 with unfit := !false } := by rw [HJ.out, HN.out]; rfl
    rw [this]
    exact ⟨S5, D5.out, O5.out, G5.out⟩)
  have HV := Lib.hid (show (j.enter x t half behind recs).2 = false by rw [HE.out])
  rw [show wrCode false = 41 from rfl]
  go_wp2_with (fail)
  go_ret
  exact ⟨by rw [HV.out]; rfl, HF.out⟩
set_option maxRecDepth 100000 in
set_option maxHeartbeats 1600000 in
theorem enter_c (w : World) {S : Nat → Prop} {p q n : Nat} {x : St} {j : Jn} {t : ByteArray} {half behind recs : Nat} (h : Asked w S p q n x j t half behind recs) (h1 : (j.body x t half behind).2 = true) (h2 : (j.body x t half behind).1.flsh.2 = true) :
    Calls Tryz.prog 161 #[.pointer (some ⟨q, 0, none⟩), .string t, .int .i64 (half : Int), .int .i64 (behind : Int), .int .i64 (recs : Int)] w fun e w' =>
      e = .returned (.int .i64 (wrCode (j.enter x t half behind recs).2)) ∧ JOut S w p q n (j.enter x t half behind recs).1 (j.begun (j.enter x t half behind recs).2) w' := by
  have HE := Lib.hid (enter_yes (recs := recs) h1 h2)
  have hm := h.jd.good.most
  have lt := h.long
  have hroom := half_room h.se h.fr h.half h.room
  have hslot := slot_room (k := j.num + 1) h.se h.fr
  obtain ⟨rv, hb, _, _⟩ := h.jd.cells
  have c3 : w.cell? ⟨q, 3, none⟩ = some (.int .u64 (j.num : Int)) := hb.cell 3
  have f3 := hb.free 3
  obtain ⟨N, hN⟩ : ∃ N, N = j.num + 1 := ⟨_, rfl⟩
  obtain ⟨j1, hj1⟩ : ∃ j1 : Jn, j1 = { j with num := N } := ⟨_, rfl⟩
  have HU := Lib.hid (fun v hc hz => uadd_any v q 3 j.num hc hz (by have := h.num; omega) N hN)
  have J1 := Lib.hid (h.jd.set 3 (.int .u64 (N : Int)) j1 (fun _ => by subst hj1; simp [jCells]) (by subst hj1; rfl))
  have hsz := putS_size N t
  have e1 : j1.fr = j.fr := by subst hj1; rfl
  have e2 : j1.se = j.se := by subst hj1; rfl
  have e3 : j1.unfit = false := by subst hj1; exact h.fit
  obtain ⟨r1, hr1⟩ : ∃ r, r = j.body x t half behind := ⟨_, rfl⟩
  have hr1' : r1 = x.put (halfAt j.fr j.se half + behind) (putS N t) (secF t.size) := by rw [hr1, hN]; rfl
  have ops1 : r1.1.ops ≤ x.ops + secF t.size := by rw [hr1']; exact put_ops ..
  obtain ⟨r2, hr2⟩ : ∃ r, r = r1.1.flsh := ⟨_, rfl⟩
  have ops2 : r2.1.ops ≤ r1.1.ops + 1 := by rw [hr2]; exact flsh_ops ..
  have hopsx := h.ops
  have hfs : secF t.size ≤ 130 := by unfold secF; omega
  have hwA : IntKind.i64.wrap ((halfAt j.fr j.se half : Int) + (behind : Int)) = (halfAt j.fr j.se half : Int) + (behind : Int) := i64w _ (by omega)
  have HA := Lib.hid h
  have HR1 := Lib.hid hr1
  have HR2 := Lib.hid hr2
  have H1 := Lib.hid h1
  have H2 := Lib.hid h2
  clear hb h hr1 hr2 h1 h2
  obtain ⟨at1, hat1⟩ : ∃ a, a = halfAt j.fr j.se half + behind := ⟨_, rfl⟩
  have hatI : (halfAt j.fr j.se half : Int) + (behind : Int) = (at1 : Int) := by omega
  rw [← hat1] at hr1'
  rw [hatI] at hwA
  have HP := Lib.hid hr1'
  have HI := Lib.hid hatI
  clear hr1' hatI
  have HN := Lib.hid hN
  have HJ := Lib.hid hj1
  have HT1 := Lib.hid hat1
  clear hN hj1 hat1
  go_enter Tryz.func161, Tryz.ntmps161
  go_wp2_with (fail)
  refine (HU.out _ c3 f3).mono ?_
  rintro e w1 ⟨rfl, hw1⟩
  have J2 := Lib.hid (hw1 ▸ J1.out)
  clear hw1 c3 f3 J1
  obtain ⟨S1, d1, o1, g1⟩ := J2.out
  have hBnew := Blk.new w1 232 #[.int .u64 (N : Int), .int .i64 (half : Int), .int .i64 (recs : Int)]
  have hBel := (Below.refl w1.heap.size w1).alloc (Nat.le_refl _) (.cells #[.int .u64 (N : Int), .int .i64 (half : Int), .int .i64 (recs : Int)] 232)
  have n1 : ¬ S1 w1.heap.size := fun hk => Nat.lt_irrefl _ (d1.lt _ hk)
  have D1 := Lib.hid (d1.below hBel)
  have O1 := Lib.hid (o1.below hBel)
  have G1 := Lib.hid g1
  have HB := Lib.hid hBnew
  have hs1 := hBel.size
  have N1 := Lib.hid n1
  have h0 := hBnew.cell 0
  clear d1 o1 g1 J2 hBel n1 hBnew
  go_wp2_with (fail)
  refine (put_ok N t _ lt D1.out.tab).mono ?_
  rintro e w2 ⟨rfl, hb2⟩
  have D2 := Lib.hid (D1.out.below hb2)
  have O2 := Lib.hid (O1.out.below hb2)
  have B2 := Lib.hid (HB.out.below hb2 HB.out.lt)
  obtain ⟨a0, a1, a2⟩ := jd_area D2.out
  rw [e1] at a1
  rw [e2] at a2
  have lb2 := B2.out.lt
  clear hb2 D1 O1 HB h0
  go_wp2_with (fail)
  refine (half_area _ p j.fr j.se half HA.out.se (by have := HA.out.fr; omega) HA.out.half).mono ?_
  rintro e w3 ⟨rfl, hb3⟩
  have D3 := Lib.hid (D2.out.below hb3)
  have O3 := Lib.hid (O2.out.below hb3)
  have B3 := Lib.hid (B2.out.below hb3 B2.out.lt)
  clear hb3 D2 O2 B2 a0 a1 a2 lb2
  go_wp2_with (fail)
  rw [HI.out]
  refine (jwrite_fit _ D3.out e3 (by omega) at1 (secF t.size) (putS N t) (by omega) (by have := HT1.out; omega)).mono ?_
  rintro e w4 ⟨rfl, hv⟩
  rw [← HP.out] at hv ⊢
  obtain ⟨S4, d4, o4, g4⟩ := hv
  have n4 : ¬ S1 w1.heap.size := N1.out
  have D4 := Lib.hid d4
  have O4 := Lib.hid (O3.out.go G1.out o4)
  have G4 := Lib.hid (G1.out.trans g4 O3.out.size)
  have B4 := Lib.hid (B3.out.only o4 n4)
  have N4 := Lib.hid (show ¬ S4 w1.heap.size from fun hk => (g4 _ hk).elim n4 (fun h' => by have := B3.out.lt; omega))
  clear d4 o4 g4 n4 D3 O3 B3 G1 N1
  have e1t : r1.2 = true := by rw [HR1.out]; exact H1.out
  rw [e1t] at D4 ⊢
  have e4 : ({ j1 with unfit := !true } : Jn) = j1 := fit_same e3
  rw [e4] at D4
  clear e4
  rw [show wrCode true = 0 from rfl]
  go_wp2_with (fail)
  refine (jflush_fit _ D4.out e3 (by omega)).mono ?_
  rintro e w5 ⟨rfl, hv⟩
  rw [← HR2.out] at hv ⊢
  obtain ⟨S5, d5, o5, g5⟩ := hv
  have D5 := Lib.hid d5
  have O5 := Lib.hid (O4.out.go G4.out o5)
  have G5 := Lib.hid (G4.out.trans g5 O4.out.size)
  have B5 := Lib.hid (B4.out.only o5 N4.out)
  have N5 := Lib.hid (show ¬ S5 w1.heap.size from fun hk => (g5 _ hk).elim N4.out (fun h' => by have := B4.out.lt; omega))
  clear d5 o5 g5 D4 O4 B4 G4 N4
  have e2t : r2.2 = true := by rw [HR2.out, HR1.out]; exact H2.out
  rw [e2t] at D5 ⊢
  have e4 : ({ j1 with unfit := !true } : Jn) = j1 := fit_same e3
  rw [e4] at D5
  clear e4
  obtain ⟨r3, hr3⟩ : ∃ r, r = r2.1.put (slotAt j.fr N) (hdS N j.fr j.se half recs) 1 := ⟨_, rfl⟩
  have HR3 := Lib.hid hr3
  clear hr3
  rw [← HN.out] at hslot
  have hrh : recs < 4294967296 := HA.out.recs
  have hhh : half < 4294967296 := by have := HA.out.half; omega
  have hfs8 := HA.out.fr
  rw [show wrCode true = 0 from rfl]
  go_upto_region 11 with (fail)
  obtain ⟨a0, a1, a2⟩ := jd_area D5.out
  rw [e1] at a1
  rw [e2] at a2
  have b0 := B5.out.cell 0
  have b1 := B5.out.cell 1
  have b2 := B5.out.cell 2
  simp at b0 b1 b2
  have lq0 := World.block_lt_of_cell? _ _ a0
  have lb0 := World.block_lt_of_cell? _ _ b0
  have HSA := Lib.hid (fun v => slot_area v p j.fr j.se N (by omega))
  have HSB := Lib.hid (fun v => sector_area v p j.fr j.se N half recs (by omega) (by omega) hhh hrh)
  have HZ := Lib.hid (hdS_size N j.fr j.se half recs)
  have HQ := Lib.hid (show j.head (j.body x t half behind).1.flsh.1 half recs = (j.body x t half behind).1.flsh.1.put (slotAt j.fr (j.num + 1)) (hdS (j.num + 1) j.fr j.se half recs) 1 from rfl)
  rw [← HN.out] at HQ
  generalize hdS N j.fr j.se half recs = hds at *
  go_region_held3 (fun v => v.cell? ⟨q, 0, none⟩ = some (.pointer (some ⟨p, 0, none⟩)) ∧ v.cell? ⟨q, 1, none⟩ = some (.int .i64 j.fr) ∧ v.cell? ⟨q, 2, none⟩ = some (.int .i64 j.se) ∧ v.cell? ⟨w1.heap.size, 0, none⟩ = some (.int .u64 N) ∧ v.cell? ⟨w1.heap.size, 1, none⟩ = some (.int .i64 half) ∧ v.cell? ⟨w1.heap.size, 2, none⟩ = some (.int .i64 recs)) (first | exact ⟨a0, a1, a2, b0, b1, b2⟩ | exact ⟨c0, c1, c2, d0, d1, d2⟩ | exact ⟨e0, e1', e2', f0, f1, f2⟩ | exact ⟨h0, h1', h2', g0, g1, g2⟩) (first
    | (go_at_call 188; refine (HSA.out _).mono ?_; rintro e w6 ⟨rfl, hb6⟩
       have c0 := (hb6.cell (p := ⟨q, 0, none⟩) lq0).trans a0
       have c1 := (hb6.cell (p := ⟨q, 1, none⟩) lq0).trans a1
       have c2 := (hb6.cell (p := ⟨q, 2, none⟩) lq0).trans a2
       have d0 := (hb6.cell (p := ⟨w1.heap.size, 0, none⟩) lb0).trans b0
       have d1 := (hb6.cell (p := ⟨w1.heap.size, 1, none⟩) lb0).trans b1
       have d2 := (hb6.cell (p := ⟨w1.heap.size, 2, none⟩) lb0).trans b2
       have lq6 := World.block_lt_of_cell? _ _ c0
       have lb6 := World.block_lt_of_cell? _ _ d0
       have B6 := Lib.hid ((B5.out.below (belDrew _ _ 1) B5.out.lt).below hb6 B5.out.lt)
       have D6 := Lib.hid ((D5.out.below (belDrew _ _ 1)).below hb6)
       have O6 := Lib.hid ((O5.out.below (belDrew _ _ 1)).below hb6)
       clear hb6)
    | (go_at_call 189; refine (HSB.out _).mono ?_; rintro e w7 ⟨rfl, hb7⟩
       have e0 := (hb7.cell (p := ⟨q, 0, none⟩) lq6).trans c0
       have e1' := (hb7.cell (p := ⟨q, 1, none⟩) lq6).trans c1
       have e2' := (hb7.cell (p := ⟨q, 2, none⟩) lq6).trans c2
       have f0 := (hb7.cell (p := ⟨w1.heap.size, 0, none⟩) lb6).trans d0
       have f1 := (hb7.cell (p := ⟨w1.heap.size, 1, none⟩) lb6).trans d1
       have f2 := (hb7.cell (p := ⟨w1.heap.size, 2, none⟩) lb6).trans d2
       have B7 := Lib.hid (B6.out.below hb7 B6.out.lt)
       have D7 := Lib.hid (D6.out.below hb7)
       have O7 := Lib.hid (O6.out.below hb7)
       clear hb7)
    | (go_at_call 118; refine (jwrite_fit _ D7.out e3 (by omega) (slotAt j.fr N) 1 hds (by rw [HZ.out]) hslot).mono ?_; rintro e w8 ⟨rfl, hv⟩
       rw [← HR3.out] at hv
       obtain ⟨S8, d8, o8, g8⟩ := hv
       have B8 := B7.out.only o8 N5.out
       have g0 := B8.cell 0
       have g1 := B8.cell 1
       have g2 := B8.cell 2
       simp at g0 g1 g2
       obtain ⟨h0, h1', h2'⟩ := jd_area d8
       rw [show ({ j1 with unfit := !r3.2 } : Jn).fr = j.fr from e1] at h1'
       rw [show ({ j1 with unfit := !r3.2 } : Jn).se = j.se from e2] at h2'
       have D8 := Lib.hid d8
       have O8 := Lib.hid (O7.out.go G5.out o8)
       have G8 := Lib.hid (G5.out.trans g8 O7.out.size)
       clear d8 o8 g8)
    | fail)
  all_goals (
    have HF := Lib.hid (show JOut S w p q n (j.enter x t half behind recs).1 (j.begun (j.enter x t half behind recs).2) w8 by
      have e : j.enter x t half behind recs = r3 := by rw [HE.out, HR3.out, HR2.out, HR1.out]; exact HQ.out
      rw [e]
      have : j.begun r3.2 = { j1 with unfit := !r3.2 } := by rw [HJ.out, HN.out]; rfl
      rw [this]
      exact ⟨_, D8.out, O8.out, G8.out⟩)
    have HV := Lib.hid (show (j.enter x t half behind recs).2 = r3.2 by
      rw [HE.out, HR3.out, HR2.out, HR1.out, HQ.out])
    go_wp2_with (fail)
    go_ret
    exact ⟨by rw [HV.out, HR3.out]; rfl, HF.out⟩)
theorem enter_any (w : World) {S : Nat → Prop} {p q n : Nat} {x : St} {j : Jn} {t : ByteArray} {half behind recs : Nat} (h : Asked w S p q n x j t half behind recs) :
    Calls Tryz.prog 161 #[.pointer (some ⟨q, 0, none⟩), .string t, .int .i64 (half : Int), .int .i64 (behind : Int), .int .i64 (recs : Int)] w fun e w' =>
      e = .returned (.int .i64 (wrCode (j.enter x t half behind recs).2)) ∧ JOut S w p q n (j.enter x t half behind recs).1 (j.begun (j.enter x t half behind recs).2) w' := by
  cases h1 : (j.body x t half behind).2 with
  | false => exact enter_a w h h1
  | true =>
    cases h2 : (j.body x t half behind).1.flsh.2 with
    | false => exact enter_b w h h1 h2
    | true => exact enter_c w h h1 h2
theorem append_nil (w : World) (t : ByteArray) : Calls Tryz.prog 127 #[.pointer none, .string t] w fun e w' => e = .returned (.int .i64 1) ∧ w = w' := by
  go_enter Tryz.func127, Tryz.ntmps127
  go_wp2_with (fail)
  refine (room_nil _).mono ?_; rintro e w1 ⟨rfl, rfl⟩
  go_wp2_with (fail)
  refine (refuse_nil _ _ _).mono ?_; rintro e w1 ⟨rfl, rfl⟩
  go_wp2_with (fail)
  go_ret
  exact ⟨rfl, rfl⟩
def Jn.room (j : Jn) : Int := (j.size : Int) - j.used
theorem append_why (w : World) {S : Nat → Prop} {p q n : Nat} {x : St} {j : Jn} (h : JD w S p q n x j) (hf : j.Fits n) (t : ByteArray) (hw : j.why t j.room ≠ 0) :
    Calls Tryz.prog 127 #[.pointer (some ⟨q, 0, none⟩), .string t] w fun e w' => e = .returned (.int .i64 (j.why t j.room)) ∧ JOut S w p q n x j w' := by
  have HR := Lib.hid (room_any w h hf)
  have HB := Lib.hid (fun v (hb : Below w.heap.size w v) => refuse_any v (h.below hb) t j.room)
  have HO := Lib.hid (fun v (hb : Below w.heap.size w v) => JOut.below h hb)
  have HB2 : Hid (∀ v, Below w.heap.size w v → Calls Tryz.prog 116 #[.pointer (some ⟨q, 0, none⟩), .string t, .int .i64 ((j.size : Int) - j.used)] v fun e w' => e = .returned (.int .i64 (j.why t j.room)) ∧ v = w') := Lib.hid HB.out
  clear h hf HB
  generalize j.why t j.room = k at *
  go_enter Tryz.func127, Tryz.ntmps127
  go_wp2_with (fail)
  refine HR.out.mono ?_; rintro e w1 ⟨rfl, hb1⟩
  have B1 := Lib.hid hb1; clear hb1
  go_wp2_with (fail)
  refine (HB2.out _ B1.out).mono ?_; rintro e w2 ⟨rfl, rfl⟩
  go_wp2_with (fail)
  go_ret
  exact ⟨rfl, HO.out _ B1.out⟩
theorem JD.drew {w : World} {S : Nat → Prop} {p q n : Nat} {x : St} {j : Jn} (h : JD w S p q n x j) : JD w.drew S p q n x j := h.below (belDrew _ _ 1)
theorem more_is {j : Jn} (h : j.unfit = false) (t : ByteArray) : ({ ({ j.begun true with used := j.used + secF t.size } : Jn) with recs := j.recs ++ [t] } : Jn) = { ({ j with num := j.num + 1, used := j.used + secF t.size } : Jn) with recs := j.recs ++ [t] } := by cases j; cases h; rfl
theorem step_text {ops : Array Oper} {o : Oper} {a : Act} {w : World} {K : Act → World → Prop} {Q : Exit → Act → World → Prop} {E : Prop} (hgd : o.guard = none) (s x : Operand)
    (ho : o.op = .call { callee := .builtin .append, args := #[s, x], argTypes := #[101, 101] }) (v : Value) (xs : List ByteArray) (hs : a.eval s = v) (hown : Recs w v xs)
    (b : Nat) (z : ByteArray) (hx : a.eval x = .slice (some ⟨b, 0, none⟩) 1 1) (hc : w.cell? ⟨b, 0, none⟩ = some (.string z)) (hn : xs.length ≤ 1099511627776)
    (h : ∀ A c w', Recs w' (.slice A (xs.length + 1) c) (xs ++ [z]) → w.grownBy w' v.ownBlock → ((Value.slice A (xs.length + 1) c).ownBlock = v.ownBlock ∨ (Value.slice A (xs.length + 1) c).ownBlock = some w.heap.size) → K (a.put o.dst (.slice A (xs.length + 1) c)) w') :
    if Region.wanted o (yielded ops a.tmps) = true then Oper.wp Tryz.prog o a w K Q else E := by
  have hw : Region.wanted o (yielded ops a.tmps) = true := by simp [Region.wanted, hgd]
  rw [if_pos hw]
  obtain ⟨v', w', hr, h2, h3, h5, _⟩ := run_append_text w o.type v xs hown b z hc hn
  obtain ⟨A, c, hv⟩ := h2.form
  rw [List.length_append, List.length_singleton] at hv
  subst hv
  unfold Oper.wp execOp
  simp only [ho, resolve, invoke, builtin, Sem.run_bind, Sem.run_pure, Result.andThen_ok, List.map_toArray, List.map_cons, List.map_nil, hs, hx, hr]
  exact h A c w' h2 h3 h5
theorem step_clone {ops : Array Oper} {o : Oper} {a : Act} {w : World} {K : Act → World → Prop} {Q : Exit → Act → World → Prop} {E : Prop} (hgd : o.guard = none) (x : Operand)
    (ho : o.op = .call { callee := .value (.func 83), args := #[x], argTypes := #[9] }) (s : ByteArray) (hx : a.eval x = .string s) (hs : s.size ≤ 281474976710656)
    (h : ∀ w', Below w.heap.size w w' → K (a.put o.dst (.string s)) w') :
    if Region.wanted o (yielded ops a.tmps) = true then Oper.wp Tryz.prog o a w K Q else E := by
  have hw : Region.wanted o (yielded ops a.tmps) = true := by simp [Region.wanted, hgd]
  rw [if_pos hw]
  have hr : (execOp a.eval o).run Tryz.prog w = .ok (.enter 83 #[.string s]) w := by
    unfold execOp
    simp [ho, resolve, invoke, go_sem]
    revert hx
    cases x <;> simp [Act.eval]
  unfold Oper.wp
  rw [hr, Oper.upon_enter]
  refine (clone_any s w hs).mono ?_
  rintro e w' ⟨rfl, hb⟩
  exact h w' hb
/-- The records were put in their place. -/
theorem recs_out {w0 w1 w2 : World} {F G S : Nat → Prop} {p q n : Nat} {x : St} {j : Jn} {rv rv' : Value} {rs : List ByteArray} (h : JD w0 S p q n x j) (hF : Dv w0 F p n x) (hb : Blk w0 q 216 (jCells p j rv)) (hrec : Recs w0 rv j.recs) (hq : G q) (hg : ∀ g, rv.ownBlock = some g → G g)
    (hl : ∀ k, G k → k < w0.heap.size) (hd : ∀ k, F k → ¬ G k) (hs : ∀ k, F k → S k) (hs' : ∀ k, G k → S k) (hb1 : Below w0.heap.size w0 w1) (hR : Recs w2 rv' rs) (hgr : w1.grownBy w2 rv.ownBlock) (hv : rv'.ownBlock = rv.ownBlock ∨ rv'.ownBlock = some w1.heap.size) :
    JOut S w0 p q n x { j with recs := rs } (w2.setCell ⟨q, 7, none⟩ rv') := by
  have hne := recs_apart hrec hb (by decide)
  have o2 : Only G w0 w2 := (Only.of_below hb1).grown hgr fun k hk => .inl (hg k hk)
  have o3 : Only G w0 (w2.setCell ⟨q, 7, none⟩ rv') := o2.setCell (.inl hq) _
  have lq := hl q hq
  have hb2 : Blk w2 q 216 (jCells p j rv) := (hb.below hb1 lq).grown hgr (Ne.symm hne)
  have hne' : ∀ g, rv'.ownBlock = some g → g ≠ q := by
    rintro g hg' rfl
    rcases hv with e | e
    · exact hne (e ▸ hg')
    · rw [hg'] at e
      have := Option.some.inj e
      have := hb1.size
      omega
  have hsz : w0.heap.size ≤ (w2.setCell ⟨q, 7, none⟩ rv').heap.size := o3.size
  have hR' : Recs (w2.setCell ⟨q, 7, none⟩ rv') rv' rs := hR.keep fun g hg' => Below.heap_setCell w2 _ _ g (hne' g hg')
  have hnew : ∀ k, rv'.ownBlock = some k → G k ∨ w0.heap.size ≤ k := by
    intro k hk
    rcases hv with e | e
    · exact .inl (hg k (e ▸ hk))
    · rw [hk] at e
      have := Option.some.inj e
      have := hb1.size
      exact .inr (by omega)
  refine ⟨fun k => S k ∨ rv'.ownBlock = some k, ⟨⟨F, fun k => G k ∨ rv'.ownBlock = some k, hF.keep o3 hd, ⟨rv', hb2.put 7 rv', hR', .inl hq, fun g hg' => .inr hg', fun k hk => ?_⟩, fun k hk hk' => ?_, fun k hk => .inl (hs k hk), fun k hk => hk.elim (fun h' => .inl (hs' k h')) .inr⟩, fun k hk => ?_, ?_, fun hk => ?_⟩, o3.mono hs', fun k hk => ?_⟩
  · rcases hk with hk | hk
    · exact Nat.lt_of_lt_of_le (hl k hk) hsz
    · exact hR'.lt k hk
  · rcases hk' with hk' | hk'
    · exact hd k hk hk'
    · rcases hnew k hk' with h1 | h1
      · exact hd k hk h1
      · have := hF.lt k hk; omega
  · rcases hk with hk | hk
    · exact Nat.lt_of_lt_of_le (h.lt k hk) hsz
    · exact hR'.lt k hk
  · exact tab_only h.tab o3 fun hk => h.far (hs' _ hk)
  · rcases hk with hk | hk
    · exact h.far hk
    · rcases hnew _ hk with h1 | h1
      · exact h.far (hs' _ h1)
      · have := h.tab.pos; have e : gTab = 1 := rfl; omega
  · rcases hk with hk | hk
    · exact .inl hk
    · exact (hnew k hk).elim (fun h1 => .inl (hs' k h1)) .inr
/-- What Append makes of a journal where nothing keeps the text from it. -/
def Jn.more (j : Jn) (t : ByteArray) : Jn := { j with num := j.num + 1, used := j.used + secF t.size, recs := j.recs ++ [t] }
theorem why_zero' {j : Jn} {t : ByteArray} {r : Int} (h : j.why t r = 0) : j.unfit = false ∧ t.size ≤ 65536 ∧ (secF t.size : Int) ≤ r := by
  unfold Jn.why at h
  split at h
  · omega
  · split at h
    · omega
    · split at h
      · omega
      · rename_i a b c
        exact ⟨by simpa using a, by omega, by omega⟩
theorem append_asked {w : World} {S : Nat → Prop} {p q n : Nat} {x : St} {j : Jn} (h : JD w S p q n x j) (hf : j.Fits n) {t : ByteArray} (hw : j.why t j.room = 0) (hx : x.ops ≤ 100000000000) (hn : j.num ≤ 100000000000) :
    Asked w S p q n x j t j.half j.used (j.recs.length + 1) := by
  obtain ⟨h1, h2, h3⟩ := why_zero' hw
  have hm := h.good.most
  have hfr := hf.fr
  have hz : j.size = (j.se - 4) / 2 := rfl
  have hu := hf.used
  have hr := hf.recs
  unfold Jn.room at h3
  exact ⟨h, hf.se, hf.fr, hf.half, by omega, h2, by omega, h1, hx, hn⟩
set_option maxRecDepth 100000 in
set_option maxHeartbeats 1600000 in
theorem append_ok (w : World) {S : Nat → Prop} {p q n : Nat} {x : St} {j : Jn} (h : JD w S p q n x j) (hf : j.Fits n) (t : ByteArray) (hw : j.why t j.room = 0) (hx : x.ops ≤ 100000000000) (hn : j.num ≤ 100000000000)
    (he : (j.enter x t j.half j.used (j.recs.length + 1)).2 = true) :
    Calls Tryz.prog 127 #[.pointer (some ⟨q, 0, none⟩), .string t] w fun e w' => e = .returned (.int .i64 0) ∧ JOut S w p q n (j.enter x t j.half j.used (j.recs.length + 1)).1 (j.more t) w' := by
  have HR := Lib.hid (room_any w h hf)
  have HB : Hid (∀ v, Below w.heap.size w v → Calls Tryz.prog 116 #[.pointer (some ⟨q, 0, none⟩), .string t, .int .i64 ((j.size : Int) - j.used)] v fun e w' => e = .returned (.int .i64 0) ∧ v = w') :=
    Lib.hid (fun v (hb : Below w.heap.size w v) => hw ▸ refuse_any v (h.below hb) t j.room)
  have HJ := Lib.hid (fun v (hb : Below w.heap.size w v) => h.below hb)
  have HA := Lib.hid (fun v (hb : Below w.heap.size w v) => enter_any v (append_asked (h.below hb) hf hw hx hn))
  have hrl : j.recs.length ≤ 8192 := by
    have hm := h.good.most
    have hfr := hf.fr
    have hz : j.size = (j.se - 4) / 2 := rfl
    have hu := hf.used
    have hr := hf.recs
    omega
  obtain ⟨hfit, hlong, hroom⟩ := why_zero' hw
  have hsum : j.used + secF t.size ≤ 8192 := by
    have hm := h.good.most
    have hfr := hf.fr
    have hz : j.size = (j.se - 4) / 2 := rfl
    unfold Jn.room at hroom
    omega
  clear hroom
  have hws : IntKind.i64.wrap ((j.used : Int) + (secF t.size : Int)) = (j.used : Int) + (secF t.size : Int) := i64w _ (by omega)
  have hwr : IntKind.i64.wrap ((j.recs.length : Int) + 1) = (j.recs.length : Int) + 1 := i64w _ (by omega)
  have hcast : ((j.recs.length + 1 : Nat) : Int) = (j.recs.length : Int) + 1 := by omega
  rw [hcast] at HA
  have HRL := Lib.hid hrl
  clear h hf hw hx hn hrl hcast
  generalize j.enter x t j.half j.used (j.recs.length + 1) = r at *
  have HE := Lib.hid he; clear he
  go_enter Tryz.func127, Tryz.ntmps127
  go_wp2_with (fail)
  refine HR.out.mono ?_; rintro e w1 ⟨rfl, hb1⟩
  have B1 := Lib.hid hb1; clear hb1
  go_wp2_with (fail)
  refine (HB.out _ B1.out).mono ?_; rintro e w2 ⟨rfl, rfl⟩
  go_upto_region 4 with (fail)
  have D1 := Lib.hid (HJ.out _ B1.out)
  obtain ⟨rv, hb, hrec, _⟩ := D1.out.cells
  obtain ⟨A, c, rfl⟩ := hrec.form
  have c4 : w1.cell? ⟨q, 4, none⟩ = some (.int .i64 (j.half : Int)) := hb.cell 4
  have c5 : w1.cell? ⟨q, 5, none⟩ = some (.int .i64 (j.used : Int)) := hb.cell 5
  have c7 : w1.cell? ⟨q, 7, none⟩ = some (.slice A j.recs.length c) := hb.cell 7
  clear hb hrec
  have BD := Lib.hid (B1.out.drew)
  go_still_tail 16, (by kernel_rfl)
  change wpList _ _ _ _ _ w1.drew
  generalize w1.drew = w2 at BD ⊢
  clear c4 c5 c7 D1
  go_wp2_with (fail)
  refine (HA.out _ BD.out).mono ?_; rintro e w3 ⟨rfl, hv⟩
  rw [HE.out] at hv ⊢
  obtain ⟨j1, hj1⟩ : ∃ j1 : Jn, j1 = j.begun true := ⟨_, rfl⟩
  rw [← hj1] at hv
  have u1 : j1.used = j.used := by subst hj1; rfl
  have u2 : j1.recs = j.recs := by subst hj1; rfl
  obtain ⟨j2, hj2⟩ : ∃ j2 : Jn, j2 = { j1 with used := j.used + secF t.size } := ⟨_, rfl⟩
  have u3 : j2.recs = j.recs := by subst hj2; exact u2
  have hj3 : ({ j2 with recs := j.recs ++ [t] } : Jn) = j.more t := by subst hj2; subst hj1; exact more_is hfit t
  have HJ2 := Lib.hid hj2
  have HJ3 := Lib.hid hj3
  clear hj1 hj2 hj3
  obtain ⟨S3, d3, o3, g3⟩ := JOut.trans (Only.of_below BD.out) (Grew.refl S w) hv
  have D3 := Lib.hid d3
  have O3 := Lib.hid o3
  have G3 := Lib.hid g3
  obtain ⟨rv3, hb3, _, _⟩ := d3.cells
  have e5 : w3.cell? ⟨q, 5, none⟩ = some (.int .i64 (j1.used : Int)) := hb3.cell 5
  rw [u1] at e5
  have f5 := hb3.free 5
  have l3 := hb3.lt
  have fin5 := d3.drew.set 5 (.int .i64 ((j.used : Int) + (secF t.size : Int))) j2 (fun _ => by rw [HJ2.out]; simp [jCells]) (by rw [u3, u2])
  have F5 := Lib.hid fin5
  clear d3 o3 g3 hb3 hv fin5
  rw [show wrCode true = 0 from rfl]
  go_upto_region 7 with (fail)
  go_cut [] (fun wx => JOut S3 w3.drew p q n r.1 j2 wx)
  case first =>
    go_region_with (go_at_call 158; refine (sectors_in t.size _ hlong).mono ?_; rintro e w4 ⟨rfl, rfl⟩)
    all_goals (go_wp2_with (fail); go_meet; exact F5.out)
  case rest =>
    obtain ⟨S4, d4, o4, g4⟩ := hcut
    have D4 := Lib.hid d4
    have O4 := Lib.hid ((O3.out.go G3.out (Only.of_below (belDrew _ _ 1))).go G3.out o4)
    have G4 := Lib.hid (G3.out.trans g4 O3.out.size)
    obtain ⟨F4, H4, hF4, ⟨rv4, hb4, hr4, hq4, hg4, hl4⟩, hd4, hs4, hs4'⟩ := d4.both
    rw [u3] at hr4
    obtain ⟨A4, c4, hv4⟩ := hr4.form
    subst hv4
    have e7 := hb4.cell 7
    replace e7 : _ = some (Value.slice A4 j.recs.length c4) := e7
    have l4 := hb4.lt
    have HFin := Lib.hid (fun (w1 w2 : World) (rv' : Value) (hb1 : Below _ _ w1) (hR : Recs w2 rv' (j.recs ++ [t])) hgr hv => recs_out d4 hF4 hb4 (u3 ▸ hr4) hq4 hg4 hl4 hd4 hs4 hs4' hb1 hR hgr hv)
    have HR4 := Lib.hid hr4
    have HB4 := Lib.hid hb4
    have hne4 := Lib.hid (recs_apart hr4 hb4 (by decide))
    have hcl := fun v => clone_any t v (by omega)
    clear d4 o4 g4 hb4 hr4 hF4 hq4 hg4 hl4 hd4 hs4 hs4'
    go_upto_region 8 with (fail)
    go_region_law (first
      | (refine step_clone (by rfl) (.tmp 50) (by rfl) t (by rfl) (by omega) ?_
         intro w5 hb5
         have l5 : q < w5.heap.size := Nat.lt_of_lt_of_le l4 hb5.size
         have e5 := (hb5.cell (p := ⟨q, 7, none⟩) l4).trans e7
         have R5 := Lib.hid ((HR4.out.keep (fun g hg => hb5.block g (HR4.out.lt g hg))))
         have B5 := Lib.hid (HB4.out.drew.below hb5 l4)
         have T5 := Lib.hid ((belDrew _ _ 1).trans hb5)
         clear hb5)
      | (refine step_text (by rfl) (.tmp 49) (.tmp 52) (by rfl) (.slice A4 j.recs.length c4) j.recs (by rfl) (R5.out.keep (fun g hg => Below.heap_alloc _ _ g (R5.out.lt g hg))) w5.heap.size t (by rfl) ((Blk.new w5 9 #[.string t]).cell 0) (by have := HRL.out; omega) ?_
         intro A6 c6 w6 hR6 hg6 hv6
         have b6 := (B5.out.alloc (.cells #[.string t] 9)).grown hg6 (Ne.symm hne4.out)
         have e6 : w6.cell? ⟨q, 7, none⟩ = some (Value.slice A4 j.recs.length c4) := b6.cell 7
         have f6 := b6.free 7
         have F6 := Lib.hid (HFin.out _ _ _ (T5.out.alloc (by have := T5.out.size; exact this) (.cells #[.string t] 9)) hR6 hg6 hv6)
         clear b6 hR6 hg6 hv6))
    all_goals (
      have HF := Lib.hid (JOut.trans O4.out G4.out (HJ3.out ▸ F6.out))
      go_wp2_with (fail)
      go_ret
      exact ⟨rfl, HF.out⟩)
theorem JD.norecs {w : World} {S : Nat → Prop} {p q n : Nat} {x : St} {j : Jn} (h : JD w S p q n x j) (j' : Jn) (hj : j' = { j with recs := [] }) : JOut S w p q n x j' (w.setCell ⟨q, 7, none⟩ (.slice none 0 0)) := by
  subst hj
  obtain ⟨F, G, hF, ⟨rv, hb, hrec, hq, hg, hl⟩, hd, hs, hs'⟩ := h.both
  have ho : Only S w (w.setCell ⟨q, 7, none⟩ (.slice none 0 0)) := (Only.refl S w).setCell (.inl (hs' q hq)) _
  have hoq : Only (its q) w (w.setCell ⟨q, 7, none⟩ (.slice none 0 0)) := only_put w q 7 _
  exact ⟨S, ⟨⟨F, G, hF.keep hoq (fun k hk e => hd k hk (by rw [show k = q from e]; exact hq)), ⟨.slice none 0 0, hb.put 7 (.slice none 0 0), recs_nil _, hq, fun g hg' => by simp [Value.ownBlock] at hg', fun k hk => Nat.lt_of_lt_of_le (hl k hk) hoq.size⟩, hd, hs, hs'⟩, fun k hk => Nat.lt_of_lt_of_le (h.lt k hk) ho.size, tab_only h.tab ho h.far, h.far⟩, ho, Grew.refl S w⟩
/-- What Checkpoint makes of a journal where nothing keeps the base from it. -/
def Jn.swap (j : Jn) (t : ByteArray) : Jn := { fr := j.fr, se := j.se, num := j.num + 1, half := 1 - j.half, used := secF t.size, base := t, recs := [], unfit := false }
/-- What the device is then, and whether it was done. -/
def Jn.check (j : Jn) (x : St) (t : ByteArray) : St × Bool := if (j.enter x t (1 - j.half) 0 0).2 then (j.enter x t (1 - j.half) 0 0).1.flsh else j.enter x t (1 - j.half) 0 0
theorem check_asked {w : World} {S : Nat → Prop} {p q n : Nat} {x : St} {j : Jn} (h : JD w S p q n x j) (hf : j.Fits n) {t : ByteArray} (hw : j.why t j.size = 0) (hx : x.ops ≤ 100000000000) (hn : j.num ≤ 100000000000) :
    Asked w S p q n x j t (1 - j.half) 0 0 := by
  obtain ⟨h1, h2, h3⟩ := why_zero' hw
  have hh := hf.half
  exact ⟨h, hf.se, hf.fr, by omega, by omega, h2, by omega, h1, hx, hn⟩
set_option maxRecDepth 100000 in
set_option maxHeartbeats 1600000 in
theorem check_ok (w : World) {S : Nat → Prop} {p q n : Nat} {x : St} {j : Jn} (h : JD w S p q n x j) (hf : j.Fits n) (t : ByteArray) (hw : j.why t j.size = 0) (hx : x.ops ≤ 100000000000) (hn : j.num ≤ 100000000000)
    (he : (j.enter x t (1 - j.half) 0 0).2 = true) (he2 : (j.enter x t (1 - j.half) 0 0).1.flsh.2 = true) :
    Calls Tryz.prog 119 #[.pointer (some ⟨q, 0, none⟩), .string t] w fun e w' => e = .returned (.int .i64 0) ∧ JOut S w p q n (j.check x t).1 (j.swap t) w' := by
  have HC := Lib.hid (show j.check x t = _ from by unfold Jn.check; rw [if_pos he])
  have HR := Lib.hid (jsize_any w h hf)
  have HB : Hid (∀ v, Below w.heap.size w v → Calls Tryz.prog 116 #[.pointer (some ⟨q, 0, none⟩), .string t, .int .i64 (j.size : Int)] v fun e w' => e = .returned (.int .i64 0) ∧ v = w') :=
    Lib.hid (fun v (hb : Below w.heap.size w v) => hw ▸ refuse_any v (h.below hb) t j.size)
  have HJ := Lib.hid (fun v (hb : Below w.heap.size w v) => h.below hb)
  have HA := Lib.hid (fun v (hb : Below w.heap.size w v) => enter_any v (check_asked (h.below hb) hf hw hx hn))
  have hops : (j.enter x t (1 - j.half) 0 0).1.ops ≤ 1000000000000 := by
    have h1 := enter_ops j x t (1 - j.half) 0 0
    have h2 := (why_zero' hw).2.1
    have h3 : secF t.size ≤ 130 := by unfold secF; omega
    omega
  obtain ⟨hfit, hlong, _⟩ := why_zero' hw
  obtain ⟨hf2, hhf⟩ : ∃ k, 1 - j.half = k := ⟨_, rfl⟩
  have hhi : IntKind.i64.wrap (1 - (j.half : Int)) = (hf2 : Int) := by rw [i64w _ (by have := hf.half; omega)]; have := hf.half; omega
  have hhj : 1 - (j.half : Int) = (hf2 : Int) := by have := hf.half; omega
  rw [hhj] at hhi
  rw [hhf] at HA hops HC
  have HHJ := Lib.hid hhj
  have HHF := Lib.hid hhf
  have HE := Lib.hid he
  clear h hf hw hx hn hhj hhf he
  rw [HHF.out] at HE
  go_enter Tryz.func119, Tryz.ntmps119
  go_wp2_with (fail)
  refine HR.out.mono ?_; rintro e w1 ⟨rfl, hb1⟩
  have B1 := Lib.hid hb1; clear hb1
  go_wp2_with (fail)
  refine (HB.out _ B1.out).mono ?_; rintro e w2 ⟨rfl, rfl⟩
  obtain ⟨rv, hb, hrec, _⟩ := (HJ.out _ B1.out).cells
  have c4 : w1.cell? ⟨q, 4, none⟩ = some (.int .i64 (j.half : Int)) := hb.cell 4
  clear hb hrec
  have hhi2 : IntKind.i64.wrap (1 - (j.half : Int)) = (hf2 : Int) := by rw [HHJ.out]; exact hhi
  go_wp2_with (fail)
  refine (HA.out _ B1.out).mono ?_; rintro e w3 ⟨rfl, hv⟩
  rw [HE.out] at hv ⊢
  obtain ⟨S3, d3, o3, g3⟩ := JOut.trans (Only.of_below B1.out) (Grew.refl S w) hv
  have D3 := Lib.hid d3
  have O3 := Lib.hid o3
  have G3 := Lib.hid g3
  clear d3 o3 g3 hv c4
  rw [show wrCode true = 0 from rfl]
  go_wp2_with (fail)
  refine (jflush_fit _ D3.out rfl hops).mono ?_; rintro e w4 ⟨rfl, hv⟩
  have HE2 := Lib.hid he2; clear he2
  rw [HHF.out] at HE2
  rw [HE2.out] at hv ⊢
  obtain ⟨S4, d4, o4, g4⟩ := JOut.trans O3.out G3.out hv
  obtain ⟨j1, hj1⟩ : ∃ j1 : Jn, j1 = { j.begun true with unfit := !true } := ⟨_, rfl⟩
  rw [← hj1] at d4
  obtain ⟨F4, H4, hF4, ⟨rv4, hb4, hr4, hq4, hg4, hl4⟩, hd4, hs4, hs4'⟩ := d4.both
  have e4 := hb4.cell 4
  have e5 := hb4.cell 5
  replace e4 : _ = some (Value.int .i64 (j1.half : Int)) := e4
  replace e5 : _ = some (Value.int .i64 (j1.used : Int)) := e5
  have f4 := hb4.free 4
  have f5 := hb4.free 5
  have hsec := fun v => sectors_in t.size v hlong
  have O4 := Lib.hid o4
  have G4 := Lib.hid g4
  obtain ⟨j2, hj2⟩ : ∃ j2 : Jn, j2 = { j1 with half := hf2, used := secF t.size } := ⟨_, rfl⟩
  have D5 := Lib.hid ((d4.set 4 (.int .i64 (hf2 : Int)) { j1 with half := hf2 } (fun _ => by simp [jCells]) rfl).then (fun S' dd => dd.set 5 (.int .i64 (secF t.size : Int)) j2 (fun _ => by rw [hj2]; simp [jCells]) (by rw [hj2])))
  have hu2 : j2.fr = j.fr ∧ j2.se = j.se ∧ j2.num = j.num + 1 ∧ j2.half = hf2 ∧ j2.used = secF t.size ∧ j2.unfit = false := by subst hj2; subst hj1; exact ⟨rfl, rfl, rfl, rfl, rfl, rfl⟩
  have HU2 := Lib.hid hu2
  clear d4 o4 g4 hv hF4 hb4 hr4 hq4 hg4 hl4 hd4 hs4 hs4' hj1 hj2 hu2
  rw [show wrCode true = 0 from rfl]
  go_wp2_with (fail)
  refine (hsec _).mono ?_; rintro e w5 ⟨rfl, rfl⟩
  go_upto_region 12 with (fail)
  obtain ⟨S5, d5, o5, g5⟩ := D5.out
  have O5 := Lib.hid (O4.out.go G4.out o5)
  have G5 := Lib.hid (G4.out.trans g5 O4.out.size)
  have DD5 := Lib.hid d5
  clear d5 o5 g5 D5 e4 e5 f4 f5
  generalize hw5 : World.setCell (World.setCell w4 _ _) _ _ = w5 at *
  clear hw5
  go_wp2_with (fail)
  refine (clone_any t _ (by omega)).mono ?_; rintro e w6 ⟨rfl, hb6⟩
  have d6 := DD5.out.below hb6
  have O6 := Lib.hid (O5.out.below hb6)
  obtain ⟨rv6, hb7, _, _⟩ := d6.cells
  have e6 := hb7.cell 6
  have e7 := hb7.cell 7
  replace e6 : _ = some (Value.string j2.base) := e6
  replace e7 : _ = some rv6 := e7
  have f6 := hb7.free 6
  have f7 := hb7.free 7
  have hfin : ({ ({ j2 with base := t } : Jn) with recs := [] } : Jn) = j.swap t := by
    obtain ⟨a, b, c, d, e, f⟩ := HU2.out
    have := HHF.out
    cases j2
    simp only at a b c d e f
    subst a; subst b; subst c; subst d; subst e; subst f
    unfold Jn.swap
    rw [this]
  have H7 := Lib.hid (JOut.trans O6.out G5.out ((d6.set 6 (.string t) { j2 with base := t } (fun _ => by simp [jCells]) rfl).then (fun S' dd => dd.norecs (j.swap t) hfin.symm)))
  clear d6 hb6 hb7 hfin
  go_wp2_with (fail)
  go_ret
  exact ⟨rfl, by rw [HC.out]; exact H7.out⟩
def zero4 : ByteArray := ⟨(Lib.repeatL [0] 2048).toArray⟩
theorem repeat_zero : ∀ n, Lib.repeatL [(0 : UInt8)] n = List.replicate n 0
  | 0 => rfl
  | n + 1 => by unfold Lib.repeatL; rw [repeat_zero n]; rfl
theorem zero4_is : zero4 = ⟨Array.replicate 2048 0⟩ := by unfold zero4; rw [repeat_zero, List.toArray_replicate]
theorem zero4_size : zero4.size = 2048 := by rw [zero4_is]; exact Array.size_replicate
/-- The journal that Format begins with. -/
def Jn.blank (fr se : Nat) : Jn := { fr := fr, se := se, num := 0, half := 0, used := 0, base := ⟨#[]⟩, recs := [], unfit := false }
theorem blank_fits {fr se n : Nat} (h8 : 8 ≤ se) (hn : fr + se ≤ n) : (Jn.blank fr se).Fits n := ⟨h8, hn, Nat.zero_le 1, Nat.zero_le _, Nat.zero_le _⟩
def MadeJn (F : Nat → Prop) (w : World) (p n : Nat) (x : St) (j : Jn) (e : Ending) (w' : World) : Prop :=
  ∃ q S, e = .returned (.tuple #[.pointer (some ⟨q, 0, none⟩), .int .i64 0]) ∧ JD w' S p q n x j ∧ Only F w w' ∧ Grew F w S
/-- A journal that has just been laid beside its device. -/
theorem blank_jd {w w1 : World} {F : Nat → Prop} {p n fr se : Nat} {x : St} (h : Dv w F p n x) (ht : Tab w) (hF : ¬ F gTab)
    (e : w1 = w.alloc (.cells #[.pointer (some ⟨p, 0, none⟩), .int .i64 (fr : Int), .int .i64 (se : Int), .int .u64 0, .int .i64 0, .int .i64 0, .string ⟨#[]⟩, .slice none 0 0, .bool false] 216)) :
    JD w1 (fun k => F k ∨ k = w.heap.size) p w.heap.size n x (Jn.blank fr se) := by
  subst e
  have hb := (Below.refl w.heap.size w).alloc (Nat.le_refl _) (.cells #[.pointer (some ⟨p, 0, none⟩), .int .i64 (fr : Int), .int .i64 (se : Int), .int .u64 0, .int .i64 0, .int .i64 0, .string ⟨#[]⟩, .slice none 0 0, .bool false] 216)
  have hlt := h.lt
  refine ⟨⟨F, fun k => k = w.heap.size, h.keep (S := nobody) (Only.of_below hb) (fun _ _ => id), ⟨.slice none 0 0, Blk.new w 216 _, recs_nil _, rfl, fun g hg => by simp [Value.ownBlock] at hg, fun k hk => by subst hk; simp⟩, fun k hk e => ?_, fun k hk => .inl hk, fun k hk => .inr hk⟩, fun k hk => ?_, ht.below hb, fun hk => ?_⟩
  · have := hlt k hk
    have e : k = w.heap.size := e
    omega
  · rcases hk with hk | hk
    · have := hlt k hk; simp; omega
    · subst hk; simp
  · rcases hk with hk | hk
    · exact hF hk
    · have := ht.pos; have e : gTab = 1 := rfl; omega
theorem made_of_jout {w w1 w' : World} {F : Nat → Prop} {p q n : Nat} {x : St} {j : Jn} (hb : Below w.heap.size w w1) (h : JOut (fun k => F k ∨ k = w.heap.size) w1 p q n x j w') : MadeJn F w p n x j (.returned (.tuple #[.pointer (some ⟨q, 0, none⟩), .int .i64 0])) w' := by
  obtain ⟨S, hj, ho, hg⟩ := h
  refine ⟨q, S, rfl, hj, ⟨ho.os.trans hb.os, ho.tape.trans hb.tape, ho.output.trans hb.output, Nat.le_trans hb.size ho.size, fun k hk hf => ?_⟩, fun k hk => ?_⟩
  · rw [ho.block k (Nat.lt_of_lt_of_le hk hb.size) (fun h' => h'.elim hf (fun e => by omega))]
    exact hb.block k hk
  · rcases hg k hk with (h1 | h1) | h1
    · exact .inl h1
    · exact .inr (by omega)
    · exact .inr (Nat.le_trans hb.size h1)
set_option maxRecDepth 100000 in
set_option maxHeartbeats 1600000 in
theorem format_ok (w : World) {F : Nat → Prop} {p n : Nat} {x : St} (h : Dv w F p n x) (ht : Tab w) (hF : ¬ F gTab) (fr se : Nat) (h8 : 8 ≤ se) (hn : fr + se ≤ n) (t : ByteArray) (hx : x.ops ≤ 10000000000) (hw : (Jn.blank fr se).why t (Jn.blank fr se).size = 0) (h1 : (x.put fr zero4 4).2 = true) (h2 : ((Jn.blank fr se).enter (x.put fr zero4 4).1 t (1 - (Jn.blank fr se).half) 0 0).2 = true) (h3 : ((Jn.blank fr se).enter (x.put fr zero4 4).1 t (1 - (Jn.blank fr se).half) 0 0).1.flsh.2 = true) :
    Calls Tryz.prog 64 #[.pointer (some ⟨p, 0, none⟩), .int .i64 (fr : Int), .int .i64 (se : Int), .string t] w (MadeJn F w p n ((Jn.blank fr se).check (x.put fr zero4 4).1 t).1 ((Jn.blank fr se).swap t)) := by
  have hm := h.good.most
  have hb := (Below.refl w.heap.size w).alloc (Nat.le_refl _) (.cells #[.pointer (some ⟨p, 0, none⟩), .int .i64 (fr : Int), .int .i64 (se : Int), .int .u64 0, .int .i64 0, .int .i64 0, .string ⟨#[]⟩, .slice none 0 0, .bool false] 216)
  have HFT := Lib.hid (fits_area _ (h.keep (S := nobody) (Only.of_below hb) (fun _ _ => id)) (fr : Int) (se : Int) (by omega))
  rw [show fitsB n fr se = true from decide_eq_true ⟨by omega, by omega, by omega⟩] at HFT
  have D0 := Lib.hid (blank_jd (fr := fr) (se := se) h ht hF rfl)
  have HN := Lib.hid hb
  have HFit := Lib.hid (blank_fits h8 hn)
  clear h hb ht hF
  obtain ⟨j0, hj0⟩ : ∃ j, j = Jn.blank fr se := ⟨_, rfl⟩
  rw [← hj0] at D0 HFit 
  have u0 : j0.unfit = false := by subst hj0; rfl
  have nm0 : j0.num = 0 := by subst hj0; rfl
  have HJ0 := Lib.hid hj0
  have HW : Hid (j0.why t j0.size = 0) := Lib.hid (by rw [hj0]; exact hw)
  have H1 := Lib.hid h1
  have H2 := Lib.hid h2
  have H3 := Lib.hid h3
  rw [← hj0] at H2 H3
  clear hw h1 h2 h3
  clear hj0
  go_enter Tryz.func64, Tryz.ntmps64
  go_wp2_with (fail)
  refine HFT.out.mono ?_; rintro e w1 ⟨rfl, hb1⟩
  have D1 := Lib.hid (D0.out.below hb1)
  have N1 := Lib.hid (HN.out.trans (hb1.mono HN.out.size))
  clear hb1 D0 HN
  go_wp2_with (fail)
  refine (jsize_any _ D1.out HFit.out).mono ?_; rintro e w2 ⟨rfl, hb2⟩
  have D2 := Lib.hid (D1.out.below hb2)
  have N2 := Lib.hid (N1.out.trans (hb2.mono N1.out.size))
  clear hb2 D1 N1
  go_wp2_with (fail)
  have hrf := refuse_any _ D2.out t j0.size
  rw [HW.out] at hrf
  refine hrf.mono ?_; rintro e w3 ⟨rfl, rfl⟩
  clear hrf
  go_wp2_with (fail)
  refine (Tryz.strings_Repeat ⟨#[0]⟩ 2048 _ (by omega) (by decide)).mono ?_
  rintro e w4 ⟨rfl, hb4⟩
  have D4 := Lib.hid (D2.out.below hb4)
  have N4 := Lib.hid (N2.out.trans (hb4.mono N2.out.size))
  clear hb4 D2 N2
  have HZ := Lib.hid zero4_size
  go_wp2_with (fail)
  refine (jwrite_fit _ D4.out u0 (by omega) fr 4 zero4 (by rw [HZ.out]) (by omega)).mono ?_
  rintro e w5 ⟨rfl, hv⟩
  have e5 : (x.put fr zero4 4).2 = true := H1.out
  rw [e5, fit_same u0] at hv
  rw [e5]
  have hops5 : (x.put fr zero4 4).1.ops ≤ x.ops + 4 := put_ops ..
  obtain ⟨x5, hx5⟩ : ∃ y, y = (x.put fr zero4 4).1 := ⟨_, rfl⟩
  rw [← hx5] at hv hops5
  have HX5 := Lib.hid hx5
  obtain ⟨S5, d5, o5, g5⟩ := hv
  have D5 := Lib.hid d5
  have O5 := Lib.hid o5
  have G5 := Lib.hid g5
  clear d5 o5 g5 hx5 e5 D4
  rw [show wrCode true = 0 from rfl]
  go_wp2_with (fail)
  have hc := check_ok _ D5.out HFit.out t HW.out (by omega) (by omega) (HX5.out ▸ H2.out) (HX5.out ▸ H3.out)
  refine hc.mono ?_; rintro e w6 ⟨rfl, hv⟩
  rw [HX5.out] at hv
  have HV := Lib.hid (made_of_jout N4.out (JOut.trans O5.out G5.out hv))
  clear hv hc
  rw [HJ0.out] at HV
  go_wp2_with (fail)
  go_ret2
  exact HV.out
end Go.Proofs.YtglfjlbhjaemgaaGreatDoor
