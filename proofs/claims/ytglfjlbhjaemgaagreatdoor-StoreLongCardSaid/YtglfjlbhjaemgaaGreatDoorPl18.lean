/- The frame with which a text begins, as the program's Get tells it. The frame of a number and a text: the code's and the document's. -/
import Derived.Test.YtglfjlbhjaemgaaGreatDoorPl17
import Derived.RegionTactic
import Derived.Test.YtglfjlbhjaemgaaGreatDoorPl15
namespace Go.Proofs.YtglfjlbhjaemgaaGreatDoor
open Go.RowKit
theorem Tab.away {w : World} (h : Tab w) : w.heap.size ≠ gTab := fun e => by
  have := h.pos
  unfold gTab at e
  omega
def three (a b c : Nat) : Nat → Prop := fun k => k = a ∨ k = b ∨ k = c
theorem clo_world {w w2 : World} {q : Nat} {o : Obj} (hq : q = w.heap.size) (h : Only (itsR q) (w.alloc o) w2) : Only nobody w w2 := by
  subst hq
  exact ((Only.refl nobody w).alloc o).trans h fun i hi => .inr (by unfold itsR at hi; omega)
set_option maxHeartbeats 400000 in
theorem getClo_up (s : ByteArray) (a p1 p2 p3 : Nat) (w : World) (hs : s.size ≤ maxLen) (ht : Tab w) (ha : w.cell? ⟨a, 0, none⟩ = some (.string s)) (he : 0 < getE s) :
    Calls Tryz.prog 213 #[.pointer (some ⟨a, 0, none⟩), .pointer (some ⟨p1, 0, none⟩), .pointer (some ⟨p2, 0, none⟩), .pointer (some ⟨p3, 0, none⟩)] w fun e w' =>
      e = up (getE s) ∧ Only nobody w w' := by
  have hne := ht.away
  have htw : Tab (w.alloc (.cells #[.string s] 313)) := ht.below ((Below.refl _ _).alloc (Nat.le_refl _) _)
  go_enter Tryz.func213, Tryz.ntmps213
  go_wp2_with (fail)
  refine (frame_any w.heap.size s _ (Blk.new w 313 _) hs htw hne).mono ?_; rintro e w1 ⟨hf, ho⟩
  rcases hf with ⟨h0, _⟩ | ⟨_, rfl⟩
  · omega
  have P := Lib.hid (clo_world rfl ho); clear ho
  go_wp2
  exact ⟨rfl, rfl, P.out⟩
set_option maxHeartbeats 400000 in
theorem getClo_ok (s : ByteArray) (a p1 p2 p3 : Nat) (w : World) (hs : s.size ≤ maxLen) (ht : Tab w) (ha : w.cell? ⟨a, 0, none⟩ = some (.string s)) (he : getE s = 0) (b1 : Blk w p1 133 #[.int .u64 0]) (b2 : Blk w p2 9 #[.string ⟨#[]⟩]) (b3 : Blk w p3 3 #[.int .i64 0]) :
    Calls Tryz.prog 213 #[.pointer (some ⟨a, 0, none⟩), .pointer (some ⟨p1, 0, none⟩), .pointer (some ⟨p2, 0, none⟩), .pointer (some ⟨p3, 0, none⟩)] w fun e w' =>
      e = .returned (.tuple #[]) ∧ Blk w' p1 133 #[.int .u64 (numF s)] ∧ Blk w' p2 9 #[.string (textF s)] ∧ Blk w' p3 3 #[.int .i64 (sizeF s)] ∧ Only (three p1 p2 p3) w w' := by
  have hne := ht.away
  have htw : Tab (w.alloc (.cells #[.string s] 313)) := ht.below ((Below.refl _ _).alloc (Nat.le_refl _) _)
  have B1 := Lib.hid b1; have B2 := Lib.hid b2; have B3 := Lib.hid b3; clear b1 b2 b3
  go_enter Tryz.func213, Tryz.ntmps213
  go_wp2_with (fail)
  refine (frame_any w.heap.size s _ (Blk.new w 313 _) hs htw hne).mono ?_; rintro e w1 ⟨hf, ho⟩
  rcases hf with ⟨_, rfl⟩ | ⟨h0, _⟩
  rotate_left
  · omega
  have P := Lib.hid (clo_world rfl ho); clear ho
  have c1 := B1.out.only P.out (fun h => h)
  have c2 := B2.out.only P.out (fun h => h)
  have c3 := B3.out.only P.out (fun h => h)
  have n12 : p1 ≠ p2 := Blk.apart c1 c2 (by decide)
  have n13 : p1 ≠ p3 := Blk.apart c1 c3 (by decide)
  have n23 : p2 ≠ p3 := Blk.apart c2 c3 (by decide)
  have d1 : w1.cell? ⟨p1, 0, none⟩ = some (.int .u64 0) := c1.cell 0
  have f1 := c1.free 0
  have d2 : w1.cell? ⟨p2, 0, none⟩ = some (.string ⟨#[]⟩) := c2.cell 0
  have f2 := c2.free 0
  have d3 : w1.cell? ⟨p3, 0, none⟩ = some (.int .i64 0) := c3.cell 0
  have f3 := c3.free 0
  have C1 := Lib.hid c1; have C2 := Lib.hid c2; have C3 := Lib.hid c3; clear c1 c2 c3
  go_wp2
  go_end0
  refine ⟨rfl, ((C1.out.put 0 _).far (p := ⟨p2, 0, none⟩) n12 _).far (p := ⟨p3, 0, none⟩) n13 _, ((C2.out.far (p := ⟨p1, 0, none⟩) (Ne.symm n12) _).put 0 _).far (p := ⟨p3, 0, none⟩) n23 _,
    ((C3.out.far (p := ⟨p1, 0, none⟩) (Ne.symm n13) _).far (p := ⟨p2, 0, none⟩) (Ne.symm n23) _).put 0 _, ?_⟩
  exact (((P.out.mono (fun _ h => h.elim)).setCell (p := ⟨p1, 0, none⟩) (.inl (.inl rfl)) _).setCell (p := ⟨p2, 0, none⟩) (.inl (.inr (.inl rfl))) _).setCell (p := ⟨p3, 0, none⟩) (.inl (.inr (.inr rfl))) _
/-- What Get tells of a text. -/
def gotV (s : ByteArray) : Value := if getE s = 0 then .tuple #[.int .u64 (numF s), .string (textF s), .int .i64 (sizeF s), .int .i64 0] else .tuple #[.int .u64 0, .string ⟨#[]⟩, .int .i64 0, .int .i64 (getE s)]
theorem gotV_ok {s : ByteArray} (h : getE s = 0) : gotV s = .tuple #[.int .u64 (numF s), .string (textF s), .int .i64 (sizeF s), .int .i64 0] := by unfold gotV; rw [if_pos h]
theorem gotV_no {s : ByteArray} (h : 0 < getE s) : gotV s = .tuple #[.int .u64 0, .string ⟨#[]⟩, .int .i64 0, .int .i64 (getE s)] := by unfold gotV; rw [if_neg (by omega)]
theorem getCatch_ok (s : ByteArray) (a p1 p2 p3 : Nat) (w : World) (hs : s.size ≤ maxLen) (ht : Tab w) (ha : w.cell? ⟨a, 0, none⟩ = some (.string s)) (he : getE s = 0) (b1 : Blk w p1 133 #[.int .u64 0]) (b2 : Blk w p2 9 #[.string ⟨#[]⟩]) (b3 : Blk w p3 3 #[.int .i64 0]) :
    Calls Tryz.prog 212 #[.func (.func 213) #[] #[.pointer (some ⟨a, 0, none⟩), .pointer (some ⟨p1, 0, none⟩), .pointer (some ⟨p2, 0, none⟩), .pointer (some ⟨p3, 0, none⟩)]] w fun e w' =>
      e = .returned (.int .i64 0) ∧ Blk w' p1 133 #[.int .u64 (numF s)] ∧ Blk w' p2 9 #[.string (textF s)] ∧ Blk w' p3 3 #[.int .i64 (sizeF s)] ∧ Only (three p1 p2 p3) w w' := by
  have hb := (Below.refl w.heap.size w).alloc (Nat.le_refl _) (.cells #[.int .i64 0] 30)
  have l1 := b1.lt
  have l2 := b2.lt
  have l3 := b3.lt
  have hA := ha
  refine (catch_get_ok _ _ _ _ w _ ?_ (getClo_ok s a p1 p2 p3 _ hs (ht.below hb) ((hb.cell (p := ⟨a, 0, none⟩) (World.block_lt_of_cell? w _ ha)).trans ha) he (b1.alloc _) (b2.alloc _) (b3.alloc _))).mono ?_
  · rintro w' ⟨_, _, _, ho⟩
    refine (Blk.new w 30 _).only ho fun h => ?_
    rcases h with h | h | h <;> omega
  · rintro e w' ⟨rfl, c1, c2, c3, ho⟩
    exact ⟨rfl, c1, c2, c3, ((Only.refl _ w).alloc _).trans ho fun i hi => .inl hi⟩
theorem getCatch_up (s : ByteArray) (a p1 p2 p3 : Nat) (w : World) (hs : s.size ≤ maxLen) (ht : Tab w) (ha : w.cell? ⟨a, 0, none⟩ = some (.string s)) (he : 0 < getE s) :
    Calls Tryz.prog 212 #[.func (.func 213) #[] #[.pointer (some ⟨a, 0, none⟩), .pointer (some ⟨p1, 0, none⟩), .pointer (some ⟨p2, 0, none⟩), .pointer (some ⟨p3, 0, none⟩)]] w fun e w' =>
      e = .returned (.int .i64 (getE s)) ∧ Only nobody w w' := by
  have hb := (Below.refl w.heap.size w).alloc (Nat.le_refl _) (.cells #[.int .i64 0] 30)
  refine (catch_get_up _ _ _ _ w _ _ ?_ (getClo_up s a p1 p2 p3 _ hs (ht.below hb) ((hb.cell (p := ⟨a, 0, none⟩) (World.block_lt_of_cell? w _ ha)).trans ha) he)).mono ?_
  · intro w' ho
    exact (Blk.new w 30 _).only ho fun h => h
  · rintro e w' ⟨rfl, w2, ho, rfl⟩
    exact ⟨rfl, (((Only.refl _ w).alloc _).trans ho fun i hi => .inl hi).setCell (.inr (Nat.le_refl _)) _⟩
theorem get_world (s : ByteArray) (w : World) (ht : Tab w) : ∀ w4, w4 = ((((w.alloc (Obj.cells #[Value.string s] 9)).alloc (Obj.cells #[Value.int IntKind.u64 0] 133)).alloc (Obj.cells #[Value.string ⟨#[]⟩] 9)).alloc (Obj.cells #[Value.int IntKind.i64 0] 3)) →
    Tab w4 ∧ w4.cell? ⟨w.heap.size, 0, none⟩ = some (.string s) ∧ Blk w4 (w.heap.size + 1) 133 #[.int .u64 0] ∧ Blk w4 (w.heap.size + 1 + 1) 9 #[.string ⟨#[]⟩] ∧ Blk w4 (w.heap.size + 1 + 1 + 1) 3 #[.int .i64 0] ∧ Below w.heap.size w w4 := by
  rintro w4 rfl
  have h1 := (Below.refl w.heap.size w).alloc (Nat.le_refl _) (Obj.cells #[Value.string s] 9)
  have h2 := h1.alloc h1.size (Obj.cells #[Value.int IntKind.u64 0] 133)
  have h3 := h2.alloc h2.size (Obj.cells #[Value.string ⟨#[]⟩] 9)
  have h4 := h3.alloc h3.size (Obj.cells #[Value.int IntKind.i64 0] 3)
  have b0 := (((Blk.new w 9 #[Value.string s]).alloc (Obj.cells #[Value.int IntKind.u64 0] 133)).alloc (Obj.cells #[Value.string ⟨#[]⟩] 9)).alloc (Obj.cells #[Value.int IntKind.i64 0] 3)
  have b1 := ((Blk.new (w.alloc (Obj.cells #[Value.string s] 9)) 133 #[Value.int IntKind.u64 0]).alloc (Obj.cells #[Value.string ⟨#[]⟩] 9)).alloc (Obj.cells #[Value.int IntKind.i64 0] 3)
  have b2 := (Blk.new ((w.alloc (Obj.cells #[Value.string s] 9)).alloc (Obj.cells #[Value.int IntKind.u64 0] 133)) 9 #[Value.string ⟨#[]⟩]).alloc (Obj.cells #[Value.int IntKind.i64 0] 3)
  have b3 := Blk.new (((w.alloc (Obj.cells #[Value.string s] 9)).alloc (Obj.cells #[Value.int IntKind.u64 0] 133)).alloc (Obj.cells #[Value.string ⟨#[]⟩] 9)) 3 #[Value.int IntKind.i64 0]
  refine ⟨ht.below h4, b0.cell 0, by simpa using b1, by simpa using b2, by simpa using b3, h4⟩
set_option maxHeartbeats 1000000 in
theorem get_ok (s : ByteArray) (w : World) (hs : s.size ≤ maxLen) (ht : Tab w) (he : getE s = 0) :
    Calls Tryz.prog 195 #[.string s] w fun e w' => e = .returned (.tuple #[.int .u64 (numF s), .string (textF s), .int .i64 (sizeF s), .int .i64 0]) ∧ Below w.heap.size w w' := by
  have hmf : ∀ (fn : Fn) (first cap : Array Value) (w : World), (Instr.makeFunc fn first cap).run Tryz.prog w = .ok (.func fn first cap) w := fun _ _ _ _ => rfl
  have HW := Lib.hid (get_world s w ht); clear ht
  go_enter Tryz.func195, Tryz.ntmps195
  go_wp2_with (fail)
  have HF := Lib.hid (HW.out _ rfl); clear HW
  refine (getCatch_ok s _ _ _ _ _ hs HF.out.1 HF.out.2.1 he HF.out.2.2.1 HF.out.2.2.2.1 HF.out.2.2.2.2.1).mono ?_; rintro e w5 ⟨rfl, c1, c2, c3, ho⟩
  have d1 : w5.cell? ⟨w.heap.size + 1, 0, none⟩ = some (.int .u64 (numF s)) := c1.cell 0
  have f1 := c1.free 0
  have d2 : w5.cell? ⟨w.heap.size + 1 + 1, 0, none⟩ = some (.string (textF s)) := c2.cell 0
  have f2 := c2.free 0
  have d3 : w5.cell? ⟨w.heap.size + 1 + 1 + 1, 0, none⟩ = some (.int .i64 (sizeF s)) := c3.cell 0
  have f3 := c3.free 0
  have e1 := set_same c1
  have e2 := set_same c2
  have e3 := set_same c3
  have P := Lib.hid (show Below w.heap.size w w5 from HF.out.2.2.2.2.2.trans (ho.toBelow HF.out.2.2.2.2.2.size fun k hk => by rcases hk with h | h | h <;> omega)); clear ho HF
  clear c1 c2 c3
  go_wp2
  go_region
  go_wp2
  refine bodyPost_ret (by simp [results, Tryz.results195, go_sem, d1, d2, d3]; try rfl) rfl ?_
  exact ⟨rfl, P.out.drew⟩
set_option maxHeartbeats 1000000 in
theorem get_up (s : ByteArray) (w : World) (hs : s.size ≤ maxLen) (ht : Tab w) (he : 0 < getE s) :
    Calls Tryz.prog 195 #[.string s] w fun e w' => e = .returned (.tuple #[.int .u64 0, .string ⟨#[]⟩, .int .i64 0, .int .i64 (getE s)]) ∧ Below w.heap.size w w' := by
  have hmf : ∀ (fn : Fn) (first cap : Array Value) (w : World), (Instr.makeFunc fn first cap).run Tryz.prog w = .ok (.func fn first cap) w := fun _ _ _ _ => rfl
  have HW := Lib.hid (get_world s w ht); clear ht
  go_enter Tryz.func195, Tryz.ntmps195
  go_wp2_with (fail)
  have HF := Lib.hid (HW.out _ rfl); clear HW
  refine (getCatch_up s _ _ _ _ _ hs HF.out.1 HF.out.2.1 he).mono ?_; rintro e w5 ⟨rfl, ho⟩
  have c1 := HF.out.2.2.1.only ho fun h => h
  have c2 := HF.out.2.2.2.1.only ho fun h => h
  have c3 := HF.out.2.2.2.2.1.only ho fun h => h
  have d1 : w5.cell? ⟨w.heap.size + 1, 0, none⟩ = some (.int .u64 0) := c1.cell 0
  have f1 := c1.free 0
  have d2 : w5.cell? ⟨w.heap.size + 1 + 1, 0, none⟩ = some (.string ⟨#[]⟩) := c2.cell 0
  have f2 := c2.free 0
  have d3 : w5.cell? ⟨w.heap.size + 1 + 1 + 1, 0, none⟩ = some (.int .i64 0) := c3.cell 0
  have f3 := c3.free 0
  have e1 := set_same c1
  have e2 := set_same c2
  have e3 := set_same c3
  have P := Lib.hid (show Below w.heap.size w w5 from HF.out.2.2.2.2.2.trans (ho.toBelow HF.out.2.2.2.2.2.size fun k hk => hk.elim)); clear ho HF
  clear c1 c2 c3
  go_wp2
  go_region
  go_wp2
  refine bodyPost_ret (by simp [results, Tryz.results195, go_sem, d1, d2, d3]; try rfl) rfl ?_
  exact ⟨rfl, P.out.drew⟩
theorem get_any (s : ByteArray) (w : World) (hs : s.size ≤ maxLen) (ht : Tab w) :
    Calls Tryz.prog 195 #[.string s] w fun e w' => e = .returned (gotV s) ∧ Below w.heap.size w w' := by
  by_cases he : getE s = 0
  · rw [gotV_ok he]; exact get_ok s w hs ht he
  · have he' : 0 < getE s := by omega
    rw [gotV_no he']; exact get_up s w hs ht he'
open Go.RowKit
def padS (s : ByteArray) : ByteArray := if s.size % 512 = 0 then s else padB s 512
theorem padAny (s : ByteArray) (w : World) (hs : s.size ≤ 100000) : Calls Tryz.prog 205 #[.string s, .int .i64 512] w fun e w' => e = .returned (.string (padS s)) ∧ Below w.heap.size w w' := by
  unfold padS
  by_cases h : s.size % 512 = 0
  · rw [if_pos h]; exact pad_same s 512 w hs (by omega)
  · rw [if_neg h]; exact pad_more s 512 w hs (by omega) (by omega) h
def headS (n k : Nat) : ByteArray := markS ++ putHi n 8 ++ putHi k 4
def sealS (s : ByteArray) : ByteArray := s ++ digV s
/-- The frame of a number and a text. -/
def putS (n : Nat) (t : ByteArray) : ByteArray := padS (sealS (headS n t.size) ++ sealS t)
theorem putHi_size (x n : Nat) (h1 : 1 ≤ n) (h8 : n ≤ 8) : (putHi x n).size = n := by rw [putHi_yes h1 h8, Lib.size_mk, outB_length]
theorem putLo_size (x n : Nat) (h1 : 1 ≤ n) (h8 : n ≤ 8) : (putLo x n).size = n := by rw [putLo_yes h1 h8, Lib.size_mk, outB_length]
theorem digV_size (s : ByteArray) : (digV s).size = 4 := putLo_size _ 4 (by decide) (by decide)
theorem putHi8 (x : Nat) : (putHi x 8).size = 8 := putHi_size x 8 (by decide) (by decide)
theorem putHi4 (x : Nat) : (putHi x 4).size = 4 := putHi_size x 4 (by decide) (by decide)
theorem headS_size (n k : Nat) : (headS n k).size = 16 := by
  unfold headS
  rw [ByteArray.size_append, ByteArray.size_append, putHi8, putHi4]
  rfl
theorem sealS_size (s : ByteArray) : (sealS s).size = s.size + 4 := by unfold sealS; rw [ByteArray.size_append, digV_size]
theorem seal_any (s : ByteArray) (w : World) (hl : s.size ≤ 140737488355328) (ht : Tab w) : Calls Tryz.prog 206 #[.string s] w fun e w' => e = .returned (.string (sealS s)) ∧ Below w.heap.size w w' := by
  have hd := digV_size s
  go_enter Tryz.func206, Tryz.ntmps206
  go_wp2_with (fail)
  refine (digest_any s _ (by unfold maxLen; omega) ht).mono ?_; rintro e w1 ⟨rfl, hb⟩
  go_wp2
  go_ret
  exact ⟨rfl, hb⟩
set_option maxHeartbeats 400000 in
theorem put_ok (n : Nat) (t : ByteArray) (w : World) (h : t.size ≤ 65536) (ht : Tab w) : Calls Tryz.prog 187 #[.int .u64 n, .string t] w fun e w' => e = .returned (.tuple #[.string (putS n t), .int .i64 0]) ∧ Below w.heap.size w w' := by
  have hi : (t.size : Int) ≤ 65536 := by omega
  have z1 := headS_size n t.size
  have z2 := sealS_size (headS n t.size)
  have z3 := sealS_size t
  have p1 := putHi8 n
  have p2 := putHi4 t.size
  have pm : markS.size = 4 := rfl
  have HT := Lib.hid ht; clear ht
  have E : Hid (markS ++ putHi n 8 ++ putHi t.size 4 = headS n t.size) := Lib.hid rfl
  go_enter Tryz.func187, Tryz.ntmps187
  go_wp2_with (fail)
  refine (putBig_any n 8 _).mono ?_; rintro e w1 ⟨rfl, hb1⟩
  have H1 := Lib.hid hb1; clear hb1
  go_wp2_with (fail)
  refine (putBig_any t.size 4 _).mono ?_; rintro e w2 ⟨rfl, hb2⟩
  have H2 := Lib.hid (H1.out.trans (hb2.mono H1.out.size)); clear hb2
  rw [show ({ data := #[72, 71, 70, 82] } : ByteArray) ++ putHi n 8 = markS ++ putHi n 8 from rfl]
  go_wp2_with (fail)
  rw [E.out]
  refine (seal_any (headS n t.size) _ (by omega) (HT.out.below H2.out)).mono ?_; rintro e w3 ⟨rfl, hb3⟩
  have H3 := Lib.hid (H2.out.trans (hb3.mono H2.out.size)); clear hb3
  go_wp2_with (fail)
  refine (seal_any t _ (by omega) (HT.out.below H3.out)).mono ?_; rintro e w4 ⟨rfl, hb4⟩
  have H4 := Lib.hid (H3.out.trans (hb4.mono H3.out.size)); clear hb4
  have z5 : (sealS (headS n t.size) ++ sealS t).size ≤ 100000 := by rw [ByteArray.size_append]; omega
  go_wp2_with (fail)
  refine (padAny _ _ z5).mono ?_; rintro e w5 ⟨rfl, hb5⟩
  have H5 := Lib.hid (H4.out.trans (hb5.mono H4.out.size)); clear hb5
  go_wp2
  go_ret2
  exact ⟨rfl, H5.out⟩
end Go.Proofs.YtglfjlbhjaemgaaGreatDoor
