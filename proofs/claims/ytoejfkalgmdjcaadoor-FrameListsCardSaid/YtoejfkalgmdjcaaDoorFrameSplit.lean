/- The writes whose text this is: the code's Split. -/
import Derived.Test.YtoejfkalgmdjcaaDoorFrameWrites
import Derived.Maps.AppendAt
import Derived.Laws.OwnMore
namespace Go.Proofs.YtoejfkalgmdjcaaDoor
open Go.RowKit
def wrCells (l : List Wr) : List Value := l.flatMap fun h => [.int .i64 h.1, .string h.2]
theorem wrCells_length (l : List Wr) : (wrCells l).length = l.length * 2 := by
  unfold wrCells
  induction l with
  | nil => rfl
  | cons h l ih => simp only [List.flatMap_cons, List.length_append, ih, List.length_cons, List.length_nil]; omega
theorem wrCells_at {l : List Wr} {k : Nat} {h : Wr} (hk : l[k]? = some h) : (wrCells l)[k * 2]? = some (.int .i64 h.1) ∧ (wrCells l)[k * 2 + 1]? = some (.string h.2) := by
  induction l generalizing k with
  | nil => cases hk
  | cons x l ih =>
    show ([.int .i64 x.1, .string x.2] ++ wrCells l)[k * 2]? = _ ∧ ([.int .i64 x.1, .string x.2] ++ wrCells l)[k * 2 + 1]? = _
    cases k with
    | zero => simp at hk; subst hk; exact ⟨rfl, rfl⟩
    | succ k =>
      have := ih (k := k) (by simpa using hk)
      rw [List.getElem?_append_right (by simp; omega), List.getElem?_append_right (by simp; omega)]
      simp only [List.length_cons, List.length_nil]
      rw [show (k + 1) * 2 - (0 + 1 + 1) = k * 2 by omega, show (k + 1) * 2 + 1 - (0 + 1 + 1) = k * 2 + 1 by omega]
      exact this
theorem wrCells_snoc (l : List Wr) (x : Wr) : wrCells (l ++ [x]) = wrCells l ++ [.int .i64 x.1, .string x.2] := by simp [wrCells]
theorem own_form {w : World} {base : Nat} {e : TypeId} {size n : Nat} {v : Value} {xs : List Value} (h : w.ownsRow base e size v n xs) : ∃ A c, v = .slice A n c := by
  rcases h.2 with ⟨rfl, rfl⟩ | ⟨g, cap, cur, rfl, _⟩
  · exact ⟨_, _, rfl⟩
  · exact ⟨_, _, rfl⟩
/-- A slice of writes of its own. -/
theorem wrs_of_own {w : World} {base n : Nat} {v : Value} {l : List Wr} (h : w.ownsRow base 40 2 v n (wrCells l)) : ∃ A c, v = .slice A l.length c ∧ Wrs w A l := by
  have hl : l.length = n := by have := h.1; rw [wrCells_length] at this; omega
  obtain ⟨A, c, rfl⟩ := own_form h
  subst hl
  refine ⟨A, c, rfl, fun hn => ?_⟩
  rcases h.2 with ⟨_, h0⟩ | ⟨g, cap, cur, hv, _, hg, _, _, _, ht⟩
  · omega
  · injection hv with hA _ _
    refine ⟨g, 0, hA, fun j x hj => ?_⟩
    have hb : Blk w g 40 cur := hg
    have hlt := (List.getElem?_eq_some_iff.1 hj).1
    obtain ⟨h1, h2⟩ := wrCells_at hj
    rw [← ht, List.getElem?_take, if_pos (by omega)] at h1 h2
    rw [Nat.zero_add, hb.cell, hb.cell]
    exact ⟨by simpa using h1, by simpa using h2⟩
theorem info40 : (Tryd.prog.info? 40).map (fun i => (i.zero, i.size, i.bytes)) = some (some (.agg #[.int .i64 0, .string ⟨#[]⟩]), 2, 24) := by kernel_rfl
theorem size40 : (Tryd.prog.info? 40).map (·.size) = some 2 := by kernel_rfl
/-- The place and the data of write k of a text. -/
def placeS (s : ByteArray) (k : Nat) : Nat := bigV (readV s (4 + 516 * k)) 4
def dataS (s : ByteArray) (k : Nat) : ByteArray := s.extract (8 + 516 * k) (520 + 516 * k)
def countS (s : ByteArray) : Nat := bigV (readV s 0) 4
def splitL (s : ByteArray) (k : Nat) : List Wr := (List.range k).map fun i => ((placeS s i : Int), dataS s i)
theorem splitL_succ (s : ByteArray) (k : Nat) : splitL s (k + 1) = splitL s k ++ [((placeS s k : Int), dataS s k)] := by simp [splitL, List.range_succ]
theorem splitL_length (s : ByteArray) (k : Nat) : (splitL s k).length = k := by simp [splitL]
/-- A text is one of writes. -/
structure SplitOk (s : ByteArray) : Prop where
  lo : 4 ≤ s.size
  few : countS s ≤ 80
  places : ∀ k, k < countS s → placeS s k < 8192
  size : s.size = 4 + 516 * countS s
set_option maxHeartbeats 1000000 in
theorem write_ok (b : Nat) (r : ByteArray) (v : Nat) (w : World) (h : Rd w b r) (hn : 516 ≤ r.size) (hr : r.size ≤ 100000) (hv : bigR (r.extract 0 4) 0 4 = v) (hm : v < 8192) :
    Calls Tryd.prog 50 #[.pointer (some ⟨b, 0, none⟩)] w fun e w' => e = .returned (.agg #[.int .i64 v, .string (r.extract 4 516)]) ∧ RdOut b w (r.extract 516 r.size) w' := by
  have hlt := Blk.lt h
  have hz4 := ext_size r 4 r.size (Nat.le_refl _)
  have e1 : (r.extract 4 r.size).extract 0 512 = r.extract 4 516 := cutTo r 4 r.size 0 512 _ _ (by omega) rfl rfl
  have e2 : (r.extract 4 r.size).extract 512 (r.extract 4 r.size).size = r.extract 516 r.size := by rw [hz4]; exact cutTo r 4 r.size _ _ _ _ (by omega) rfl (by omega)
  have hz5 := ext_size r 4 516 (by omega)
  have E1 := Lib.hid e1; have E2 := Lib.hid e2; clear e1 e2
  have hx : Rd (w.alloc (.cells #[.int .i64 0, .string ⟨#[]⟩] 40)) b r := Blk.alloc h _
  have HQ := Lib.hid (Blk.new w 40 #[.int .i64 0, .string ⟨#[]⟩])
  have HX := Lib.hid hx; clear hx
  go_enter Tryd.func50, Tryd.ntmps50
  go_wp2_with (fail)
  refine (number_yes b r 4 v 8191 _ HX.out (by omega) (by omega) (by omega) hv (by omega)).mono ?_; rintro e w1 ⟨rfl, ho⟩
  have hq1 := HQ.out.only ho.2 (fun e => by unfold itsR at e; omega)
  have O1 := Lib.hid ho; clear ho
  have HQ1 := Lib.hid hq1; clear hq1
  go_wp2_with (fail)
  refine (take_yes b _ 512 _ O1.out.1 (by omega)).mono ?_; rintro e w' ⟨rfl, rfl⟩
  rw [E1.out, E2.out]
  have O2 := Lib.hid (O1.out.trans (RdOut.of_put O1.out.1 (r.extract 516 r.size)))
  have HQ2 := Lib.hid (HQ1.out.far (p := ⟨b, 0, none⟩) (by show w.heap.size ≠ b; omega) (.string (r.extract 516 r.size)))
  go_wp2_with (fail)
  refine (clone_any _ _ (by omega)).mono ?_; rintro e w3 ⟨rfl, hb3⟩
  have hq3 := HQ2.out.below hb3 HQ2.out.lt
  have O3 := Lib.hid (O2.out.below hb3); clear hb3
  have c0 : w3.cell? ⟨w.heap.size, 0, none⟩ = some (.int .i64 0) := hq3.cell 0
  have c1 : w3.cell? ⟨w.heap.size, 1, none⟩ = some (.string ⟨#[]⟩) := hq3.cell 1
  have f0 := hq3.free 0
  have f1 := hq3.free 1
  have HQ3 := Lib.hid hq3; clear hq3
  go_wp2
  refine bodyPost_ret_by (results_cell_row rfl _ _ w.heap.size 40 #[.int .i64 v, .string (r.extract 4 516)] (0, 0) _ rfl ((HQ3.out.put 0 (.int .i64 v)).put 1 (.string (r.extract 4 516))) Tryd.underlying40 rfl size40) rfl ?_
  refine ⟨rfl, ⟨((O3.out.1 : Blk _ b 64 _).far (p := ⟨w.heap.size, 0, none⟩) (by show b ≠ w.heap.size; omega) _).far (p := ⟨w.heap.size, 1, none⟩) (by show b ≠ w.heap.size; omega) _, ?_⟩⟩
  have o1 : Only (itsR b) w w3 := ((Only.refl _ w).alloc _).trans O3.out.2 fun i hi => .inl hi
  exact (o1.setCell (p := ⟨w.heap.size, 0, none⟩) (.inr (Nat.le_refl _)) _).setCell (p := ⟨w.heap.size, 1, none⟩) (.inr (Nat.le_refl _)) _
set_option maxHeartbeats 1000000 in
theorem write_up (b : Nat) (r : ByteArray) (w : World) (h : Rd w b r) (hn : ¬ (516 ≤ r.size ∧ bigR (r.extract 0 4) 0 4 < 8192)) :
    Calls Tryd.prog 50 #[.pointer (some ⟨b, 0, none⟩)] w fun e w' => e = up 50 ∧ Only (itsR b) w w' := by
  have hz4 := ext_size r 4 r.size (Nat.le_refl _)
  obtain ⟨v, hv0⟩ : ∃ v, bigR (r.extract 0 4) 0 4 = v := ⟨_, rfl⟩
  rw [hv0] at hn
  have HV := Lib.hid hv0; clear hv0
  have hx : Rd (w.alloc (.cells #[.int .i64 0, .string ⟨#[]⟩] 40)) b r := Blk.alloc h _
  have HX := Lib.hid hx; clear hx
  have HO := Lib.hid ((Only.refl (itsR b) w).alloc (.cells #[.int .i64 0, .string ⟨#[]⟩] 40))
  by_cases h4 : 4 ≤ r.size
  · by_cases hv : v < 8192
    · have h5 : ¬ 512 ≤ (r.extract 4 r.size).size := by omega
      clear hn
      go_enter Tryd.func50, Tryd.ntmps50
      go_wp2_with (fail)
      refine (number_yes b r 4 v 8191 _ HX.out (by omega) (by omega) (by omega) HV.out (by omega)).mono ?_; rintro e w1 ⟨rfl, ho⟩
      have O1 := Lib.hid ho; clear ho
      go_wp2_with (fail)
      refine (take_no b _ 512 _ O1.out.1 h5).mono ?_; rintro e w' ⟨rfl, rfl⟩
      go_wp2
      exact ⟨rfl, rfl, HO.out.trans O1.out.2 fun i hi => .inl hi⟩
    · clear hn
      go_enter Tryd.func50, Tryd.ntmps50
      go_wp2_with (fail)
      refine (number_big b r 4 v 8191 _ HX.out (by omega) (by omega) (by omega) HV.out (by omega)).mono ?_; rintro e w1 ⟨rfl, ho⟩
      have O1 := Lib.hid ho; clear ho
      go_wp2
      exact ⟨rfl, rfl, HO.out.trans O1.out fun i hi => .inl hi⟩
  · clear hn
    go_enter Tryd.func50, Tryd.ntmps50
    go_wp2_with (fail)
    refine (number_short b r 4 8191 _ HX.out h4).mono ?_; rintro e w' ⟨rfl, rfl⟩
    go_wp2
    exact ⟨rfl, rfl, HO.out⟩
theorem cells_two (w : World) (x y : Value) (t : TypeId) {m : Nat} (hm : w.heap.size = m) : ∀ j u, [x, y][j]? = some u → (w.alloc (.cells #[x, y] t)).cell? ((⟨m, 0, none⟩ : Addr).add j) = some u := by
  subst hm
  intro j u hj
  match j, hj with
  | 0, hj => simp at hj; subst hj; simp [Addr.add]
  | 1, hj => simp at hj; subst hj; simp [Addr.add]
theorem two_cells {k : IntKind} {i : Int} {s : ByteArray} : ∀ u ∈ [Value.int k i, .string s], u.oneCell' = true := by
  intro u hu
  simp at hu
  rcases hu with rfl | rfl <;> rfl
theorem own_made (w : World) (B n : Nat) (hB : B ≤ w.heap.size) (hn : n ≤ maxLen) : (w.alloc (.cells (madeCells #[.int .i64 0, .string ⟨#[]⟩] (n * 2)) 40)).ownsRow B 40 2 (.slice (some ⟨w.heap.size, 0, none⟩) 0 n) 0 [] :=
  ⟨rfl, .inr ⟨w.heap.size, n, _, rfl, hB, heap_alloc_new w _, Nat.zero_le _, hn, size_madeCells _ _, by simp⟩⟩
/-- Of the loop of writes: the first k are read. -/
def RwAt (w : World) (b : Nat) (s : ByteArray) (n : Nat) (v i : Value) (wr : World) : Prop :=
  ∃ k : Nat, i = .int .u64 k ∧ k ≤ n ∧ 4 + 516 * k ≤ s.size ∧ (∀ j, j < k → placeS s j < 8192) ∧ wr.ownsRow w.heap.size 40 2 v k (wrCells (splitL s k)) ∧ Rd wr b (s.extract (4 + 516 * k) s.size) ∧ Only (itsR b) w wr
def Split34 (s : ByteArray) (b : Nat) (w : World) (e : Ending) (w' : World) : Prop :=
  ((SplitOk s ∧ ∃ A c, e = .returned (.slice A (countS s) c) ∧ Wrs w' A (splitL s (countS s))) ∨ (¬ SplitOk s ∧ e = up 50)) ∧ Only (itsR b) w w'
theorem count_of (s : ByteArray) (h : 4 ≤ s.size) : bigR (s.extract 0 4) 0 4 = countS s := big_ext s 0 4 0 4 (by omega) (by omega) (by omega) h
theorem place_of (s : ByteArray) (k : Nat) (h : 4 + 516 * k + 4 ≤ s.size) : bigR ((s.extract (4 + 516 * k) s.size).extract 0 4) 0 4 = placeS s k := by
  rw [cut2 s (4 + 516 * k) s.size 0 4 (by omega)]
  exact big_ext s (4 + 516 * k) (4 + 516 * k + 4) 0 4 (by omega) (by omega) (by omega) (by omega)
set_option maxRecDepth 100000 in
set_option maxHeartbeats 1000000 in
theorem rwrites_in (b : Nat) (s : ByteArray) (w : World) (h : Rd w b s) (hs : s.size ≤ 100000) (h4 : 4 ≤ s.size) (h80 : countS s ≤ 80) :
    Calls Tryd.prog 34 #[.pointer (some ⟨b, 0, none⟩)] w fun e w' => Split34 s b w e w' := by
  have hlt := Blk.lt h
  have hc := count_of s h4
  have hz4 := ext_size s 4 s.size (Nat.le_refl _)
  obtain ⟨n, hn⟩ : ∃ n, countS s = n := ⟨_, rfl⟩
  rw [hn] at hc h80
  have HN := Lib.hid hn; clear hn
  obtain ⟨i0, hi0, hz0, hz1, hz2⟩ := info_parts info40
  have H := Lib.hid h; clear h
  go_enter Tryd.func34, Tryd.ntmps34
  go_wp2_with (fail)
  refine (number_yes b s 4 n 80 _ H.out (by omega) (by omega) (by omega) hc (by omega)).mono ?_; rintro e w1 ⟨rfl, ho⟩
  have O1 := Lib.hid ho; clear ho
  have hmk := run_make (P := Tryd.prog) w1 38 40 i0 _ Tryd.underlying38 hi0 hz0 .i64 .u64 0 (n : Int) (by omega) (by omega) (by rw [hz2]; omega) (by omega)
  go_wp2_with (fail)
  have HO0 := Lib.hid ((O1.out.2).alloc (.cells (madeCells #[.int .i64 0, .string ⟨#[]⟩] (n * 2)) 40))
  have HR0 := Lib.hid (show Rd (w1.alloc (.cells (madeCells #[.int .i64 0, .string ⟨#[]⟩] (n * 2)) 40)) b (s.extract (4 + 516 * 0) s.size) from Blk.alloc O1.out.1 _)
  have HW0 := Lib.hid (own_made w1 w.heap.size n O1.out.2.size (by unfold maxLen; omega))
  clear hmk
  go_loopw [4, 10] (fun v i wr => RwAt w b s n v i wr) (fun _ i _ => n - (intOf i).toNat)
  case atStart => exact ⟨0, rfl, Nat.zero_le _, by omega, fun j hj => absurd hj (Nat.not_lt_zero _), HW0.out, HR0.out, HO0.out⟩
  case round =>
    obtain ⟨k, rfl, hk, hks, hpl, hown, hrd, hon⟩ := hrel
    obtain ⟨A1, c1, rfl⟩ := own_form hown
    have HPL := Lib.hid hpl; clear hpl
    have HRD := Lib.hid hrd; clear hrd
    have HON := Lib.hid hon; clear hon
    have hzr := ext_size s (4 + 516 * k) s.size (Nat.le_refl _)
    by_cases hlt2 : k < n
    · have hki : (k : Int) < n := by omega
      by_cases hgo : 516 ≤ (s.extract (4 + 516 * k) s.size).size ∧ bigR ((s.extract (4 + 516 * k) s.size).extract 0 4) 0 4 < 8192
      · obtain ⟨hg1, hg2⟩ := hgo
        have hpo := place_of s k (by omega)
        rw [hpo] at hg2
        have e1 : (s.extract (4 + 516 * k) s.size).extract 4 516 = dataS s k := cutTo s _ s.size 4 516 _ _ (by omega) (by omega) (by omega)
        have e2 : (s.extract (4 + 516 * k) s.size).extract 516 (s.extract (4 + 516 * k) s.size).size = s.extract (4 + 516 * (k + 1)) s.size := by rw [hzr]; exact cutTo s _ s.size _ _ _ _ (by omega) (by omega) (by omega)
        have E1 := Lib.hid e1; have E2 := Lib.hid e2; clear e1 e2
        have HOW := Lib.hid hown; clear hown
        have hkw : IntKind.u64.wrap ((k : Int) + 1) = (k : Int) + 1 := by rw [IntKind.wrap_u64]; omega
        go_wp2_with (fail)
        refine (write_ok b _ (placeS s k) _ HRD.out hg1 (by omega) hpo hg2).mono ?_; rintro e w3 ⟨rfl, ho⟩
        rw [E2.out] at ho
        rw [E1.out]
        have hown3 := own_keep HOW.out (w' := w3) (fun g hg => ho.2.block g (HOW.out.lt g hg).2 (fun e => by unfold itsR at e; have := (HOW.out.lt g hg).1; omega))
        have HO3 := Lib.hid ((hown3.alloc (.cells #[.int .i64 (placeS s k : Nat), .string (dataS s k)] 40)))
        have HB3 := Lib.hid (HON.out.trans ho.2 fun _ hi => .inl hi)
        have HR3 := Lib.hid ho.1
        clear hown3 ho
        have HM := Lib.hid (show k + 1 ≤ maxLen by unfold maxLen; omega)
        have HY := Lib.hid (show (k + 1) * 24 ≤ 140737488355328 by omega)
        have HBS := Lib.hid (show w.heap.size ≤ (w3.alloc (.cells #[.int .i64 (placeS s k : Nat), .string (dataS s k)] 40)).heap.size by have := HB3.out.size; simp; omega)
        go_wp2_with (at_builtin; refine wpList_append_own_at _ rfl (.tmp 12) (.tmp 15) _ rfl w.heap.size 40 i0 _ 2 24 Tryd.underlying38 hi0 hz0 hz1 hz2 rfl (by omega) (.slice A1 k c1) k (wrCells (splitL s k)) rfl HO3.out _ 1 1 [.int .i64 (placeS s k : Nat), .string (dataS s k)] rfl rfl (cells_two _ _ _ _ rfl) two_cells HM.out HY.out HBS.out ?_; intro v4 w4 hown4 hg4 hn4 hat4; have HW4 := Lib.hid hown4; have HG4 := Lib.hid hg4; clear hown4 hg4 hn4 hat4)
        go_roundw
        case rel =>
          refine ⟨k + 1, by go_num, by omega, by omega, fun j hj => ?_, by rw [splitL_succ, wrCells_snoc]; exact HW4.out, ?_, ?_⟩
          · by_cases hjk : j < k
            · exact HPL.out j hjk
            · have : j = k := by omega
              subst this
              exact hg2
          · exact (Blk.alloc HR3.out _).grown HG4.out (fun e => by have := (HOW.out.lt b e.symm).1; omega)
          · exact (HB3.out.alloc _).grown HG4.out (fun g hg => .inr (HOW.out.lt g hg).1)
        case measure => simp [intOf]; omega
      · have hbad : ¬ SplitOk s := fun hh => hgo (by
          have h1 := hh.size
          have h2 := hh.places k (by rw [HN.out]; exact hlt2)
          rw [HN.out] at h1
          refine ⟨by omega, ?_⟩
          rw [place_of s k (by omega)]
          exact h2)
        have HBAD := Lib.hid hbad; clear hbad
        have HGO := Lib.hid hgo; clear hgo hown
        go_wp2_with (fail)
        refine (write_up b _ _ HRD.out HGO.out).mono ?_; rintro e w3 ⟨rfl, ho⟩
        have O3 := Lib.hid (HON.out.trans ho fun _ hi => .inl hi); clear ho
        go_wp2
        exact ⟨rfl, .inr ⟨HBAD.out, rfl⟩, O3.out⟩
    · obtain rfl : k = n := by omega
      have hki : ¬ (k : Int) < k := by omega
      by_cases hend : s.size = 4 + 516 * k
      · have hok : SplitOk s := ⟨h4, by rw [HN.out]; exact h80, fun j hj => HPL.out j (by rw [HN.out] at hj; exact hj), by rw [HN.out]; exact hend⟩
        have hnil : s.extract (4 + 516 * k) s.size = ⟨#[]⟩ := by
          apply bytes_ext
          rw [ext_list, hend]
          apply List.drop_eq_nil_of_le
          rw [List.length_take]; omega
        obtain ⟨A, c, hAc, hw⟩ := wrs_of_own hown
        rw [splitL_length] at hAc
        injection hAc with hA1 _ hc1
        subst hA1; subst hc1
        have HOK := Lib.hid hok; have HNIL := Lib.hid hnil; have HWR := Lib.hid hw; clear hok hnil hw hown
        go_wp2_with (fail)
        refine (end_yes b _ _ HRD.out HNIL.out).mono ?_; rintro e w' ⟨rfl, rfl⟩
        go_wp2
        go_ret
        exact ⟨.inl ⟨HOK.out, _, _, by rw [HN.out]; rfl, by rw [HN.out]; exact HWR.out⟩, HON.out⟩
      · have hbad : ¬ SplitOk s := fun hh => hend (by have := hh.size; rw [HN.out] at this; exact this)
        have HBAD := Lib.hid hbad; clear hbad hown
        go_wp2_with (fail)
        refine (end_no b _ _ HRD.out (by omega)).mono ?_; rintro e w' ⟨rfl, rfl⟩
        go_wp2
        exact ⟨rfl, .inr ⟨HBAD.out, rfl⟩, HON.out⟩
set_option maxHeartbeats 1000000 in
theorem rwrites_any (b : Nat) (s : ByteArray) (w : World) (h : Rd w b s) (hs : s.size ≤ 100000) :
    Calls Tryd.prog 34 #[.pointer (some ⟨b, 0, none⟩)] w fun e w' => Split34 s b w e w' := by
  by_cases h4 : 4 ≤ s.size
  · by_cases h80 : countS s ≤ 80
    · exact rwrites_in b s w h hs h4 h80
    · have hc := count_of s h4
      obtain ⟨n, hn⟩ : ∃ n, countS s = n := ⟨_, rfl⟩
      have hbad : ¬ SplitOk s := fun hh => h80 hh.few
      rw [hn] at hc h80
      have HBAD := Lib.hid hbad; clear hbad hn
      have H := Lib.hid h; clear h
      go_enter Tryd.func34, Tryd.ntmps34
      go_wp2_with (fail)
      refine (number_big b s 4 n 80 _ H.out (by omega) (by omega) (by omega) hc (by omega)).mono ?_; rintro e w1 ⟨rfl, ho⟩
      have O1 := Lib.hid ho; clear ho
      go_wp2
      exact ⟨rfl, .inr ⟨HBAD.out, rfl⟩, O1.out⟩
  · have hbad : ¬ SplitOk s := fun hh => h4 hh.lo
    have HBAD := Lib.hid hbad; clear hbad
    go_enter Tryd.func34, Tryd.ntmps34
    go_wp2_with (fail)
    refine (number_short b s 4 80 _ h h4).mono ?_; rintro e w' ⟨rfl, rfl⟩
    go_wp2
    exact ⟨rfl, .inr ⟨HBAD.out, rfl⟩, Only.refl _ _⟩
end Go.Proofs.YtoejfkalgmdjcaaDoor
