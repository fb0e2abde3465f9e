/- The table of classes that names makes, at every world. Name of the code and of the document: both answer nameB. Name of the document answers nameB. -/
import Derived.Test.YtgekadfkokkapaaDoorRows
import Derived.WalkKit
import Derived.WalkSpells
import Derived.WalkLawsBesides
import Derived.Lib.Hide
import Derived.IntWalk
import Derived.Deep.QuietTactic
import Derived.BigQuiet
import Derived.Deep.Cut
import Derived.Laws.CopyOwn
namespace Go.Proofs.YtgekadfkokkapaaDoor
open Go.RowKit
theorem wpList_runs {P : Program} {ops : Array Oper} {rest : List Oper} {o : Oper} {a : Act} {w : World} {Q : Exit → Act → World → Prop} (hg : o.guard = none) (dst : Option Tmp) (hdst : o.dst = dst)
    (v : Value) (w' : World) (hrun : (execOp a.eval o).run P w = .ok (.value v) w')
    (h : wpList P ops Q rest (a.put dst v) w') : wpList P ops Q (o :: rest) a w :=
  wpList_plain hg fun K hK => by
    subst hdst
    unfold Oper.wp
    rw [hrun, Oper.upon_value]
    exact hK _ _ h
def tabZ : Array Value := Array.replicate 256 (.int .i64 0)
def tabL : Nat → Array Value
  | 0 => tabZ
  | k + 1 => (tabL k).setIfInBounds (97 + k) (.int .i64 1)
def tabD : Nat → Array Value
  | 0 => tabL 26
  | k + 1 => (tabD k).setIfInBounds (48 + k) (.int .i64 2)
def tabE1 : Array Value := (tabD 10).setIfInBounds 46 (.int .i64 3)
def tabE2 : Array Value := tabE1.setIfInBounds 45 (.int .i64 3)
def tabM : Array Value := tabE2.setIfInBounds 58 (.int .i64 3)
theorem tabZ_size : tabZ.size = 256 := by unfold tabZ; simp
theorem tabL_size (k : Nat) : (tabL k).size = 256 := by
  induction k with
  | zero => exact tabZ_size
  | succ k ih => unfold tabL; simpa using ih
theorem tabD_size (k : Nat) : (tabD k).size = 256 := by
  induction k with
  | zero => exact tabL_size 26
  | succ k ih => unfold tabD; simpa using ih
theorem tabE1_size : tabE1.size = 256 := by unfold tabE1; simpa using tabD_size 10
theorem tabE2_size : tabE2.size = 256 := by unfold tabE2; simpa using tabE1_size
theorem tabM_size : tabM.size = 256 := by unfold tabM; simpa using tabE2_size
theorem tabM_info : (Tryd.prog.info? 83).map (·.size) = some tabM.size := by rw [tabM_size]; kernel_rfl
theorem heap_second (w : World) (o p : Obj) : ((w.alloc o).alloc p).heap[w.heap.size + 1]? = some p := by
  show ((w.heap.push o).push p)[w.heap.size + 1]? = some p
  rw [Array.getElem?_push, if_pos (by simp)]
theorem heap_first (w : World) (o p : Obj) : ((w.alloc o).alloc p).heap[w.heap.size]? = some o := by
  show ((w.heap.push o).push p)[w.heap.size]? = some o
  rw [Array.getElem?_push, if_neg (by simp), Array.getElem?_push, if_pos rfl]
def clsF (i : Nat) : Int := if 97 ≤ i ∧ i ≤ 122 then 1 else if 48 ≤ i ∧ i ≤ 57 then 2 else if i = 45 ∨ i = 46 ∨ i = 58 then 3 else 0
def clsA : Array Value := Array.ofFn (n := 256) fun i => .int .i64 (clsF i)
theorem tabM_is : tabM = clsA := by kernel_rfl
theorem clsA_at (i : Nat) (h : i < 256) : clsA[i]? = some (.int .i64 (clsF i)) := by
  unfold clsA
  rw [Array.getElem?_ofFn, dif_pos h]
theorem clsA_size : clsA.size = 256 := by unfold clsA; simp
theorem some_at {a : Array Value} {n : Nat} (h : a.size = 256) (hn : n < 256) : ∃ v, a[n]? = some v := ⟨_, Array.getElem?_eq_getElem (by omega)⟩
set_option maxRecDepth 100000 in
set_option maxHeartbeats 400000 in
theorem classes_any (w : World) :
    Calls Tryd.prog 60 #[] w fun e w' => e = .returned (.agg clsA) ∧ Below w.heap.size w w' := by
  go_enter Tryd.func60, Tryd.ntmps60
  go_wp2_with (first | (refine wpList_runs rfl (some 0) rfl (.pointer (some ⟨w.heap.size, 0, none⟩)) (w.alloc (.cells tabZ 83)) (by kernel_rfl) ?_) | (refine wpList_runs rfl (some 1) rfl (.pointer (some ⟨(w.alloc (.cells tabZ 83)).heap.size, 0, none⟩)) ((w.alloc (.cells tabZ 83)).alloc (.cells tabZ 83)) (by kernel_rfl) ?_))
  go_loopw [2] (fun c wr => ∃ k : Nat, k ≤ 26 ∧ c = .int .i32 (97 + (k : Int)) ∧ wr = (w.alloc (.cells tabZ 83)).alloc (.cells (tabL k) 83)) (fun c _ => 200 - (intOf c).toNat)
  case atStart => exact ⟨0, Nat.zero_le _, rfl, rfl⟩
  case round =>
    obtain ⟨k, hk, rfl, rfl⟩ := hrel
    have hz := tabL_size k
    by_cases hlt : k < 26
    · have hlt' : decide (97 + (k : Int) ≤ 122) = true := by simp; omega
      obtain ⟨v, hv⟩ := some_at (n := 97 + k) hz (by omega)
      have HZ := Lib.hid hz; clear hz
      go_wp2
      go_roundw
      case rel => exact ⟨k + 1, by omega, by go_num, rfl⟩
      case measure => simp [intOf]; omega
    · obtain rfl : k = 26 := by omega
      clear hlt
      have HZ := Lib.hid hz; clear hz
      have hd0 : tabL 26 = tabD 0 := rfl
      rw [hd0]
      clear hd0
      go_wp2
      go_loopw [3] (fun c wr => ∃ k : Nat, k ≤ 10 ∧ c = .int .i32 (48 + (k : Int)) ∧ wr = (w.alloc (.cells tabZ 83)).alloc (.cells (tabD k) 83)) (fun c _ => 200 - (intOf c).toNat)
      case atStart => exact ⟨0, Nat.zero_le _, rfl, rfl⟩
      case round =>
        obtain ⟨k, hk, rfl, rfl⟩ := hrel
        have hz := tabD_size k
        by_cases hlt : k < 10
        · have hlt' : decide (48 + (k : Int) ≤ 57) = true := by simp; omega
          obtain ⟨v, hv⟩ := some_at (n := 48 + k) hz (by omega)
          have HZ := Lib.hid hz; clear hz
          go_wp2
          go_roundw
          case rel => exact ⟨k + 1, by omega, by go_num, rfl⟩
          case measure => simp [intOf]; omega
        · obtain rfl : k = 10 := by omega
          clear hlt
          have hz1 := tabE1_size
          have hz2 := tabE2_size
          obtain ⟨v1, hv1⟩ := some_at (n := 46) hz (by omega)
          obtain ⟨v2, hv2⟩ := some_at (n := 45) hz1 (by omega)
          obtain ⟨v3, hv3⟩ := some_at (n := 58) hz2 (by omega)
          clear hz hz1 hz2
          have e1 : (tabD 10).setIfInBounds 46 (.int .i64 3) = tabE1 := rfl
          have e2 : tabE1.setIfInBounds 45 (.int .i64 3) = tabE2 := rfl
          have e3 : tabE2.setIfInBounds 58 (.int .i64 3) = tabM := rfl
          go_upto_region 11 with (fail)
          clear e1 e2 e3 hv1 hv2 hv3
          refine wp_region_lit ?_
          refine wpList_load_row rfl 83 (.tmp 1) rfl (w.heap.size + 1) rfl 83 tabM (0, 0) (.array 256 82) (heap_second w _ _) Tryd.underlying83 rfl tabM_info ?_
          refine wpList_store_row rfl 83 (.tmp 0) (.tmp 19) rfl w.heap.size tabM rfl rfl 83 tabZ (heap_first w _ _) tabM_info (by rw [tabZ_size, tabM_size]) (by kernel_rfl) ?_
          refine wpList_nil ?_
          go_wp2_with (fail)
          refine bodyPost_ret_by (results_cell_row rfl _ _ w.heap.size 83 tabM (0, 0) (.array 256 82) rfl (setRow_heap _ _ _ _ _ _ (heap_first w _ _)) Tryd.underlying83 rfl tabM_info) rfl ?_
          exact ⟨by rw [tabM_is], below_setRow (((Below.refl _ w).alloc (Nat.le_refl _) _).alloc (by simp) _) (Nat.le_refl _) _⟩
open Go.RowKit
def byt (s : ByteArray) (i : Nat) : Nat := (s.data.toList.getD i 0).toNat
theorem byt_lt (s : ByteArray) (i : Nat) : byt s i < 256 := UInt8.toNat_lt _
theorem byt_eq (s : ByteArray) (i : Nat) (h : i < s.size) : byt s i = s[i].toNat := by
  have h' : i < s.data.toList.length := by simpa using h
  unfold byt
  rw [List.getD_eq_getElem?_getD, List.getElem?_eq_getElem h']
  rfl
def okUpto (s : ByteArray) (k : Nat) : Prop := ∀ j, j < k → clsF (byt s j) ≠ 0
instance (s : ByteArray) (k : Nat) : Decidable (okUpto s k) := by unfold okUpto; infer_instance
def nameB (s : ByteArray) : Bool := decide (1 ≤ s.size ∧ s.size ≤ 64 ∧ clsF (byt s 0) = 1 ∧ okUpto s s.size)
theorem okUpto_zero (s : ByteArray) : okUpto s 0 := fun _ h => absurd h (Nat.not_lt_zero _)
theorem okUpto_succ {s : ByteArray} {k : Nat} (h : okUpto s k) (g : clsF (byt s k) ≠ 0) : okUpto s (k + 1) := fun j hj => by
  rcases Nat.lt_or_eq_of_le (Nat.lt_succ_iff.1 hj) with h1 | h1
  · exact h j h1
  · rw [h1]; exact g
theorem nameB_no {s : ByteArray} {k : Nat} (hk : k < s.size) (g : clsF (byt s k) = 0) : nameB s = false := decide_eq_false fun h => h.2.2.2 k hk g
theorem nameB_short {s : ByteArray} (h : s.size < 1) : nameB s = false := decide_eq_false fun g => by have := g.1; omega
theorem nameB_long {s : ByteArray} (h : 64 < s.size) : nameB s = false := decide_eq_false fun g => by have := g.2.1; omega
theorem nameB_end {s : ByteArray} (h1 : 1 ≤ s.size) (h2 : s.size ≤ 64) (g : okUpto s s.size) : nameB s = decide (clsF (byt s 0) = 1) := by
  unfold nameB
  by_cases h : clsF (byt s 0) = 1
  · rw [decide_eq_true h, decide_eq_true ⟨h1, h2, h, g⟩]
  · rw [decide_eq_false h, decide_eq_false fun e => h e.2.2.1]
theorem ret_bool {a b : Bool} (h : a = b) : Ending.returned (.bool a) = .returned (.bool b) := by rw [h]
theorem setRow_alloc (w : World) (a b : Array Value) (t : TypeId) : (w.alloc (.cells a t)).setRow w.heap.size b = w.alloc (.cells b t) := by
  unfold World.setRow World.alloc
  congr 1
  apply Array.ext_getElem?
  intro k
  rw [Array.getElem?_modify]
  by_cases hk : w.heap.size = k
  · subst hk
    simp
  · have hk' : k ≠ w.heap.size := fun e => hk e.symm
    simp [hk, hk', Array.getElem?_push]
theorem heap_last (w : World) (o : Obj) : (w.alloc o).heap[w.heap.size]? = some o := by
  show (w.heap.push o)[w.heap.size]? = some o
  rw [Array.getElem?_push, if_pos rfl]
theorem clsA_info : (Tryd.prog.info? 83).map (·.size) = some clsA.size := by rw [clsA_size]; kernel_rfl
/-- The table stored into a variable of the call's own. -/
theorem wpList_store_tab {ops : Array Oper} {rest : List Oper} {o : Oper} {a : Act} {w : World} {Q : Exit → Act → World → Prop} (hgd : o.guard = none) (x y : Operand) (ho : o.op = .store 83 x y) (hd : o.dst = none)
    (hx : a.eval x = .pointer (some ⟨w.heap.size, 0, none⟩)) (hy : a.eval y = .agg clsA)
    (h : wpList Tryd.prog ops Q rest (a.put none undef) (w.alloc (.cells clsA 83))) : wpList Tryd.prog ops Q (o :: rest) a (w.alloc (.cells tabZ 83)) := by
  refine wpList_store_row hgd 83 x y ho w.heap.size clsA hx hy 83 tabZ (heap_last _ _) clsA_info (by rw [tabZ_size, clsA_size]) (by kernel_rfl) ?_
  rw [setRow_alloc, hd]
  exact h
theorem wpList_alloc_tab {ops : Array Oper} {rest : List Oper} {o : Oper} {a : Act} {w : World} {Q : Exit → Act → World → Prop} (hg : o.guard = none) (ho : o.op = .alloc 83)
    (h : wpList Tryd.prog ops Q rest (a.put o.dst (.pointer (some ⟨w.heap.size, 0, none⟩))) (w.alloc (.cells tabZ 83))) : wpList Tryd.prog ops Q (o :: rest) a w :=
  wpList_runs hg o.dst rfl _ _ (by unfold execOp; rw [ho]; kernel_rfl) h
theorem empty_no {s : ByteArray} (h : 1 ≤ s.size) : s.toList.isEmpty = false := by
  rw [← decide_eq_emptyBytes]
  exact decide_eq_false fun e => by subst e; exact absurd h (by decide)
theorem nil_no {s : ByteArray} (h : 1 ≤ s.size) : ¬ s.toList = [] := fun e => by
  have := empty_no h
  rw [e] at this
  exact absurd this (by decide)
theorem empty_yes {s : ByteArray} (h : s.size < 1) : s.toList.isEmpty = true := by
  rw [← decide_eq_emptyBytes]
  exact decide_eq_true (ByteArray.ext (Array.eq_empty_of_size_eq_zero (by have : s.data.size = s.size := rfl; omega)))
theorem nil_yes {s : ByteArray} (h : s.size < 1) : s.toList = [] := List.isEmpty_iff.1 (empty_yes h)
set_option maxRecDepth 100000 in
set_option maxHeartbeats 400000 in
theorem name_long (s : ByteArray) (w : World) (hs : s.size ≤ maxLen) (h : 64 < s.size) :
    Calls Tryd.prog 38 #[.string s] w fun e w' => e = .returned (.bool (nameB s)) ∧ Below w.heap.size w w' := by
  unfold maxLen at hs
  have HN := Lib.hid (nameB_long h)
  have he := empty_no (s := s) (by omega)
  have hn := nil_no (s := s) (by omega)
  go_enter Tryd.func38, Tryd.ntmps38
  go_wp2_with (fail)
  go_ret
  exact ⟨ret_bool HN.out.symm, Below.refl _ _⟩
set_option maxRecDepth 100000 in
set_option maxHeartbeats 400000 in
theorem name_short (s : ByteArray) (w : World) (h : s.size < 1) :
    Calls Tryd.prog 38 #[.string s] w fun e w' => e = .returned (.bool (nameB s)) ∧ Below w.heap.size w w' := by
  have HN := Lib.hid (nameB_short h)
  have he := empty_yes h
  have hn := nil_yes h
  go_enter Tryd.func38, Tryd.ntmps38
  go_wp2_with (fail)
  go_ret
  exact ⟨ret_bool HN.out.symm, Below.refl _ _⟩
set_option maxRecDepth 100000 in
set_option maxHeartbeats 400000 in
theorem name_in (s : ByteArray) (w : World) (h1 : 1 ≤ s.size) (h2 : s.size ≤ 64) :
    Calls Tryd.prog 38 #[.string s] w fun e w' => e = .returned (.bool (nameB s)) ∧ Below w.heap.size w w' := by
  have he := empty_no h1
  have hn := nil_no h1
  go_enter Tryd.func38, Tryd.ntmps38
  go_wp2_with (fail)
  refine (classes_any _).mono ?_; rintro e w1 ⟨rfl, hb⟩
  have hsz := hb.size
  have H := Lib.hid hb; clear hb
  go_wp2_with (first | (refine wpList_alloc_tab rfl rfl ?_) | (refine wpList_store_tab rfl (.tmp 3) (.tmp 12) rfl rfl rfl rfl ?_))
  have HT := Lib.hid (fun j (h : j < 256) => (cell_of_row (w1.alloc (.cells clsA 83)) w1.heap.size j clsA 83 (0, 0) (heap_last _ _)).trans (clsA_at j h))
  go_loop [4, 15] (fun _ i => ∃ k : Nat, k ≤ s.size ∧ i = .int .i64 k ∧ okUpto s k) (fun _ i => s.size - (intOf i).toNat)
  case atStart => exact ⟨0, Nat.zero_le _, rfl, okUpto_zero s⟩
  case round =>
    obtain ⟨k, hk, rfl, hok⟩ := hrel
    by_cases hlt : k < s.size
    · have hl := byt_lt s k
      have hbe := byt_eq s k hlt
      have hc := HT.out (byt s k) hl
      by_cases hz : clsF (byt s k) = 0
      · have HF := Lib.hid (nameB_no hlt hz)
        rw [hz, hbe] at hc
        clear hok hbe hl hz
        have hlb := UInt8.toNat_lt s[k]
        go_wp2
        go_ret
        exact ⟨ret_bool HF.out.symm, H.out.alloc hsz _⟩
      · have HK := Lib.hid (okUpto_succ hok hz)
        obtain ⟨q, hq⟩ : ∃ q, clsF (byt s k) = q := ⟨_, rfl⟩
        rw [hq] at hz hc
        rw [hbe] at hc
        clear hok hbe hl hq
        have hz' : (q == 0) = false := by simpa using hz
        clear hz
        have hlb := UInt8.toNat_lt s[k]
        go_wp2
        go_round
        case rel => exact ⟨k + 1, by omega, by go_num, HK.out⟩
        case measure => simp [intOf]; omega
    · obtain rfl : k = s.size := by omega
      have HE := Lib.hid (nameB_end h1 h2 hok)
      have hbe := byt_eq s 0 h1
      have hc := HT.out (byt s 0) (byt_lt s 0)
      obtain ⟨q, hq⟩ : ∃ q, clsF (byt s 0) = q := ⟨_, rfl⟩
      rw [hq] at hc
      rw [hbe] at hc
      have HQ := Lib.hid hq
      clear hbe hq hok
      have hlb := UInt8.toNat_lt s[0]
      go_wp2
      go_ret
      exact ⟨ret_bool (by rw [HE.out, HQ.out]; rfl), H.out.alloc hsz _⟩
theorem name_any (s : ByteArray) (w : World) (hs : s.size ≤ maxLen) :
    Calls Tryd.prog 38 #[.string s] w fun e w' => e = .returned (.bool (nameB s)) ∧ Below w.heap.size w w' := by
  by_cases h1 : 1 ≤ s.size
  · by_cases h2 : s.size ≤ 64
    · exact name_in s w h1 h2
    · exact name_long s w hs (by omega)
  · exact name_short s w (by omega)
def letB (c : Nat) : Bool := decide (97 ≤ c ∧ c ≤ 122)
def digB (c : Nat) : Bool := decide (48 ≤ c ∧ c ≤ 57)
theorem letB_is (c : Nat) : letB c = decide (clsF c = 1) := by
  unfold letB clsF
  by_cases h : 97 ≤ c ∧ c ≤ 122
  · rw [if_pos h]; simp [h]
  · rw [if_neg h]
    by_cases h2 : 48 ≤ c ∧ c ≤ 57
    · rw [if_pos h2, decide_eq_false h]; decide
    · rw [if_neg h2, decide_eq_false h]
      split <;> decide
theorem digB_is (c : Nat) : digB c = decide (clsF c = 2) := by
  unfold digB clsF
  by_cases h : 97 ≤ c ∧ c ≤ 122
  · rw [if_pos h, decide_eq_false (by omega)]; decide
  · rw [if_neg h]
    by_cases h2 : 48 ≤ c ∧ c ≤ 57
    · rw [if_pos h2, decide_eq_true h2]; decide
    · rw [if_neg h2, decide_eq_false h2]
      split <;> decide
set_option maxHeartbeats 400000 in
theorem letter_any (c : Nat) (w : World) (hc : c < 256) :
    Calls Tryd.prog 44 #[.int .u8 c] w fun e w' => e = .returned (.bool (letB c)) ∧ w = w' := by
  by_cases h1 : 97 ≤ c
  · by_cases h2 : c ≤ 122
    · have H := Lib.hid (show letB c = true from decide_eq_true ⟨h1, h2⟩)
      have hd1 : decide ((97 : Int) ≤ c) = true := by simp; omega
      have hd2 : decide ((c : Int) ≤ 122) = true := by simp; omega
      go_enter Tryd.func44, Tryd.ntmps44
      go_wp2
      go_ret
      exact ⟨ret_bool (by rw [H.out]), rfl⟩
    · have H := Lib.hid (show letB c = false from decide_eq_false (by omega))
      have hd1 : decide ((97 : Int) ≤ c) = true := by simp; omega
      have hd2 : decide ((c : Int) ≤ 122) = false := by simp; omega
      go_enter Tryd.func44, Tryd.ntmps44
      go_wp2
      go_ret
      exact ⟨ret_bool (by rw [H.out]), rfl⟩
  · have H := Lib.hid (show letB c = false from decide_eq_false (by omega))
    have hd1 : decide ((97 : Int) ≤ c) = false := by simp; omega
    go_enter Tryd.func44, Tryd.ntmps44
    go_wp2
    go_ret
    exact ⟨ret_bool (by rw [H.out]), rfl⟩
set_option maxHeartbeats 400000 in
theorem digit_any (c : Nat) (w : World) (hc : c < 256) :
    Calls Tryd.prog 45 #[.int .u8 c] w fun e w' => e = .returned (.bool (digB c)) ∧ w = w' := by
  by_cases h1 : 48 ≤ c
  · by_cases h2 : c ≤ 57
    · have H := Lib.hid (show digB c = true from decide_eq_true ⟨h1, h2⟩)
      have hd1 : decide ((48 : Int) ≤ c) = true := by simp; omega
      have hd2 : decide ((c : Int) ≤ 57) = true := by simp; omega
      go_enter Tryd.func45, Tryd.ntmps45
      go_wp2
      go_ret
      exact ⟨ret_bool (by rw [H.out]), rfl⟩
    · have H := Lib.hid (show digB c = false from decide_eq_false (by omega))
      have hd1 : decide ((48 : Int) ≤ c) = true := by simp; omega
      have hd2 : decide ((c : Int) ≤ 57) = false := by simp; omega
      go_enter Tryd.func45, Tryd.ntmps45
      go_wp2
      go_ret
      exact ⟨ret_bool (by rw [H.out]), rfl⟩
  · have H := Lib.hid (show digB c = false from decide_eq_false (by omega))
    have hd1 : decide ((48 : Int) ≤ c) = false := by simp; omega
    go_enter Tryd.func45, Tryd.ntmps45
    go_wp2
    go_ret
    exact ⟨ret_bool (by rw [H.out]), rfl⟩
open Go.RowKit
theorem cls_none {c : Nat} (h1 : letB c = false) (h2 : digB c = false) (h3 : ¬ c = 46) (h4 : ¬ c = 45) (h5 : ¬ c = 58) : clsF c = 0 := by
  unfold letB at h1
  unfold digB at h2
  unfold clsF
  rw [if_neg (of_decide_eq_false h1), if_neg (of_decide_eq_false h2), if_neg (by omega)]
theorem cls_let {c : Nat} (h : letB c = true) : clsF c ≠ 0 := by
  rw [letB_is] at h
  rw [of_decide_eq_true h]; decide
theorem cls_dig {c : Nat} (h : digB c = true) : clsF c ≠ 0 := by
  rw [digB_is] at h
  rw [of_decide_eq_true h]; decide
theorem cls_mark {c : Nat} (h : c = 46 ∨ c = 45 ∨ c = 58) : clsF c ≠ 0 := by
  rcases h with h | h | h <;> (subst h; decide)
theorem nameB_first {s : ByteArray} (h : letB (byt s 0) = false) : nameB s = false := decide_eq_false fun g => by
  rw [letB_is] at h
  exact of_decide_eq_false h g.2.2.1
theorem nameB_yes {s : ByteArray} (h1 : 1 ≤ s.size) (h2 : s.size ≤ 64) (h : letB (byt s 0) = true) (g : okUpto s s.size) : nameB s = true := by
  rw [nameB_end h1 h2 g, ← letB_is, h]
set_option maxHeartbeats 400000 in
theorem refName_size (s : ByteArray) (w : World) (hs : s.size ≤ maxLen) (h : s.size < 1 ∨ 64 < s.size) :
    Calls Tryd.prog 25 #[.string s] w fun e w' => e = .returned (.bool (nameB s)) ∧ w = w' := by
  unfold maxLen at hs
  rcases h with h | h
  · have HN := Lib.hid (nameB_short h)
    have hd : decide ((s.size : Int) < 1) = true := by simp; omega
    go_enter Tryd.func25, Tryd.ntmps25
    go_wp2_with (fail)
    go_ret
    exact ⟨ret_bool HN.out.symm, rfl⟩
  · have HN := Lib.hid (nameB_long h)
    have hd : decide ((s.size : Int) < 1) = false := by simp; omega
    have hd2 : decide (64 < (s.size : Int)) = true := by simp; omega
    go_enter Tryd.func25, Tryd.ntmps25
    go_wp2_with (fail)
    go_ret
    exact ⟨ret_bool HN.out.symm, rfl⟩
set_option maxHeartbeats 400000 in
theorem refName_first (s : ByteArray) (w : World) (h1 : 1 ≤ s.size) (h2 : s.size ≤ 64) (hf : letB (byt s 0) = false) :
    Calls Tryd.prog 25 #[.string s] w fun e w' => e = .returned (.bool (nameB s)) ∧ w = w' := by
  have HN := Lib.hid (nameB_first hf)
  have hd : decide ((s.size : Int) < 1) = false := by simp; omega
  have hd2 : decide (64 < (s.size : Int)) = false := by simp; omega
  rw [byt_eq s 0 h1] at hf
  have HF := Lib.hid hf; clear hf
  go_enter Tryd.func25, Tryd.ntmps25
  go_wp2_with (fail)
  refine (letter_any _ _ (UInt8.toNat_lt _)).mono ?_; rintro e w' ⟨rfl, rfl⟩
  rw [HF.out]
  go_wp2_with (fail)
  go_ret
  exact ⟨ret_bool HN.out.symm, rfl⟩
set_option maxHeartbeats 1000000 in
theorem refName_in (s : ByteArray) (w : World) (h1 : 1 ≤ s.size) (h2 : s.size ≤ 64) (hf : letB (byt s 0) = true) :
    Calls Tryd.prog 25 #[.string s] w fun e w' => e = .returned (.bool (nameB s)) ∧ w = w' := by
  have H0 := Lib.hid hf
  have hd : decide ((s.size : Int) < 1) = false := by simp; omega
  have hd2 : decide (64 < (s.size : Int)) = false := by simp; omega
  rw [byt_eq s 0 h1] at hf
  have HF := Lib.hid hf; clear hf
  go_enter Tryd.func25, Tryd.ntmps25
  go_wp2_with (fail)
  refine (letter_any _ _ (UInt8.toNat_lt _)).mono ?_; rintro e w' ⟨rfl, rfl⟩
  rw [HF.out]
  go_wp2_with (fail)
  go_loop [3] (fun i => ∃ k : Nat, k ≤ s.size ∧ i = .int .i64 k ∧ okUpto s k) (fun i => s.size - (intOf i).toNat)
  case atStart => exact ⟨0, Nat.zero_le _, rfl, okUpto_zero s⟩
  case round =>
    obtain ⟨k, hk, rfl, hok⟩ := hrel
    have HO := Lib.hid hok; clear hok
    by_cases hlt : k < s.size
    · have hbe := byt_eq s k hlt
      by_cases hL : letB (byt s k) = true
      · have HK := Lib.hid (okUpto_succ HO.out (cls_let hL))
        rw [hbe] at hL
        have HL := Lib.hid hL; clear hL hbe
        go_wp2_with (fail)
        refine (letter_any _ _ (UInt8.toNat_lt _)).mono ?_; rintro e w' ⟨rfl, rfl⟩
        rw [HL.out]
        go_wp2_with (fail)
        go_round
        case rel => exact ⟨k + 1, by omega, by go_num, HK.out⟩
        case measure => simp [intOf]; omega
      · have hL := eq_false_of_ne_true hL
        by_cases hD : digB (byt s k) = true
        · have HK := Lib.hid (okUpto_succ HO.out (cls_dig hD))
          rw [hbe] at hL hD
          have HL := Lib.hid hL; clear hL
          have HD := Lib.hid hD; clear hD hbe
          go_wp2_with (fail)
          refine (letter_any _ _ (UInt8.toNat_lt _)).mono ?_; rintro e w' ⟨rfl, rfl⟩
          rw [HL.out]
          go_wp2_with (fail)
          refine (digit_any _ _ (UInt8.toNat_lt _)).mono ?_; rintro e w' ⟨rfl, rfl⟩
          rw [HD.out]
          go_wp2_with (fail)
          go_round
          case rel => exact ⟨k + 1, by omega, by go_num, HK.out⟩
          case measure => simp [intOf]; omega
        · have hD := eq_false_of_ne_true hD
          by_cases h46 : byt s k = 46
          · have HK := Lib.hid (okUpto_succ HO.out (cls_mark (.inl h46)))
            rw [hbe] at hL hD h46
            have HL := Lib.hid hL; clear hL
            have HD := Lib.hid hD; clear hD hbe
            have n46 : ((s[k].toNat : Int) != 46) = false := by rw [bne_eq_false_iff_eq]; omega
            clear h46
            go_wp2_with (fail)
            refine (letter_any _ _ (UInt8.toNat_lt _)).mono ?_; rintro e w' ⟨rfl, rfl⟩
            rw [HL.out]
            go_wp2_with (fail)
            refine (digit_any _ _ (UInt8.toNat_lt _)).mono ?_; rintro e w' ⟨rfl, rfl⟩
            rw [HD.out]
            go_wp2_with (fail)
            go_round
            case rel => exact ⟨k + 1, by omega, by go_num, HK.out⟩
            case measure => simp [intOf]; omega
          · by_cases h45 : byt s k = 45
            · have HK := Lib.hid (okUpto_succ HO.out (cls_mark (.inr (.inl h45))))
              rw [hbe] at hL hD h45 h46
              have HL := Lib.hid hL; clear hL
              have HD := Lib.hid hD; clear hD hbe
              have n46 : ((s[k].toNat : Int) != 46) = true := by rw [bne_iff_ne]; omega
              have n45 : ((s[k].toNat : Int) != 45) = false := by rw [bne_eq_false_iff_eq]; omega
              clear h45 h46
              go_wp2_with (fail)
              refine (letter_any _ _ (UInt8.toNat_lt _)).mono ?_; rintro e w' ⟨rfl, rfl⟩
              rw [HL.out]
              go_wp2_with (fail)
              refine (digit_any _ _ (UInt8.toNat_lt _)).mono ?_; rintro e w' ⟨rfl, rfl⟩
              rw [HD.out]
              go_wp2_with (fail)
              go_round
              case rel => exact ⟨k + 1, by omega, by go_num, HK.out⟩
              case measure => simp [intOf]; omega
            · by_cases h58 : byt s k = 58
              · have HK := Lib.hid (okUpto_succ HO.out (cls_mark (.inr (.inr h58))))
                rw [hbe] at hL hD h45 h46 h58
                have HL := Lib.hid hL; clear hL
                have HD := Lib.hid hD; clear hD hbe
                have n46 : ((s[k].toNat : Int) != 46) = true := by rw [bne_iff_ne]; omega
                have n45 : ((s[k].toNat : Int) != 45) = true := by rw [bne_iff_ne]; omega
                have n58 : ((s[k].toNat : Int) != 58) = false := by rw [bne_eq_false_iff_eq]; omega
                clear h45 h46 h58
                go_wp2_with (fail)
                refine (letter_any _ _ (UInt8.toNat_lt _)).mono ?_; rintro e w' ⟨rfl, rfl⟩
                rw [HL.out]
                go_wp2_with (fail)
                refine (digit_any _ _ (UInt8.toNat_lt _)).mono ?_; rintro e w' ⟨rfl, rfl⟩
                rw [HD.out]
                go_wp2_with (fail)
                go_round
                case rel => exact ⟨k + 1, by omega, by go_num, HK.out⟩
                case measure => simp [intOf]; omega
              · have HF := Lib.hid (nameB_no hlt (cls_none hL hD h46 h45 h58))
                rw [hbe] at hL hD h45 h46 h58
                have HL := Lib.hid hL; clear hL
                have HD := Lib.hid hD; clear hD hbe
                have n46 : ((s[k].toNat : Int) != 46) = true := by rw [bne_iff_ne]; omega
                have n45 : ((s[k].toNat : Int) != 45) = true := by rw [bne_iff_ne]; omega
                have n58 : ((s[k].toNat : Int) != 58) = true := by rw [bne_iff_ne]; omega
                clear h45 h46 h58
                go_wp2_with (fail)
                refine (letter_any _ _ (UInt8.toNat_lt _)).mono ?_; rintro e w' ⟨rfl, rfl⟩
                rw [HL.out]
                go_wp2_with (fail)
                refine (digit_any _ _ (UInt8.toNat_lt _)).mono ?_; rintro e w' ⟨rfl, rfl⟩
                rw [HD.out]
                go_wp2_with (fail)
                go_ret
                exact ⟨ret_bool HF.out.symm, rfl⟩
    · obtain rfl : k = s.size := by omega
      have HN := Lib.hid (nameB_yes h1 h2 H0.out HO.out)
      go_wp2_with (fail)
      go_ret
      exact ⟨ret_bool HN.out.symm, rfl⟩
theorem refName_any (s : ByteArray) (w : World) (hs : s.size ≤ maxLen) :
    Calls Tryd.prog 25 #[.string s] w fun e w' => e = .returned (.bool (nameB s)) ∧ w = w' := by
  by_cases h1 : 1 ≤ s.size
  · by_cases h2 : s.size ≤ 64
    · cases hf : letB (byt s 0) with
      | true => exact refName_in s w h1 h2 hf
      | false => exact refName_first s w h1 h2 hf
    · exact refName_size s w hs (.inr (by omega))
  · exact refName_size s w hs (.inl (by omega))
end Go.Proofs.YtgekadfkokkapaaDoor
