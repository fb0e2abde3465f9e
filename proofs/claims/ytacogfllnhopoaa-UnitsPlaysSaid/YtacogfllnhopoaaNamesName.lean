/- Name of the code and of the document: both answer nameB. -/
import Derived.Test.YtacogfllnhopoaaNamesTab
namespace Go.Proofs.Ytacogfllnhopoaa
open Go.RowKit
def byt (s : ByteArray) (i : Nat) : Nat := (s.data.toList.getD i 0).toNat
theorem byt_lt (s : ByteArray) (i : Nat) : byt s i < 256 := UInt8.toNat_lt _
theorem byt_eq (s : ByteArray) (i : Nat) (h : i < s.size) : byt s i = s[i].toNat := by
  have h' : i < s.data.toList.length := by simpa using h
  unfold byt
  rw [List.getD_eq_getElem?_getD, List.getElem?_eq_getElem h']
  rfl
def okUpto (s : ByteArray) (k : Nat) : Prop := ∀ j, j < k → clsF (byt s j) ≠ 0
instance (s : ByteArray) (k : Nat) : Decidable (okUpto s k) := by unfold okUpto; infer_instance
def nameB (s : ByteArray) : Bool := decide (1 ≤ s.size ∧ s.size ≤ 64 ∧ clsF (byt s 0) = 1 ∧ okUpto s s.size)
theorem okUpto_zero (s : ByteArray) : okUpto s 0 := fun _ h => absurd h (Nat.not_lt_zero _)
theorem okUpto_succ {s : ByteArray} {k : Nat} (h : okUpto s k) (g : clsF (byt s k) ≠ 0) : okUpto s (k + 1) := fun j hj => by
  rcases Nat.lt_or_eq_of_le (Nat.lt_succ_iff.1 hj) with h1 | h1
  · exact h j h1
  · rw [h1]; exact g
theorem nameB_no {s : ByteArray} {k : Nat} (hk : k < s.size) (g : clsF (byt s k) = 0) : nameB s = false := decide_eq_false fun h => h.2.2.2 k hk g
theorem nameB_short {s : ByteArray} (h : s.size < 1) : nameB s = false := decide_eq_false fun g => by have := g.1; omega
theorem nameB_long {s : ByteArray} (h : 64 < s.size) : nameB s = false := decide_eq_false fun g => by have := g.2.1; omega
theorem nameB_end {s : ByteArray} (h1 : 1 ≤ s.size) (h2 : s.size ≤ 64) (g : okUpto s s.size) : nameB s = decide (clsF (byt s 0) = 1) := by
  unfold nameB
  by_cases h : clsF (byt s 0) = 1
  · rw [decide_eq_true h, decide_eq_true ⟨h1, h2, h, g⟩]
  · rw [decide_eq_false h, decide_eq_false fun e => h e.2.2.1]
theorem ret_bool {a b : Bool} (h : a = b) : Ending.returned (.bool a) = .returned (.bool b) := by rw [h]
theorem setRow_alloc (w : World) (a b : Array Value) (t : TypeId) : (w.alloc (.cells a t)).setRow w.heap.size b = w.alloc (.cells b t) := by
  unfold World.setRow World.alloc
  congr 1
  apply Array.ext_getElem?
  intro k
  rw [Array.getElem?_modify]
  by_cases hk : w.heap.size = k
  · subst hk
    simp
  · have hk' : k ≠ w.heap.size := fun e => hk e.symm
    simp [hk, hk', Array.getElem?_push]
theorem heap_last (w : World) (o : Obj) : (w.alloc o).heap[w.heap.size]? = some o := by
  show (w.heap.push o)[w.heap.size]? = some o
  rw [Array.getElem?_push, if_pos rfl]
theorem clsA_info : (Try.prog.info? 61).map (·.size) = some clsA.size := by rw [clsA_size]; kernel_rfl
/-- The table stored into a variable of the call's own. -/
theorem wpList_store_tab {ops : Array Oper} {rest : List Oper} {o : Oper} {a : Act} {w : World} {Q : Exit → Act → World → Prop} (hgd : o.guard = none) (x y : Operand) (ho : o.op = .store 61 x y) (hd : o.dst = none)
    (hx : a.eval x = .pointer (some ⟨w.heap.size, 0, none⟩)) (hy : a.eval y = .agg clsA)
    (h : wpList Try.prog ops Q rest (a.put none undef) (w.alloc (.cells clsA 61))) : wpList Try.prog ops Q (o :: rest) a (w.alloc (.cells tabZ 61)) := by
  refine wpList_store_row hgd 61 x y ho w.heap.size clsA hx hy 61 tabZ (heap_last _ _) clsA_info (by rw [tabZ_size, clsA_size]) (by kernel_rfl) ?_
  rw [setRow_alloc, hd]
  exact h
theorem wpList_alloc_tab {ops : Array Oper} {rest : List Oper} {o : Oper} {a : Act} {w : World} {Q : Exit → Act → World → Prop} (hg : o.guard = none) (ho : o.op = .alloc 61)
    (h : wpList Try.prog ops Q rest (a.put o.dst (.pointer (some ⟨w.heap.size, 0, none⟩))) (w.alloc (.cells tabZ 61))) : wpList Try.prog ops Q (o :: rest) a w :=
  wpList_runs hg o.dst rfl _ _ (by unfold execOp; rw [ho]; kernel_rfl) h
theorem empty_no {s : ByteArray} (h : 1 ≤ s.size) : s.toList.isEmpty = false := by
  rw [← decide_eq_emptyBytes]
  exact decide_eq_false fun e => by subst e; exact absurd h (by decide)
theorem nil_no {s : ByteArray} (h : 1 ≤ s.size) : ¬ s.toList = [] := fun e => by
  have := empty_no h
  rw [e] at this
  exact absurd this (by decide)
theorem empty_yes {s : ByteArray} (h : s.size < 1) : s.toList.isEmpty = true := by
  rw [← decide_eq_emptyBytes]
  exact decide_eq_true (ByteArray.ext (Array.eq_empty_of_size_eq_zero (by have : s.data.size = s.size := rfl; omega)))
theorem nil_yes {s : ByteArray} (h : s.size < 1) : s.toList = [] := List.isEmpty_iff.1 (empty_yes h)
set_option maxRecDepth 100000 in
set_option maxHeartbeats 400000 in
theorem name_long (s : ByteArray) (w : World) (hs : s.size ≤ maxLen) (h : 64 < s.size) :
    Calls Try.prog 23 #[.string s] w fun e w' => e = .returned (.bool (nameB s)) ∧ Below w.heap.size w w' := by
  unfold maxLen at hs
  have HN := Lib.hid (nameB_long h)
  have he := empty_no (s := s) (by omega)
  have hn := nil_no (s := s) (by omega)
  go_enter Try.func23, Try.ntmps23
  go_wp2_with (fail)
  go_ret
  exact ⟨ret_bool HN.out.symm, Below.refl _ _⟩
set_option maxRecDepth 100000 in
set_option maxHeartbeats 400000 in
theorem name_short (s : ByteArray) (w : World) (h : s.size < 1) :
    Calls Try.prog 23 #[.string s] w fun e w' => e = .returned (.bool (nameB s)) ∧ Below w.heap.size w w' := by
  have HN := Lib.hid (nameB_short h)
  have he := empty_yes h
  have hn := nil_yes h
  go_enter Try.func23, Try.ntmps23
  go_wp2_with (fail)
  go_ret
  exact ⟨ret_bool HN.out.symm, Below.refl _ _⟩
theorem Below.cell_at {B b o : Nat} {w w' : World} (h : Below B w w') (hb : b < B) : w'.cell? ⟨b, o, none⟩ = w.cell? ⟨b, o, none⟩ := h.cell (p := ⟨b, o, none⟩) hb
set_option maxRecDepth 100000 in
set_option maxHeartbeats 400000 in
theorem name_in (s : ByteArray) (w : World) (h1 : 1 ≤ s.size) (h2 : s.size ≤ 64) :
    Calls Try.prog 23 #[.string s] w fun e w' => e = .returned (.bool (nameB s)) ∧ Below w.heap.size w w' := by
  have he := empty_no h1
  have hn := nil_no h1
  go_enter Try.func23, Try.ntmps23
  go_wp2_with (fail)
  refine (classes_any _).mono ?_; rintro e w1 ⟨rfl, hb⟩
  have hsz := hb.size
  have H := Lib.hid hb; clear hb
  go_wp2_with (first | (refine wpList_alloc_tab rfl rfl ?_) | (refine wpList_store_tab rfl (.tmp 3) (.tmp 12) rfl rfl rfl rfl ?_))
  have HT := Lib.hid (fun j (h : j < 256) => (cell_of_row (w1.alloc (.cells clsA 61)) w1.heap.size j clsA 61 (0, 0) (heap_last _ _)).trans (clsA_at j h))
  go_loop [4, 15] (fun _ i => ∃ k : Nat, k ≤ s.size ∧ i = .int .i64 k ∧ okUpto s k) (fun _ i => s.size - (intOf i).toNat)
  case atStart => exact ⟨0, Nat.zero_le _, rfl, okUpto_zero s⟩
  case round =>
    obtain ⟨k, hk, rfl, hok⟩ := hrel
    by_cases hlt : k < s.size
    · have hl := byt_lt s k
      have hbe := byt_eq s k hlt
      have hc := HT.out (byt s k) hl
      by_cases hz : clsF (byt s k) = 0
      · have HF := Lib.hid (nameB_no hlt hz)
        rw [hz, hbe] at hc
        clear hok hbe hl hz
        have hlb := UInt8.toNat_lt s[k]
        go_wp2
        go_ret
        exact ⟨ret_bool HF.out.symm, H.out.alloc hsz _⟩
      · have HK := Lib.hid (okUpto_succ hok hz)
        obtain ⟨q, hq⟩ : ∃ q, clsF (byt s k) = q := ⟨_, rfl⟩
        rw [hq] at hz hc
        rw [hbe] at hc
        clear hok hbe hl hq
        have hz' : (q == 0) = false := by simpa using hz
        clear hz
        have hlb := UInt8.toNat_lt s[k]
        go_wp2
        go_round
        case rel => exact ⟨k + 1, by omega, by go_num, HK.out⟩
        case measure => simp [intOf]; omega
    · obtain rfl : k = s.size := by omega
      have HE := Lib.hid (nameB_end h1 h2 hok)
      have hbe := byt_eq s 0 h1
      have hc := HT.out (byt s 0) (byt_lt s 0)
      obtain ⟨q, hq⟩ : ∃ q, clsF (byt s 0) = q := ⟨_, rfl⟩
      rw [hq] at hc
      rw [hbe] at hc
      have HQ := Lib.hid hq
      clear hbe hq hok
      have hlb := UInt8.toNat_lt s[0]
      go_wp2
      go_ret
      exact ⟨ret_bool (by rw [HE.out, HQ.out]; rfl), H.out.alloc hsz _⟩
theorem name_any (s : ByteArray) (w : World) (hs : s.size ≤ maxLen) :
    Calls Try.prog 23 #[.string s] w fun e w' => e = .returned (.bool (nameB s)) ∧ Below w.heap.size w w' := by
  by_cases h1 : 1 ≤ s.size
  · by_cases h2 : s.size ≤ 64
    · exact name_in s w h1 h2
    · exact name_long s w hs (by omega)
  · exact name_short s w (by omega)
def letB (c : Nat) : Bool := decide (97 ≤ c ∧ c ≤ 122)
def digB (c : Nat) : Bool := decide (48 ≤ c ∧ c ≤ 57)
theorem letB_is (c : Nat) : letB c = decide (clsF c = 1) := by
  unfold letB clsF
  by_cases h : 97 ≤ c ∧ c ≤ 122
  · rw [if_pos h]; simp [h]
  · rw [if_neg h]
    by_cases h2 : 48 ≤ c ∧ c ≤ 57
    · rw [if_pos h2, decide_eq_false h]; decide
    · rw [if_neg h2, decide_eq_false h]
      split <;> decide
theorem digB_is (c : Nat) : digB c = decide (clsF c = 2) := by
  unfold digB clsF
  by_cases h : 97 ≤ c ∧ c ≤ 122
  · rw [if_pos h, decide_eq_false (by omega)]; decide
  · rw [if_neg h]
    by_cases h2 : 48 ≤ c ∧ c ≤ 57
    · rw [if_pos h2, decide_eq_true h2]; decide
    · rw [if_neg h2, decide_eq_false h2]
      split <;> decide
set_option maxHeartbeats 400000 in
theorem letter_any (c : Nat) (w : World) (hc : c < 256) :
    Calls Try.prog 30 #[.int .u8 c] w fun e w' => e = .returned (.bool (letB c)) ∧ w = w' := by
  by_cases h1 : 97 ≤ c
  · by_cases h2 : c ≤ 122
    · have H := Lib.hid (show letB c = true from decide_eq_true ⟨h1, h2⟩)
      have hd1 : decide ((97 : Int) ≤ c) = true := by simp; omega
      have hd2 : decide ((c : Int) ≤ 122) = true := by simp; omega
      go_enter Try.func30, Try.ntmps30
      go_wp2
      go_ret
      exact ⟨ret_bool (by rw [H.out]), rfl⟩
    · have H := Lib.hid (show letB c = false from decide_eq_false (by omega))
      have hd1 : decide ((97 : Int) ≤ c) = true := by simp; omega
      have hd2 : decide ((c : Int) ≤ 122) = false := by simp; omega
      go_enter Try.func30, Try.ntmps30
      go_wp2
      go_ret
      exact ⟨ret_bool (by rw [H.out]), rfl⟩
  · have H := Lib.hid (show letB c = false from decide_eq_false (by omega))
    have hd1 : decide ((97 : Int) ≤ c) = false := by simp; omega
    go_enter Try.func30, Try.ntmps30
    go_wp2
    go_ret
    exact ⟨ret_bool (by rw [H.out]), rfl⟩
set_option maxHeartbeats 400000 in
theorem digit_any (c : Nat) (w : World) (hc : c < 256) :
    Calls Try.prog 31 #[.int .u8 c] w fun e w' => e = .returned (.bool (digB c)) ∧ w = w' := by
  by_cases h1 : 48 ≤ c
  · by_cases h2 : c ≤ 57
    · have H := Lib.hid (show digB c = true from decide_eq_true ⟨h1, h2⟩)
      have hd1 : decide ((48 : Int) ≤ c) = true := by simp; omega
      have hd2 : decide ((c : Int) ≤ 57) = true := by simp; omega
      go_enter Try.func31, Try.ntmps31
      go_wp2
      go_ret
      exact ⟨ret_bool (by rw [H.out]), rfl⟩
    · have H := Lib.hid (show digB c = false from decide_eq_false (by omega))
      have hd1 : decide ((48 : Int) ≤ c) = true := by simp; omega
      have hd2 : decide ((c : Int) ≤ 57) = false := by simp; omega
      go_enter Try.func31, Try.ntmps31
      go_wp2
      go_ret
      exact ⟨ret_bool (by rw [H.out]), rfl⟩
  · have H := Lib.hid (show digB c = false from decide_eq_false (by omega))
    have hd1 : decide ((48 : Int) ≤ c) = false := by simp; omega
    go_enter Try.func31, Try.ntmps31
    go_wp2
    go_ret
    exact ⟨ret_bool (by rw [H.out]), rfl⟩
end Go.Proofs.Ytacogfllnhopoaa
