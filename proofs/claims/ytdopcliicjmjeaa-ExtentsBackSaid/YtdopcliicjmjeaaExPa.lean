/- A text as extents: the numbers that are read. -/
import Derived.Test.YtdopcliicjmjeaaExRt
import Derived.Test.YtdopcliicjmjeaaAsk
import Derived.Test.YtdopcliicjmjeaaRefs
import Derived.Laws.ResultCell
namespace Go.Proofs.Ytdopcliicjmjeaa
open Go.RowKit
/-- The number of the four bytes from a on. -/
def n4 (s : ByteArray) (a : Int) : Nat := bigR s a 4
theorem n4_lt (s : ByteArray) (a : Int) : n4 s a < 4294967296 := by
  unfold n4 bigR
  by_cases h : okB s a 4 = true
  · rw [if_pos h]; exact bigV_lt _ (readV_lt s _) 4
  · rw [if_neg h]; omega
theorem ext_list (a : ByteArray) (i j : Nat) : (a.extract i j).data.toList = (a.data.toList.take j).drop i := by
  rw [ByteArray.data_extract, Array.toList_extract, List.extract_eq_take_drop, List.drop_take]
theorem byt_ext (s : ByteArray) (a b i : Nat) (h : a + i < b) : byt (s.extract a b) i = byt s (a + i) := by
  unfold byt
  rw [ext_list, List.getD, List.getD, List.getElem?_drop, List.getElem?_take, if_pos h]
theorem bigV_congr (f g : Nat → Nat) : ∀ k, (∀ i, i < k → f i = g i) → bigV f k = bigV g k
  | 0, _ => rfl
  | k + 1, h => by simp only [bigV]; rw [bigV_congr f g k (fun i hi => h i (by omega)), h k (by omega)]
theorem ext_size (s : ByteArray) (a b : Nat) (hb : b ≤ s.size) : (s.extract a b).size = b - a := by
  rw [ByteArray.size_extract]; omega
theorem n4_ext (s : ByteArray) (a b k : Nat) (h : a + k + 4 ≤ b) (hb : b ≤ s.size) : n4 (s.extract a b) k = n4 s ((a + k : Nat) : Int) := by
  have hz := ext_size s a b hb
  show bigR (s.extract a b) ((k : Nat) : Int) ((4 : Nat) : Int) = bigR s ((a + k : Nat) : Int) ((4 : Nat) : Int)
  rw [bigR_yes (a := k) (n := 4) (okB_yes (by omega)), bigR_yes (a := a + k) (n := 4) (okB_yes (by omega))]
  refine bigV_congr _ _ 4 fun i hi => ?_
  unfold readV
  rw [byt_ext s a b (k + i) (by omega), Nat.add_assoc]
def exR (s : ByteArray) (k : Nat) : Ex := ⟨n4 s (4 + 12 * (k : Int)), n4 s (8 + 12 * (k : Int)), n4 s (12 + 12 * (k : Int))⟩
theorem exR_wf (s : ByteArray) (k : Nat) : (exR s k).Wf := by
  have h1 := n4_lt s (4 + 12 * (k : Int))
  have h2 := n4_lt s (8 + 12 * (k : Int))
  have h3 := n4_lt s (12 + 12 * (k : Int))
  exact ⟨by show _ ≤ ((n4 s _ : Nat) : Int); omega, by show ((n4 s _ : Nat) : Int) ≤ _; omega, by show _ ≤ ((n4 s _ : Nat) : Int); omega, by show ((n4 s _ : Nat) : Int) ≤ _; omega, by show _ ≤ ((n4 s _ : Nat) : Int); omega, by show ((n4 s _ : Nat) : Int) ≤ _; omega⟩
def listX (s : ByteArray) (k : Nat) : List Ex := (List.range k).map (exR s)
theorem listX_succ (s : ByteArray) (k : Nat) : listX s (k + 1) = listX s k ++ [exR s k] := by simp [listX, List.range_succ]
theorem listX_length (s : ByteArray) (k : Nat) : (listX s k).length = k := by simp [listX]
/-- A text of so many extents. -/
def SizeOk (s : ByteArray) : Prop := okB s 0 4 = true ∧ n4 s 0 ≤ 4096 ∧ s.size = 4 + 12 * n4 s 0
open Classical in
noncomputable def parseR (s : ByteArray) : List Ex × Int := if SizeOk s ∧ goodB (listX s (n4 s 0)) = true then (listX s (n4 s 0), 0) else ([], 70)
set_option maxHeartbeats 1000000 in
theorem read1_any (s : ByteArray) (i : Int) (hi : 0 ≤ i ∧ i ≤ 2) (b : Nat) (w : World) (hb : w.cell? ⟨b, 0, none⟩ = some (.string s)) (hs : s.size ≤ maxLen) :
    Calls Try.prog 48 #[.int .i64 i, .pointer (some ⟨b, 0, none⟩)] w fun e w' => e = .returned (.int .i64 (n4 s (i * 4) : Nat)) ∧ Below w.heap.size w w' := by
  have hw : IntKind.i64.wrap (i * 4) = i * 4 := i64w _ (by omega)
  have hl := n4_lt s (i * 4)
  have hc : IntKind.i64.wrap ((n4 s (i * 4) : Nat) : Int) = ((n4 s (i * 4) : Nat) : Int) := i64w _ (by omega)
  have HB := Lib.hid (fun v => show Calls Try.prog 39 #[.string s, .int .i64 (i * 4), .int .i64 4] v fun e w' => e = .returned (.tuple #[.int .u64 (n4 s (i * 4) : Nat), .bool (okB s (i * 4) 4)]) ∧ Below v.heap.size v w' from big_any s (i * 4) 4 v hs)
  generalize n4 s (i * 4) = n at *
  generalize okB s (i * 4) 4 = ok at *
  go_enter Try.func48, Try.ntmps48
  go_wp2_with (fail)
  refine (HB.out _).mono ?_; rintro e w1 ⟨rfl, hb1⟩
  have H1 := Lib.hid hb1
  clear hb1
  go_wp2_with (fail)
  go_ret
  exact ⟨rfl, H1.out⟩
theorem size32 : (Try.prog.info? 32).map (·.size) = some 3 := by kernel_rfl
set_option maxHeartbeats 1000000 in
theorem read_any (s : ByteArray) (w : World) (hs : s.size ≤ maxLen) :
    Calls Try.prog 40 #[.string s] w fun e w' => e = .returned (exV ⟨n4 s 0, n4 s 4, n4 s 8⟩) ∧ Below w.heap.size w w' := by
  have hmf : ∀ (fn : Fn) (first cap : Array Value) (w : World), (Instr.makeFunc fn first cap).run Try.prog w = .ok (.func fn first cap) w := fun _ _ _ _ => rfl
  have hk1 := (Blk.new w 9 #[.string s]).alloc (.cells #[.int .i64 0, .int .i64 0, .int .i64 0] 32)
  have hk2 := Blk.new (w.alloc (.cells #[.string s] 9)) 32 #[.int .i64 0, .int .i64 0, .int .i64 0]
  rw [World.size_alloc] at hk2
  have hb0 := ((Below.refl w.heap.size w).alloc (Nat.le_refl _) (.cells #[.string s] 9)).alloc (by simp) (.cells #[.int .i64 0, .int .i64 0, .int .i64 0] 32)
  have HK1 := Lib.hid hk1; have HK2 := Lib.hid hk2; have HB := Lib.hid hb0
  clear hk1 hk2 hb0
  simp only [exV]
  have HR := Lib.hid (fun i hi v hb => read1_any s i hi w.heap.size v hb hs)
  have HR0 := Lib.hid (fun v (hb : v.cell? ⟨w.heap.size, 0, none⟩ = some (.string s)) => (show Calls Try.prog 48 #[.int .i64 0, .pointer (some ⟨w.heap.size, 0, none⟩)] v fun e w' => e = .returned (.int .i64 (n4 s 0 : Nat)) ∧ Below v.heap.size v w' from HR.out 0 (by omega) v hb))
  have HR1 := Lib.hid (fun v (hb : v.cell? ⟨w.heap.size, 0, none⟩ = some (.string s)) => (show Calls Try.prog 48 #[.int .i64 1, .pointer (some ⟨w.heap.size, 0, none⟩)] v fun e w' => e = .returned (.int .i64 (n4 s 4 : Nat)) ∧ Below v.heap.size v w' from HR.out 1 (by omega) v hb))
  have HR2 := Lib.hid (fun v (hb : v.cell? ⟨w.heap.size, 0, none⟩ = some (.string s)) => (show Calls Try.prog 48 #[.int .i64 2, .pointer (some ⟨w.heap.size, 0, none⟩)] v fun e w' => e = .returned (.int .i64 (n4 s 8 : Nat)) ∧ Below v.heap.size v w' from HR.out 2 (by omega) v hb))
  generalize ((n4 s 0 : Nat) : Int) = x0 at *
  generalize ((n4 s 4 : Nat) : Int) = x1 at *
  generalize ((n4 s 8 : Nat) : Int) = x2 at *
  go_enter Try.func40, Try.ntmps40
  go_upto_region 2 with (fail)
  change Code.wp _ _ _ _ ((w.alloc (.cells #[.string s] 9)).alloc (.cells #[.int .i64 0, .int .i64 0, .int .i64 0] 32))
  generalize (w.alloc (.cells #[.string s] 9)).alloc (.cells #[.int .i64 0, .int .i64 0, .int .i64 0] 32) = w0 at *
  go_wp2_with (fail)
  refine (HR0.out _ (HK1.out.cell 0)).mono ?_; rintro e w1 ⟨rfl, hb1⟩
  replace HK1 := Lib.hid (HK1.out.below hb1 HK1.out.lt)
  replace HK2 := Lib.hid (HK2.out.below hb1 HK2.out.lt)
  replace HB := Lib.hid (HB.out.trans (hb1.mono HB.out.size))
  clear hb1
  go_wp2_with (fail)
  refine (HR1.out _ (HK1.out.cell 0)).mono ?_; rintro e w2 ⟨rfl, hb1⟩
  replace HK1 := Lib.hid (HK1.out.below hb1 HK1.out.lt)
  replace HK2 := Lib.hid (HK2.out.below hb1 HK2.out.lt)
  replace HB := Lib.hid (HB.out.trans (hb1.mono HB.out.size))
  clear hb1
  go_wp2_with (fail)
  refine (HR2.out _ (HK1.out.cell 0)).mono ?_; rintro e w3 ⟨rfl, hb1⟩
  replace HK2 := Lib.hid (HK2.out.below hb1 HK2.out.lt)
  replace HB := Lib.hid (HB.out.trans (hb1.mono HB.out.size))
  clear hb1
  have hbld := build32 x0 x1 x2 w3
  have c0 := HK2.out.cell 0
  have c1 := HK2.out.cell 1
  have c2 := HK2.out.cell 2
  have f0 := HK2.out.free 0
  have f1 := HK2.out.free 1
  have f2 := HK2.out.free 2
  simp at c0 c1 c2
  have HBB := Lib.hid (((HB.out.setCell (p := ⟨w.heap.size + 1, 0, none⟩) (by simp) (.int .i64 x0)).setCell (p := ⟨w.heap.size + 1, 1, none⟩) (by simp) (.int .i64 x1)).setCell (p := ⟨w.heap.size + 1, 2, none⟩) (by simp) (.int .i64 x2))
  have HKK := Lib.hid (((HK2.out.put 0 (.int .i64 x0)).put 1 (.int .i64 x1)).put 2 (.int .i64 x2))
  go_wp2_with (fail)
  refine bodyPost_ret_by (results_cell_row rfl _ _ (w.heap.size + 1) 32 #[.int .i64 x0, .int .i64 x1, .int .i64 x2] (0, 0) _ rfl HKK.out Try.underlying32 rfl size32) rfl ?_
  exact ⟨rfl, HBB.out⟩
end Go.Proofs.Ytdopcliicjmjeaa
