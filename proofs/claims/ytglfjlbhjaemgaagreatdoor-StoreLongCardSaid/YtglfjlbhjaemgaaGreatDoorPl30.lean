/- A text as extents: the numbers that are read. Parse. What was written is read, what was read is written: the bytes. -/
import Derived.Test.YtglfjlbhjaemgaaGreatDoorPl29
import Derived.Test.YtglfjlbhjaemgaaGreatDoorPl09
import Derived.Laws.ResultCell
import Derived.Test.YtglfjlbhjaemgaaGreatDoorPl07
namespace Go.Proofs.YtglfjlbhjaemgaaGreatDoor.Ext
open Go.RowKit
/-- The number of the four bytes from a on. -/
def n4 (s : ByteArray) (a : Int) : Nat := bigR s a 4
theorem n4_lt (s : ByteArray) (a : Int) : n4 s a < 4294967296 := by
  unfold n4 bigR
  by_cases h : okB s a 4 = true
  · rw [if_pos h]; exact bigV_lt _ (readV_lt s _) 4
  · rw [if_neg h]; omega
theorem ext_list (a : ByteArray) (i j : Nat) : (a.extract i j).data.toList = (a.data.toList.take j).drop i := by
  rw [ByteArray.data_extract, Array.toList_extract, List.extract_eq_take_drop, List.drop_take]
theorem byt_ext (s : ByteArray) (a b i : Nat) (h : a + i < b) : byt (s.extract a b) i = byt s (a + i) := by
  unfold byt
  rw [ext_list, List.getD, List.getD, List.getElem?_drop, List.getElem?_take, if_pos h]
theorem bigV_congr (f g : Nat → Nat) : ∀ k, (∀ i, i < k → f i = g i) → bigV f k = bigV g k
  | 0, _ => rfl
  | k + 1, h => by simp only [bigV]; rw [bigV_congr f g k (fun i hi => h i (by omega)), h k (by omega)]
theorem ext_size (s : ByteArray) (a b : Nat) (hb : b ≤ s.size) : (s.extract a b).size = b - a := by
  rw [ByteArray.size_extract]; omega
theorem n4_ext (s : ByteArray) (a b k : Nat) (h : a + k + 4 ≤ b) (hb : b ≤ s.size) : n4 (s.extract a b) k = n4 s ((a + k : Nat) : Int) := by
  have hz := ext_size s a b hb
  show bigR (s.extract a b) ((k : Nat) : Int) ((4 : Nat) : Int) = bigR s ((a + k : Nat) : Int) ((4 : Nat) : Int)
  rw [bigR_yes (a := k) (n := 4) (okB_yes (by omega)), bigR_yes (a := a + k) (n := 4) (okB_yes (by omega))]
  refine bigV_congr _ _ 4 fun i hi => ?_
  unfold readV
  rw [byt_ext s a b (k + i) (by omega), Nat.add_assoc]
def exR (s : ByteArray) (k : Nat) : Ex := ⟨n4 s (4 + 12 * (k : Int)), n4 s (8 + 12 * (k : Int)), n4 s (12 + 12 * (k : Int))⟩
theorem exR_wf (s : ByteArray) (k : Nat) : (exR s k).Wf := by
  have h1 := n4_lt s (4 + 12 * (k : Int))
  have h2 := n4_lt s (8 + 12 * (k : Int))
  have h3 := n4_lt s (12 + 12 * (k : Int))
  exact ⟨by show _ ≤ ((n4 s _ : Nat) : Int); omega, by show ((n4 s _ : Nat) : Int) ≤ _; omega, by show _ ≤ ((n4 s _ : Nat) : Int); omega, by show ((n4 s _ : Nat) : Int) ≤ _; omega, by show _ ≤ ((n4 s _ : Nat) : Int); omega, by show ((n4 s _ : Nat) : Int) ≤ _; omega⟩
def listX (s : ByteArray) (k : Nat) : List Ex := (List.range k).map (exR s)
theorem listX_length (s : ByteArray) (k : Nat) : (listX s k).length = k := by simp [listX]
/-- A text of so many extents. -/
def SizeOk (s : ByteArray) : Prop := okB s 0 4 = true ∧ n4 s 0 ≤ 4096 ∧ s.size = 4 + 12 * n4 s 0
open Classical in
noncomputable def parseR (s : ByteArray) : List Ex × Int := if SizeOk s ∧ goodB (listX s (n4 s 0)) = true then (listX s (n4 s 0), 0) else ([], 70)
set_option maxHeartbeats 1000000 in
theorem read1_any (s : ByteArray) (i : Int) (hi : 0 ≤ i ∧ i ≤ 2) (b : Nat) (w : World) (hb : w.cell? ⟨b, 0, none⟩ = some (.string s)) (hs : s.size ≤ maxLen) :
    Calls Tryz.prog 222 #[.int .i64 i, .pointer (some ⟨b, 0, none⟩)] w fun e w' => e = .returned (.int .i64 (n4 s (i * 4) : Nat)) ∧ Below w.heap.size w w' := by
  have hw : IntKind.i64.wrap (i * 4) = i * 4 := i64w _ (by omega)
  have hl := n4_lt s (i * 4)
  have hc : IntKind.i64.wrap ((n4 s (i * 4) : Nat) : Int) = ((n4 s (i * 4) : Nat) : Int) := i64w _ (by omega)
  have HB := Lib.hid (fun v => show Calls Tryz.prog 194 #[.string s, .int .i64 (i * 4), .int .i64 4] v fun e w' => e = .returned (.tuple #[.int .u64 (n4 s (i * 4) : Nat), .bool (okB s (i * 4) 4)]) ∧ Below v.heap.size v w' from big_any s (i * 4) 4 v hs)
  generalize n4 s (i * 4) = n at *
  generalize okB s (i * 4) 4 = ok at *
  go_enter Tryz.func222, Tryz.ntmps222
  go_wp2_with (fail)
  refine (HB.out _).mono ?_; rintro e w1 ⟨rfl, hb1⟩
  have H1 := Lib.hid hb1
  clear hb1
  go_wp2_with (fail)
  go_ret
  exact ⟨rfl, H1.out⟩
theorem size32 : (Tryz.prog.info? 158).map (·.size) = some 3 := by kernel_rfl
set_option maxHeartbeats 1000000 in
theorem read_any (s : ByteArray) (w : World) (hs : s.size ≤ maxLen) :
    Calls Tryz.prog 210 #[.string s] w fun e w' => e = .returned (exV ⟨n4 s 0, n4 s 4, n4 s 8⟩) ∧ Below w.heap.size w w' := by
  have hmf : ∀ (fn : Fn) (first cap : Array Value) (w : World), (Instr.makeFunc fn first cap).run Tryz.prog w = .ok (.func fn first cap) w := fun _ _ _ _ => rfl
  have hk1 := (Blk.new w 9 #[.string s]).alloc (.cells #[.int .i64 0, .int .i64 0, .int .i64 0] 158)
  have hk2 := Blk.new (w.alloc (.cells #[.string s] 9)) 158 #[.int .i64 0, .int .i64 0, .int .i64 0]
  rw [World.size_alloc] at hk2
  have hb0 := ((Below.refl w.heap.size w).alloc (Nat.le_refl _) (.cells #[.string s] 9)).alloc (by simp) (.cells #[.int .i64 0, .int .i64 0, .int .i64 0] 158)
  have HK1 := Lib.hid hk1; have HK2 := Lib.hid hk2; have HB := Lib.hid hb0
  clear hk1 hk2 hb0
  simp only [exV]
  have HR := Lib.hid (fun i hi v hb => read1_any s i hi w.heap.size v hb hs)
  have HR0 := Lib.hid (fun v (hb : v.cell? ⟨w.heap.size, 0, none⟩ = some (.string s)) => (show Calls Tryz.prog 222 #[.int .i64 0, .pointer (some ⟨w.heap.size, 0, none⟩)] v fun e w' => e = .returned (.int .i64 (n4 s 0 : Nat)) ∧ Below v.heap.size v w' from HR.out 0 (by omega) v hb))
  have HR1 := Lib.hid (fun v (hb : v.cell? ⟨w.heap.size, 0, none⟩ = some (.string s)) => (show Calls Tryz.prog 222 #[.int .i64 1, .pointer (some ⟨w.heap.size, 0, none⟩)] v fun e w' => e = .returned (.int .i64 (n4 s 4 : Nat)) ∧ Below v.heap.size v w' from HR.out 1 (by omega) v hb))
  have HR2 := Lib.hid (fun v (hb : v.cell? ⟨w.heap.size, 0, none⟩ = some (.string s)) => (show Calls Tryz.prog 222 #[.int .i64 2, .pointer (some ⟨w.heap.size, 0, none⟩)] v fun e w' => e = .returned (.int .i64 (n4 s 8 : Nat)) ∧ Below v.heap.size v w' from HR.out 2 (by omega) v hb))
  generalize ((n4 s 0 : Nat) : Int) = x0 at *
  generalize ((n4 s 4 : Nat) : Int) = x1 at *
  generalize ((n4 s 8 : Nat) : Int) = x2 at *
  go_enter Tryz.func210, Tryz.ntmps210
  go_upto_region 2 with (fail)
  change Code.wp _ _ _ _ ((w.alloc (.cells #[.string s] 9)).alloc (.cells #[.int .i64 0, .int .i64 0, .int .i64 0] 158))
  generalize (w.alloc (.cells #[.string s] 9)).alloc (.cells #[.int .i64 0, .int .i64 0, .int .i64 0] 158) = w0 at *
  go_wp2_with (fail)
  refine (HR0.out _ (HK1.out.cell 0)).mono ?_; rintro e w1 ⟨rfl, hb1⟩
  replace HK1 := Lib.hid (HK1.out.below hb1 HK1.out.lt)
  replace HK2 := Lib.hid (HK2.out.below hb1 HK2.out.lt)
  replace HB := Lib.hid (HB.out.trans (hb1.mono HB.out.size))
  clear hb1
  go_wp2_with (fail)
  refine (HR1.out _ (HK1.out.cell 0)).mono ?_; rintro e w2 ⟨rfl, hb1⟩
  replace HK1 := Lib.hid (HK1.out.below hb1 HK1.out.lt)
  replace HK2 := Lib.hid (HK2.out.below hb1 HK2.out.lt)
  replace HB := Lib.hid (HB.out.trans (hb1.mono HB.out.size))
  clear hb1
  go_wp2_with (fail)
  refine (HR2.out _ (HK1.out.cell 0)).mono ?_; rintro e w3 ⟨rfl, hb1⟩
  replace HK2 := Lib.hid (HK2.out.below hb1 HK2.out.lt)
  replace HB := Lib.hid (HB.out.trans (hb1.mono HB.out.size))
  clear hb1
  have hbld := build32 x0 x1 x2 w3
  have c0 := HK2.out.cell 0
  have c1 := HK2.out.cell 1
  have c2 := HK2.out.cell 2
  have f0 := HK2.out.free 0
  have f1 := HK2.out.free 1
  have f2 := HK2.out.free 2
  simp at c0 c1 c2
  have HBB := Lib.hid (((HB.out.setCell (p := ⟨w.heap.size + 1, 0, none⟩) (by simp) (.int .i64 x0)).setCell (p := ⟨w.heap.size + 1, 1, none⟩) (by simp) (.int .i64 x1)).setCell (p := ⟨w.heap.size + 1, 2, none⟩) (by simp) (.int .i64 x2))
  have HKK := Lib.hid (((HK2.out.put 0 (.int .i64 x0)).put 1 (.int .i64 x1)).put 2 (.int .i64 x2))
  go_wp2_with (fail)
  refine bodyPost_ret_by (results_cell_row rfl _ _ (w.heap.size + 1) 158 #[.int .i64 x0, .int .i64 x1, .int .i64 x2] (0, 0) _ rfl HKK.out Tryz.underlying158 rfl size32) rfl ?_
  exact ⟨rfl, HBB.out⟩
end Go.Proofs.YtglfjlbhjaemgaaGreatDoor.Ext
namespace Go.Proofs.YtglfjlbhjaemgaaGreatDoor.Ext
open Go.RowKit
theorem parse_no {s : ByteArray} (h : ¬ SizeOk s) : parseR s = ([], 70) := by unfold parseR; rw [if_neg (fun hh => h hh.1)]
theorem parse_bad {s : ByteArray} (h : goodB (listX s (n4 s 0)) = false) : parseR s = ([], 70) := by unfold parseR; rw [if_neg (fun hh => by rw [h] at hh; exact absurd hh.2 (by decide))]
theorem parse_yes {s : ByteArray} (hs : SizeOk s) (h : goodB (listX s (n4 s 0)) = true) : parseR s = (listX s (n4 s 0), 0) := by unfold parseR; rw [if_pos ⟨hs, h⟩]
/-- The first k extents stand there. -/
def Filled (s : ByteArray) (n k : Nat) (cs : Array Value) : Prop := cs.size = n * 3 ∧ ∀ j, j < k → cs[j * 3]? = some (.int .i64 (exR s j).l) ∧ cs[j * 3 + 1]? = some (.int .i64 (exR s j).b) ∧ cs[j * 3 + 2]? = some (.int .i64 (exR s j).a)
theorem Filled.step {s : ByteArray} {n k : Nat} {cs : Array Value} (h : Filled s n k cs) (hk : k < n) :
    Filled s n (k + 1) (((cs.setIfInBounds (k * 3) (.int .i64 (exR s k).l)).setIfInBounds (k * 3 + 1) (.int .i64 (exR s k).b)).setIfInBounds (k * 3 + 2) (.int .i64 (exR s k).a)) := by
  obtain ⟨h1, h2⟩ := h
  refine ⟨by simpa using h1, fun j hj => ?_⟩
  by_cases hjk : j = k
  · subst hjk
    have a0 : j * 3 < cs.size := by omega
    have a1 : j * 3 + 1 < cs.size := by omega
    have a2 : j * 3 + 2 < cs.size := by omega
    refine ⟨?_, ?_, ?_⟩ <;> simp [a0, a1, a2]
  · obtain ⟨c0, c1, c2⟩ := h2 j (by omega)
    have e : ∀ (p q : Nat), p < 3 → q < 3 → k * 3 + p ≠ j * 3 + q := fun p q _ _ => by omega
    have e00 := e 0 0 (by omega) (by omega); have e01 := e 0 1 (by omega) (by omega); have e02 := e 0 2 (by omega) (by omega)
    have e10 := e 1 0 (by omega) (by omega); have e11 := e 1 1 (by omega) (by omega); have e12 := e 1 2 (by omega) (by omega)
    have e20 := e 2 0 (by omega) (by omega); have e21 := e 2 1 (by omega) (by omega); have e22 := e 2 2 (by omega) (by omega)
    simp only [Nat.add_zero] at e00 e01 e02 e10 e20
    refine ⟨?_, ?_, ?_⟩
    · rw [Array.getElem?_setIfInBounds_ne e20, Array.getElem?_setIfInBounds_ne e10, Array.getElem?_setIfInBounds_ne e00]; exact c0
    · rw [Array.getElem?_setIfInBounds_ne e21, Array.getElem?_setIfInBounds_ne e11, Array.getElem?_setIfInBounds_ne e01]; exact c1
    · rw [Array.getElem?_setIfInBounds_ne e22, Array.getElem?_setIfInBounds_ne e12, Array.getElem?_setIfInBounds_ne e02]; exact c2
theorem Filled.exts {s : ByteArray} {n : Nat} {cs : Array Value} {w : World} {g t : Nat} (h : Filled s n n cs) (hb : Blk w g t cs) : Exts w (some ⟨g, 0, none⟩) (listX s n) := by
  intro _
  refine ⟨g, 0, rfl, fun j x hj => ?_⟩
  have hjn : j < n := by have := (List.getElem?_eq_some_iff.1 hj).1; rw [listX_length] at this; exact this
  obtain rfl : x = exR s j := by
    unfold listX at hj
    rw [List.getElem?_map, List.getElem?_range hjn] at hj
    exact (Option.some.inj hj).symm
  obtain ⟨c0, c1, c2⟩ := h.2 j hjn
  rw [Nat.zero_add]
  exact ⟨exR_wf s j, (hb.cell _).trans c0, (hb.cell _).trans c1, (hb.cell _).trans c2⟩
theorem make_exs (s : ByteArray) (w : World) (n : Nat) (hn : n ≤ 4096) : ∃ cs, (Instr.makeSlice 138 (.int .u64 (n : Nat)) (.int .u64 (n : Nat))).run Tryz.prog w = .ok (.slice (some ⟨w.heap.size, 0, none⟩) n n) (w.alloc (.cells cs 158)) ∧ Filled s n 0 cs := by
  obtain ⟨i0, hi0, hz0, hz1, hz2⟩ := info_parts info32
  have := run_make (P := Tryz.prog) w 138 158 i0 _ Tryz.underlying138 hi0 hz0 .u64 .u64 (n : Nat) (n : Nat) (by omega) (by omega) (by rw [hz2]; omega) (by omega)
  refine ⟨_, this, ?_, fun j hj => absurd hj (by omega)⟩
  rw [hz1]
  simp [madeCells]
theorem read_at {s : ByteArray} {n k : Nat} (hk : k < n) (hz : s.size = 4 + 12 * n) (hs : s.size ≤ maxLen) (w : World) :
    Calls Tryz.prog 210 #[.string (s.extract (4 + k * 12) s.size)] w fun e w' => e = .returned (.agg #[.int .i64 (exR s k).l, .int .i64 (exR s k).b, .int .i64 (exR s k).a]) ∧ Below w.heap.size w w' := by
  have h := read_any (s.extract (4 + k * 12) s.size) w (by rw [ext_size _ _ _ (Nat.le_refl _)]; omega)
  have e0 := n4_ext s (4 + k * 12) s.size 0 (by omega) (Nat.le_refl _)
  have e1 := n4_ext s (4 + k * 12) s.size 4 (by omega) (Nat.le_refl _)
  have e2 := n4_ext s (4 + k * 12) s.size 8 (by omega) (Nat.le_refl _)
  rw [show ((0 : Nat) : Int) = 0 from rfl, show ((4 + k * 12 + 0 : Nat) : Int) = 4 + 12 * (k : Int) by omega] at e0
  rw [show ((4 : Nat) : Int) = 4 from rfl, show ((4 + k * 12 + 4 : Nat) : Int) = 8 + 12 * (k : Int) by omega] at e1
  rw [show ((8 : Nat) : Int) = 8 from rfl, show ((4 + k * 12 + 8 : Nat) : Int) = 12 + 12 * (k : Int) by omega] at e2
  rw [e0, e1, e2] at h
  exact h
set_option maxHeartbeats 2000000 in
theorem parse_any (s : ByteArray) (w : World) (hs : s.size ≤ maxLen) :
    Calls Tryz.prog 193 #[.string s] w fun e w' => ∃ A c, e = .returned (.tuple #[.slice A (parseR s).1.length c, .int .i64 (parseR s).2]) ∧ ExtsF w.heap.size w' A (parseR s).1 ∧ Below w.heap.size w w' := by
  have HB := Lib.hid (fun v => show Calls Tryz.prog 194 #[.string s, .int .i64 0, .int .i64 4] v fun e w' => e = .returned (.tuple #[.int .u64 (n4 s 0 : Nat), .bool (okB s 0 4)]) ∧ Below v.heap.size v w' from big_any s 0 4 v hs)
  have hl := n4_lt s 0
  have hs' := hs
  unfold maxLen at hs'
  by_cases hok : okB s 0 4 = true
  · by_cases hn : n4 s 0 ≤ 4096
    · by_cases hz : s.size = 4 + 12 * n4 s 0
      · have HSO := Lib.hid (show SizeOk s from ⟨hok, hn, hz⟩)
        have HY := Lib.hid (fun h => parse_yes HSO.out h)
        have HN := Lib.hid (fun h => parse_bad (s := s) h)
        rw [hok] at HB
        obtain ⟨n, hn0⟩ : ∃ n, n4 s 0 = n := ⟨_, rfl⟩
        rw [hn0] at HB HY HN hn hz hl
        obtain ⟨r, hr⟩ : ∃ r, parseR s = r := ⟨_, rfl⟩
        rw [hr] at HY HN ⊢
        clear hr hn0 hok
        have HQ := Lib.hid hz
        have hgt : decide (((n : Nat) : Int) > 4096) = false := decide_eq_false (by omega)
        have hw1 : IntKind.i64.wrap ((n : Nat) : Int) = ((n : Nat) : Int) := i64w _ (by omega)
        have hw2 : IntKind.i64.wrap (((n : Nat) : Int) * 12) = ((n : Nat) : Int) * 12 := i64w _ (by omega)
        have hw3 : IntKind.i64.wrap (4 + ((n : Nat) : Int) * 12) = 4 + ((n : Nat) : Int) * 12 := i64w _ (by omega)
        have hne : (((s.size : Nat) : Int) != 4 + ((n : Nat) : Int) * 12) = false := by rw [bne_eq_false_iff_eq]; omega
        clear hz
        go_enter Tryz.func193, Tryz.ntmps193
        go_wp2_with (fail)
        refine (HB.out _).mono ?_; rintro e w1 ⟨rfl, hb1⟩
        have H1 := Lib.hid hb1
        clear hb1
        obtain ⟨cs, hmk, hf⟩ := make_exs s w1 n hn
        have HF := Lib.hid hf; clear hf
        go_wp2_with (fail)
        have HK0 := Lib.hid (Blk.new w1 158 cs)
        have HB0 := Lib.hid (H1.out.alloc H1.out.size (.cells cs 158))
        have HG := Lib.hid H1.out.size
        clear hmk H1
        obtain ⟨g, hg⟩ : ∃ g, w1.heap.size = g := ⟨_, rfl⟩
        rw [hg] at HK0 HG ⊢
        clear hg
        generalize w1.alloc (.cells cs 158) = w0 at *
        go_loopw [32] (fun i wr => ∃ (k : Nat) (cs : Array Value), i = .int .i64 k ∧ k ≤ n ∧ Blk wr g 158 cs ∧ Filled s n k cs ∧ Below w.heap.size w wr) (fun i _ => n - (intOf i).toNat)
        case atStart => exact ⟨0, cs, rfl, Nat.zero_le _, HK0.out, HF.out, HB0.out⟩
        case round =>
          obtain ⟨k, cs, rfl, hk, hbk, hff, hb⟩ := hrel
          have HK := Lib.hid hbk; have HFK := Lib.hid hff; have HBK := Lib.hid hb
          clear hbk hff hb
          by_cases hlt : k < n
          · have hki : (k : Int) < n := by omega
            have hw4 : IntKind.i64.wrap ((k : Int) * 12) = (k : Int) * 12 := i64w _ (by omega)
            have hw5 : IntKind.i64.wrap (4 + (k : Int) * 12) = 4 + (k : Int) * 12 := i64w _ (by omega)
            have hsl : 4 + (k : Int) * 12 ≤ s.size := by have := HQ.out; omega
            have hs0 : 0 ≤ 4 + (k : Int) * 12 := by omega
            have hto : (4 + (k : Int) * 12).toNat = 4 + k * 12 := by omega
            have HR := Lib.hid (read_at hlt HQ.out hs wr)
            have HST := Lib.hid (HFK.out.step hlt)
            have hz0 := HFK.out.1
            have c0 : wr.cell? ⟨g, k * 3, none⟩ = some cs[k * 3] := (HK.out.cell _).trans (Array.getElem?_eq_getElem (by omega))
            have c1 : wr.cell? ⟨g, k * 3 + 1, none⟩ = some cs[k * 3 + 1] := (HK.out.cell _).trans (Array.getElem?_eq_getElem (by omega))
            have c2 : wr.cell? ⟨g, k * 3 + 2, none⟩ = some cs[k * 3 + 2] := (HK.out.cell _).trans (Array.getElem?_eq_getElem (by omega))
            generalize cs[k * 3] = v0 at c0
            generalize cs[k * 3 + 1] = v1 at c1
            generalize cs[k * 3 + 2] = v2 at c2
            obtain ⟨y, hy⟩ : ∃ y, exR s k = y := ⟨_, rfl⟩
            rw [hy] at HST HR
            clear hy hz0
            go_wp2_with (fail)
            refine HR.out.mono ?_; rintro e w2 ⟨rfl, hb2⟩
            have hgl := HK.out.lt
            have HK2 := Lib.hid (HK.out.below hb2 hgl)
            have HB2 := Lib.hid (HBK.out.trans (hb2.mono HBK.out.size))
            replace c0 := (hb2.cell (p := ⟨g, k * 3, none⟩) hgl).trans c0
            replace c1 := (hb2.cell (p := ⟨g, k * 3 + 1, none⟩) hgl).trans c1
            replace c2 := (hb2.cell (p := ⟨g, k * 3 + 2, none⟩) hgl).trans c2
            have f0 := HK2.out.free (k * 3)
            have f1 := HK2.out.free (k * 3 + 1)
            have f2 := HK2.out.free (k * 3 + 2)
            have HK3 := Lib.hid (((HK2.out.put (k * 3) (.int .i64 y.l)).put (k * 3 + 1) (.int .i64 y.b)).put (k * 3 + 2) (.int .i64 y.a))
            have HB3 := Lib.hid (((HB2.out.setCell (p := ⟨g, k * 3, none⟩) HG.out (.int .i64 y.l)).setCell (p := ⟨g, k * 3 + 1, none⟩) HG.out (.int .i64 y.b)).setCell (p := ⟨g, k * 3 + 2, none⟩) HG.out (.int .i64 y.a))
            clear hb2
            go_wp2_with (fail)
            go_roundw
            case rel =>
              exact ⟨k + 1, _, by go_num, hlt, HK3.out, HST.out, HB3.out⟩
            case measure => simp [intOf]; omega
          · obtain rfl : k = n := by omega
            have HE := Lib.hid (HFK.out.exts HK.out)
            have HGD := Lib.hid (fun v (h : Exts v (some ⟨g, 0, none⟩) (listX s k)) => (show Calls Tryz.prog 139 #[.slice (some ⟨g, 0, none⟩) k k] v fun e w' => e = .returned (.bool (goodB (listX s k))) ∧ Below v.heap.size v w' by
              have := good_any (some ⟨g, 0, none⟩) k (listX s k) v h (by rw [listX_length]; unfold maxLen; omega)
              rw [listX_length] at this
              exact this))
            by_cases hgd : goodB (listX s k) = true
            · have hrr := HY.out hgd
              subst hrr
              rw [hgd] at HGD
              go_wp2_with (fail)
              refine (HGD.out _ HE.out).mono ?_; rintro e w2 ⟨rfl, hb2⟩
              have HB2 := Lib.hid (HBK.out.trans (hb2.mono HBK.out.size))
              have HE2 := Lib.hid (HE.out.below hb2)
              clear hb2
              go_wp2_with (fail)
              go_ret2
              exact ⟨some ⟨g, 0, none⟩, ⟨k, by first | (rw [listX_length]; done) | (rw [listX_length]; rfl)⟩, ⟨HE2.out, fun _ a ha => by cases ha; exact HG.out⟩, HB2.out⟩
            · have hgd : goodB (listX s k) = false := by simpa using hgd
              have hrr := HN.out hgd
              subst hrr
              rw [hgd] at HGD
              go_wp2_with (fail)
              refine (HGD.out _ HE.out).mono ?_; rintro e w2 ⟨rfl, hb2⟩
              have HB2 := Lib.hid (HBK.out.trans (hb2.mono HBK.out.size))
              clear hb2
              go_wp2_with (fail)
              go_ret2
              exact ⟨none, ⟨0, rfl⟩, ExtsF.nil _ _ _, HB2.out⟩
      · rw [parse_no (fun h => hz h.2.2)]
        rw [hok] at HB
        generalize n4 s 0 = n at *
        have hgt : decide (((n : Nat) : Int) > 4096) = false := decide_eq_false (by omega)
        have hw1 : IntKind.i64.wrap ((n : Nat) : Int) = ((n : Nat) : Int) := i64w _ (by omega)
        have hw2 : IntKind.i64.wrap (((n : Nat) : Int) * 12) = ((n : Nat) : Int) * 12 := i64w _ (by omega)
        have hw3 : IntKind.i64.wrap (4 + ((n : Nat) : Int) * 12) = 4 + ((n : Nat) : Int) * 12 := i64w _ (by omega)
        have hne : (((s.size : Nat) : Int) != 4 + ((n : Nat) : Int) * 12) = true := by rw [bne_iff_ne]; omega
        clear hz
        go_enter Tryz.func193, Tryz.ntmps193
        go_wp2_with (fail)
        refine (HB.out _).mono ?_; rintro e w1 ⟨rfl, hb1⟩
        have H1 := Lib.hid hb1
        clear hb1
        go_wp2_with (fail)
        go_ret2
        exact ⟨none, 0, rfl, ExtsF.nil _ _ _, H1.out⟩
    · rw [parse_no (fun h => hn h.2.1)]
      rw [hok] at HB
      generalize n4 s 0 = n at *
      have hgt : decide (((n : Nat) : Int) > 4096) = true := decide_eq_true (by omega)
      go_enter Tryz.func193, Tryz.ntmps193
      go_wp2_with (fail)
      refine (HB.out _).mono ?_; rintro e w1 ⟨rfl, hb1⟩
      have H1 := Lib.hid hb1
      clear hb1
      go_wp2_with (fail)
      go_ret2
      exact ⟨none, 0, rfl, ExtsF.nil _ _ _, H1.out⟩
  · rw [parse_no (fun h => hok h.1)]
    rw [show okB s 0 4 = false by simpa using hok] at HB
    generalize n4 s 0 = n at *
    go_enter Tryz.func193, Tryz.ntmps193
    go_wp2_with (fail)
    refine (HB.out _).mono ?_; rintro e w1 ⟨rfl, hb1⟩
    have H1 := Lib.hid hb1
    clear hb1
    go_wp2_with (fail)
    go_ret2
    exact ⟨none, 0, rfl, ExtsF.nil _ _ _, H1.out⟩
end Go.Proofs.YtglfjlbhjaemgaaGreatDoor.Ext
namespace Go.Proofs.YtglfjlbhjaemgaaGreatDoor.Ext
open Go.RowKit
def B4 (x : Nat) : List UInt8 := [UInt8.ofNat (x / 16777216), UInt8.ofNat (x / 65536), UInt8.ofNat (x / 256), UInt8.ofNat x]
theorem put4 (x : Nat) : (putHi x 4).data.toList = B4 x := by
  rw [show (4 : Int) = ((4 : Nat) : Int) from rfl, putHi_yes (by decide) (by decide)]
  show outB (hiG x 4) 4 = B4 x
  unfold B4
  rw [show outB (hiG x 4) 4 = [UInt8.ofNat (hiG x 4 0), UInt8.ofNat (hiG x 4 1), UInt8.ofNat (hiG x 4 2), UInt8.ofNat (hiG x 4 3)] from rfl]
  have h0 : hiG x 4 0 = x / 16777216 := rfl
  have h1 : hiG x 4 1 = x / 65536 := rfl
  have h2 : hiG x 4 2 = x / 256 := rfl
  have h3 : hiG x 4 3 = x := by show x / 1 = x; omega
  rw [h0, h1, h2, h3]
theorem n4_at (s : ByteArray) (a : Nat) (h : a + 4 ≤ s.size) : n4 s (a : Nat) = ((byt s a * 256 + byt s (a + 1)) * 256 + byt s (a + 2)) * 256 + byt s (a + 3) := by
  show bigR s ((a : Nat) : Int) ((4 : Nat) : Int) = _
  rw [bigR_yes (a := a) (n := 4) (okB_yes (by omega))]
  simp only [bigV, readV, Nat.add_zero]
  omega
theorem n4_val (s : ByteArray) (p r : List UInt8) (x a : Nat) (hx : x < 4294967296) (ha : p.length = a) (h : s.data.toList = p ++ (B4 x ++ r)) : n4 s (a : Nat) = x := by
  have hz : s.size = p.length + (4 + r.length) := by rw [← list_size, h]; simp [B4]; omega
  rw [n4_at s a (by omega)]
  have e : ∀ i, i < 4 → byt s (a + i) = ((B4 x).getD i 0).toNat := by
    intro i hi
    unfold byt
    rw [h, List.getD, List.getD, List.getElem?_append_right (by omega), show a + i - p.length = i by omega, List.getElem?_append_left (by simp [B4]; omega)]
  have e0 := e 0 (by omega)
  rw [Nat.add_zero] at e0
  rw [e0, e 1 (by omega), e 2 (by omega), e 3 (by omega)]
  show (((UInt8.ofNat (x / 16777216)).toNat * 256 + (UInt8.ofNat (x / 65536)).toNat) * 256 + (UInt8.ofNat (x / 256)).toNat) * 256 + (UInt8.ofNat x).toNat = x
  simp only [UInt8.toNat_ofNat']
  omega
theorem exT_list (x : Ex) : (exT x).data.toList = B4 x.l.toNat ++ (B4 x.b.toNat ++ B4 x.a.toNat) := by
  unfold exT
  rw [app_list, app_list, put4, put4, put4, List.append_assoc]
theorem cat_split (l : List Ex) (j : Nat) (x : Ex) (h : l[j]? = some x) : (textX l).data.toList = (B4 l.length ++ (catT (l.take j)).data.toList) ++ (B4 x.l.toNat ++ (B4 x.b.toNat ++ (B4 x.a.toNat ++ (catT (l.drop (j + 1))).data.toList))) := by
  have hj := (List.getElem?_eq_some_iff.1 h)
  obtain ⟨hlt, he⟩ := hj
  have hs : l = l.take j ++ ([x] ++ l.drop (j + 1)) := by
    rw [← he, List.singleton_append, List.getElem_cons_drop, List.take_append_drop]
  have hc : catT l = catT (l.take j) ++ (exT x ++ catT (l.drop (j + 1))) := by
    conv => lhs; rw [hs]
    rw [catT_app, catT_app, show catT [x] = exT x from app_nil _]
  unfold textX
  rw [hc]
  simp only [app_list, put4, exT_list, List.append_assoc]
theorem exR_text (l : List Ex) (j : Nat) (x : Ex) (h : l[j]? = some x) (hf : x.Fits) : exR (textX l) j = x := by
  have hs := cat_split l j x h
  have hlt := (List.getElem?_eq_some_iff.1 h).1
  have hl0 : (B4 l.length ++ (catT (l.take j)).data.toList).length = 4 + 12 * j := by
    rw [List.length_append, list_size, catT_size, List.length_take]
    show 4 + _ = _
    omega
  unfold Ex.Fits at hf
  have v0 := n4_val (textX l) _ _ x.l.toNat (4 + 12 * j) (by omega) hl0 hs
  have v1 := n4_val (textX l) ((B4 l.length ++ (catT (l.take j)).data.toList) ++ B4 x.l.toNat) (B4 x.a.toNat ++ (catT (l.drop (j + 1))).data.toList) x.b.toNat (4 + 12 * j + 4) (by omega) (by rw [List.length_append, hl0]; rfl) (by rw [hs]; simp only [List.append_assoc])
  have v2 := n4_val (textX l) ((B4 l.length ++ (catT (l.take j)).data.toList) ++ (B4 x.l.toNat ++ B4 x.b.toNat)) (catT (l.drop (j + 1))).data.toList x.a.toNat (4 + 12 * j + 8) (by omega) (by rw [List.length_append, hl0]; rfl) (by rw [hs]; simp only [List.append_assoc])
  apply Ex.ext
  · show ((n4 (textX l) (4 + 12 * (j : Int)) : Nat) : Int) = x.l
    rw [show (4 + 12 * (j : Int)) = ((4 + 12 * j : Nat) : Int) by omega, v0]; omega
  · show ((n4 (textX l) (8 + 12 * (j : Int)) : Nat) : Int) = x.b
    rw [show (8 + 12 * (j : Int)) = ((4 + 12 * j + 4 : Nat) : Int) by omega, v1]; omega
  · show ((n4 (textX l) (12 + 12 * (j : Int)) : Nat) : Int) = x.a
    rw [show (12 + 12 * (j : Int)) = ((4 + 12 * j + 8 : Nat) : Int) by omega, v2]; omega
theorem textX_size (l : List Ex) : (textX l).size = 4 + 12 * l.length := by
  unfold textX; rw [ByteArray.size_append, putHi4, catT_size]
/-- What was written is read as it was. -/
theorem parse_back {l : List Ex} (hg : goodB l = true) : parseR (textX l) = (l, 0) := by
  have hn := good_length hg
  have hz := textX_size l
  have h0 : n4 (textX l) 0 = l.length := n4_val (textX l) [] (catT l).data.toList l.length 0 (by omega) rfl (by unfold textX; rw [app_list, put4]; rfl)
  have hl : listX (textX l) l.length = l := by
    apply List.ext_getElem?
    intro j
    by_cases hj : j < l.length
    · have e := List.getElem?_eq_getElem hj
      have hf := (good_asc hg).fits _ (List.mem_of_getElem? e)
      rw [e]
      unfold listX
      rw [List.getElem?_map, List.getElem?_range hj, Option.map_some, exR_text l j _ e hf]
    · rw [List.getElem?_eq_none (by rw [listX_length]; omega), List.getElem?_eq_none (by omega)]
  have hs : SizeOk (textX l) := ⟨okB_yes (by omega), by omega, by omega⟩
  have := parse_yes hs (by rw [h0, hl]; exact hg)
  rw [h0, hl] at this
  exact this
end Go.Proofs.YtglfjlbhjaemgaaGreatDoor.Ext
