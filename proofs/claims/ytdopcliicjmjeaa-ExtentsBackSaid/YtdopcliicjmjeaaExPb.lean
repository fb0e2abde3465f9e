/- Parse. -/
import Derived.Test.YtdopcliicjmjeaaExPa
import Derived.Test.YtdopcliicjmjeaaExG
namespace Go.Proofs.Ytdopcliicjmjeaa
open Go.RowKit
theorem parse_no {s : ByteArray} (h : ¬ SizeOk s) : parseR s = ([], 70) := by unfold parseR; rw [if_neg (fun hh => h hh.1)]
theorem parse_bad {s : ByteArray} (h : goodB (listX s (n4 s 0)) = false) : parseR s = ([], 70) := by unfold parseR; rw [if_neg (fun hh => by rw [h] at hh; exact absurd hh.2 (by decide))]
theorem parse_yes {s : ByteArray} (hs : SizeOk s) (h : goodB (listX s (n4 s 0)) = true) : parseR s = (listX s (n4 s 0), 0) := by unfold parseR; rw [if_pos ⟨hs, h⟩]
/-- The first k extents stand there. -/
def Filled (s : ByteArray) (n k : Nat) (cs : Array Value) : Prop := cs.size = n * 3 ∧ ∀ j, j < k → cs[j * 3]? = some (.int .i64 (exR s j).l) ∧ cs[j * 3 + 1]? = some (.int .i64 (exR s j).b) ∧ cs[j * 3 + 2]? = some (.int .i64 (exR s j).a)
theorem Filled.step {s : ByteArray} {n k : Nat} {cs : Array Value} (h : Filled s n k cs) (hk : k < n) :
    Filled s n (k + 1) (((cs.setIfInBounds (k * 3) (.int .i64 (exR s k).l)).setIfInBounds (k * 3 + 1) (.int .i64 (exR s k).b)).setIfInBounds (k * 3 + 2) (.int .i64 (exR s k).a)) := by
  obtain ⟨h1, h2⟩ := h
  refine ⟨by simpa using h1, fun j hj => ?_⟩
  by_cases hjk : j = k
  · subst hjk
    have a0 : j * 3 < cs.size := by omega
    have a1 : j * 3 + 1 < cs.size := by omega
    have a2 : j * 3 + 2 < cs.size := by omega
    refine ⟨?_, ?_, ?_⟩ <;> simp [a0, a1, a2]
  · obtain ⟨c0, c1, c2⟩ := h2 j (by omega)
    have e : ∀ (p q : Nat), p < 3 → q < 3 → k * 3 + p ≠ j * 3 + q := fun p q _ _ => by omega
    have e00 := e 0 0 (by omega) (by omega); have e01 := e 0 1 (by omega) (by omega); have e02 := e 0 2 (by omega) (by omega)
    have e10 := e 1 0 (by omega) (by omega); have e11 := e 1 1 (by omega) (by omega); have e12 := e 1 2 (by omega) (by omega)
    have e20 := e 2 0 (by omega) (by omega); have e21 := e 2 1 (by omega) (by omega); have e22 := e 2 2 (by omega) (by omega)
    simp only [Nat.add_zero] at e00 e01 e02 e10 e20
    refine ⟨?_, ?_, ?_⟩
    · rw [Array.getElem?_setIfInBounds_ne e20, Array.getElem?_setIfInBounds_ne e10, Array.getElem?_setIfInBounds_ne e00]; exact c0
    · rw [Array.getElem?_setIfInBounds_ne e21, Array.getElem?_setIfInBounds_ne e11, Array.getElem?_setIfInBounds_ne e01]; exact c1
    · rw [Array.getElem?_setIfInBounds_ne e22, Array.getElem?_setIfInBounds_ne e12, Array.getElem?_setIfInBounds_ne e02]; exact c2
theorem Filled.exts {s : ByteArray} {n : Nat} {cs : Array Value} {w : World} {g t : Nat} (h : Filled s n n cs) (hb : Blk w g t cs) : Exts w (some ⟨g, 0, none⟩) (listX s n) := by
  intro _
  refine ⟨g, 0, rfl, fun j x hj => ?_⟩
  have hjn : j < n := by have := (List.getElem?_eq_some_iff.1 hj).1; rw [listX_length] at this; exact this
  obtain rfl : x = exR s j := by
    unfold listX at hj
    rw [List.getElem?_map, List.getElem?_range hjn] at hj
    exact (Option.some.inj hj).symm
  obtain ⟨c0, c1, c2⟩ := h.2 j hjn
  rw [Nat.zero_add]
  exact ⟨exR_wf s j, (hb.cell _).trans c0, (hb.cell _).trans c1, (hb.cell _).trans c2⟩
theorem make_exs (s : ByteArray) (w : World) (n : Nat) (hn : n ≤ 4096) : ∃ cs, (Instr.makeSlice 22 (.int .u64 (n : Nat)) (.int .u64 (n : Nat))).run Try.prog w = .ok (.slice (some ⟨w.heap.size, 0, none⟩) n n) (w.alloc (.cells cs 32)) ∧ Filled s n 0 cs := by
  obtain ⟨i0, hi0, hz0, hz1, hz2⟩ := info_parts info32
  have := run_make (P := Try.prog) w 22 32 i0 _ Try.underlying22 hi0 hz0 .u64 .u64 (n : Nat) (n : Nat) (by omega) (by omega) (by rw [hz2]; omega) (by omega)
  refine ⟨_, this, ?_, fun j hj => absurd hj (by omega)⟩
  rw [hz1]
  simp [madeCells]
theorem read_at {s : ByteArray} {n k : Nat} (hk : k < n) (hz : s.size = 4 + 12 * n) (hs : s.size ≤ maxLen) (w : World) :
    Calls Try.prog 40 #[.string (s.extract (4 + k * 12) s.size)] w fun e w' => e = .returned (.agg #[.int .i64 (exR s k).l, .int .i64 (exR s k).b, .int .i64 (exR s k).a]) ∧ Below w.heap.size w w' := by
  have h := read_any (s.extract (4 + k * 12) s.size) w (by rw [ext_size _ _ _ (Nat.le_refl _)]; omega)
  have e0 := n4_ext s (4 + k * 12) s.size 0 (by omega) (Nat.le_refl _)
  have e1 := n4_ext s (4 + k * 12) s.size 4 (by omega) (Nat.le_refl _)
  have e2 := n4_ext s (4 + k * 12) s.size 8 (by omega) (Nat.le_refl _)
  rw [show ((0 : Nat) : Int) = 0 from rfl, show ((4 + k * 12 + 0 : Nat) : Int) = 4 + 12 * (k : Int) by omega] at e0
  rw [show ((4 : Nat) : Int) = 4 from rfl, show ((4 + k * 12 + 4 : Nat) : Int) = 8 + 12 * (k : Int) by omega] at e1
  rw [show ((8 : Nat) : Int) = 8 from rfl, show ((4 + k * 12 + 8 : Nat) : Int) = 12 + 12 * (k : Int) by omega] at e2
  rw [e0, e1, e2] at h
  exact h
set_option maxHeartbeats 2000000 in
theorem parse_any (s : ByteArray) (w : World) (hs : s.size ≤ maxLen) :
    Calls Try.prog 25 #[.string s] w fun e w' => ∃ A c, e = .returned (.tuple #[.slice A (parseR s).1.length c, .int .i64 (parseR s).2]) ∧ Exts w' A (parseR s).1 ∧ Below w.heap.size w w' := by
  have HB := Lib.hid (fun v => show Calls Try.prog 39 #[.string s, .int .i64 0, .int .i64 4] v fun e w' => e = .returned (.tuple #[.int .u64 (n4 s 0 : Nat), .bool (okB s 0 4)]) ∧ Below v.heap.size v w' from big_any s 0 4 v hs)
  have hl := n4_lt s 0
  have hs' := hs
  unfold maxLen at hs'
  by_cases hok : okB s 0 4 = true
  · by_cases hn : n4 s 0 ≤ 4096
    · by_cases hz : s.size = 4 + 12 * n4 s 0
      · have HSO := Lib.hid (show SizeOk s from ⟨hok, hn, hz⟩)
        have HY := Lib.hid (fun h => parse_yes HSO.out h)
        have HN := Lib.hid (fun h => parse_bad (s := s) h)
        rw [hok] at HB
        obtain ⟨n, hn0⟩ : ∃ n, n4 s 0 = n := ⟨_, rfl⟩
        rw [hn0] at HB HY HN hn hz hl
        obtain ⟨r, hr⟩ : ∃ r, parseR s = r := ⟨_, rfl⟩
        rw [hr] at HY HN ⊢
        clear hr hn0 hok
        have HQ := Lib.hid hz
        have hgt : decide (((n : Nat) : Int) > 4096) = false := decide_eq_false (by omega)
        have hw1 : IntKind.i64.wrap ((n : Nat) : Int) = ((n : Nat) : Int) := i64w _ (by omega)
        have hw2 : IntKind.i64.wrap (((n : Nat) : Int) * 12) = ((n : Nat) : Int) * 12 := i64w _ (by omega)
        have hw3 : IntKind.i64.wrap (4 + ((n : Nat) : Int) * 12) = 4 + ((n : Nat) : Int) * 12 := i64w _ (by omega)
        have hne : (((s.size : Nat) : Int) != 4 + ((n : Nat) : Int) * 12) = false := by rw [bne_eq_false_iff_eq]; omega
        clear hz
        go_enter Try.func25, Try.ntmps25
        go_wp2_with (fail)
        refine (HB.out _).mono ?_; rintro e w1 ⟨rfl, hb1⟩
        have H1 := Lib.hid hb1
        clear hb1
        obtain ⟨cs, hmk, hf⟩ := make_exs s w1 n hn
        have HF := Lib.hid hf; clear hf
        go_wp2_with (fail)
        have HK0 := Lib.hid (Blk.new w1 32 cs)
        have HB0 := Lib.hid (H1.out.alloc H1.out.size (.cells cs 32))
        have HG := Lib.hid H1.out.size
        clear hmk H1
        obtain ⟨g, hg⟩ : ∃ g, w1.heap.size = g := ⟨_, rfl⟩
        rw [hg] at HK0 HG ⊢
        clear hg
        generalize w1.alloc (.cells cs 32) = w0 at *
        go_loopw [32] (fun i wr => ∃ (k : Nat) (cs : Array Value), i = .int .i64 k ∧ k ≤ n ∧ Blk wr g 32 cs ∧ Filled s n k cs ∧ Below w.heap.size w wr) (fun i _ => n - (intOf i).toNat)
        case atStart => exact ⟨0, cs, rfl, Nat.zero_le _, HK0.out, HF.out, HB0.out⟩
        case round =>
          obtain ⟨k, cs, rfl, hk, hbk, hff, hb⟩ := hrel
          have HK := Lib.hid hbk; have HFK := Lib.hid hff; have HBK := Lib.hid hb
          clear hbk hff hb
          by_cases hlt : k < n
          · have hki : (k : Int) < n := by omega
            have hw4 : IntKind.i64.wrap ((k : Int) * 12) = (k : Int) * 12 := i64w _ (by omega)
            have hw5 : IntKind.i64.wrap (4 + (k : Int) * 12) = 4 + (k : Int) * 12 := i64w _ (by omega)
            have hsl : 4 + (k : Int) * 12 ≤ s.size := by have := HQ.out; omega
            have hs0 : 0 ≤ 4 + (k : Int) * 12 := by omega
            have hto : (4 + (k : Int) * 12).toNat = 4 + k * 12 := by omega
            have HR := Lib.hid (read_at hlt HQ.out hs wr)
            have HST := Lib.hid (HFK.out.step hlt)
            have hz0 := HFK.out.1
            have c0 : wr.cell? ⟨g, k * 3, none⟩ = some cs[k * 3] := (HK.out.cell _).trans (Array.getElem?_eq_getElem (by omega))
            have c1 : wr.cell? ⟨g, k * 3 + 1, none⟩ = some cs[k * 3 + 1] := (HK.out.cell _).trans (Array.getElem?_eq_getElem (by omega))
            have c2 : wr.cell? ⟨g, k * 3 + 2, none⟩ = some cs[k * 3 + 2] := (HK.out.cell _).trans (Array.getElem?_eq_getElem (by omega))
            generalize cs[k * 3] = v0 at c0
            generalize cs[k * 3 + 1] = v1 at c1
            generalize cs[k * 3 + 2] = v2 at c2
            obtain ⟨y, hy⟩ : ∃ y, exR s k = y := ⟨_, rfl⟩
            rw [hy] at HST HR
            clear hy hz0
            go_wp2_with (fail)
            refine HR.out.mono ?_; rintro e w2 ⟨rfl, hb2⟩
            have hgl := HK.out.lt
            have HK2 := Lib.hid (HK.out.below hb2 hgl)
            have HB2 := Lib.hid (HBK.out.trans (hb2.mono HBK.out.size))
            replace c0 := (hb2.cell (p := ⟨g, k * 3, none⟩) hgl).trans c0
            replace c1 := (hb2.cell (p := ⟨g, k * 3 + 1, none⟩) hgl).trans c1
            replace c2 := (hb2.cell (p := ⟨g, k * 3 + 2, none⟩) hgl).trans c2
            have f0 := HK2.out.free (k * 3)
            have f1 := HK2.out.free (k * 3 + 1)
            have f2 := HK2.out.free (k * 3 + 2)
            have HK3 := Lib.hid (((HK2.out.put (k * 3) (.int .i64 y.l)).put (k * 3 + 1) (.int .i64 y.b)).put (k * 3 + 2) (.int .i64 y.a))
            have HB3 := Lib.hid (((HB2.out.setCell (p := ⟨g, k * 3, none⟩) HG.out (.int .i64 y.l)).setCell (p := ⟨g, k * 3 + 1, none⟩) HG.out (.int .i64 y.b)).setCell (p := ⟨g, k * 3 + 2, none⟩) HG.out (.int .i64 y.a))
            clear hb2
            go_wp2_with (fail)
            go_roundw
            case rel =>
              exact ⟨k + 1, _, by go_num, hlt, HK3.out, HST.out, HB3.out⟩
            case measure => simp [intOf]; omega
          · obtain rfl : k = n := by omega
            have HE := Lib.hid (HFK.out.exts HK.out)
            have HGD := Lib.hid (fun v (h : Exts v (some ⟨g, 0, none⟩) (listX s k)) => (show Calls Try.prog 14 #[.slice (some ⟨g, 0, none⟩) k k] v fun e w' => e = .returned (.bool (goodB (listX s k))) ∧ Below v.heap.size v w' by
              have := good_any (some ⟨g, 0, none⟩) k (listX s k) v h (by rw [listX_length]; unfold maxLen; omega)
              rw [listX_length] at this
              exact this))
            by_cases hgd : goodB (listX s k) = true
            · have hrr := HY.out hgd
              subst hrr
              rw [hgd] at HGD
              go_wp2_with (fail)
              refine (HGD.out _ HE.out).mono ?_; rintro e w2 ⟨rfl, hb2⟩
              have HB2 := Lib.hid (HBK.out.trans (hb2.mono HBK.out.size))
              have HE2 := Lib.hid (HE.out.below hb2)
              clear hb2
              go_wp2_with (fail)
              go_ret2
              exact ⟨some ⟨g, 0, none⟩, ⟨k, by first | (rw [listX_length]; done) | (rw [listX_length]; rfl)⟩, HE2.out, HB2.out⟩
            · have hgd : goodB (listX s k) = false := by simpa using hgd
              have hrr := HN.out hgd
              subst hrr
              rw [hgd] at HGD
              go_wp2_with (fail)
              refine (HGD.out _ HE.out).mono ?_; rintro e w2 ⟨rfl, hb2⟩
              have HB2 := Lib.hid (HBK.out.trans (hb2.mono HBK.out.size))
              clear hb2
              go_wp2_with (fail)
              go_ret2
              exact ⟨none, ⟨0, rfl⟩, Exts.nil _ _, HB2.out⟩
      · rw [parse_no (fun h => hz h.2.2)]
        rw [hok] at HB
        generalize n4 s 0 = n at *
        have hgt : decide (((n : Nat) : Int) > 4096) = false := decide_eq_false (by omega)
        have hw1 : IntKind.i64.wrap ((n : Nat) : Int) = ((n : Nat) : Int) := i64w _ (by omega)
        have hw2 : IntKind.i64.wrap (((n : Nat) : Int) * 12) = ((n : Nat) : Int) * 12 := i64w _ (by omega)
        have hw3 : IntKind.i64.wrap (4 + ((n : Nat) : Int) * 12) = 4 + ((n : Nat) : Int) * 12 := i64w _ (by omega)
        have hne : (((s.size : Nat) : Int) != 4 + ((n : Nat) : Int) * 12) = true := by rw [bne_iff_ne]; omega
        clear hz
        go_enter Try.func25, Try.ntmps25
        go_wp2_with (fail)
        refine (HB.out _).mono ?_; rintro e w1 ⟨rfl, hb1⟩
        have H1 := Lib.hid hb1
        clear hb1
        go_wp2_with (fail)
        go_ret2
        exact ⟨none, 0, rfl, Exts.nil _ _, H1.out⟩
    · rw [parse_no (fun h => hn h.2.1)]
      rw [hok] at HB
      generalize n4 s 0 = n at *
      have hgt : decide (((n : Nat) : Int) > 4096) = true := decide_eq_true (by omega)
      go_enter Try.func25, Try.ntmps25
      go_wp2_with (fail)
      refine (HB.out _).mono ?_; rintro e w1 ⟨rfl, hb1⟩
      have H1 := Lib.hid hb1
      clear hb1
      go_wp2_with (fail)
      go_ret2
      exact ⟨none, 0, rfl, Exts.nil _ _, H1.out⟩
  · rw [parse_no (fun h => hok h.1)]
    rw [show okB s 0 4 = false by simpa using hok] at HB
    generalize n4 s 0 = n at *
    go_enter Try.func25, Try.ntmps25
    go_wp2_with (fail)
    refine (HB.out _).mono ?_; rintro e w1 ⟨rfl, hb1⟩
    have H1 := Lib.hid hb1
    clear hb1
    go_wp2_with (fail)
    go_ret2
    exact ⟨none, 0, rfl, Exts.nil _ _, H1.out⟩
end Go.Proofs.Ytdopcliicjmjeaa
