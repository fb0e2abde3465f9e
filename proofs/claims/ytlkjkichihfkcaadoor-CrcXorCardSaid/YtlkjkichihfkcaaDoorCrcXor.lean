/- The call of CrcXor returns true. -/
import Derived.Test.YtlkjkichihfkcaaDoorCrc
import Derived.RegionTactic
import Derived.BigRegion
import Derived.Laws.Cover1
import Derived.OwnWalk
import Derived.Deep.RegionWith
namespace Go.Proofs.YtlkjkichihfkcaaDoor
open Go.RowKit
def xorAt (a b c : ByteArray) (i : Nat) : UInt8 := (lst a).getD i 0 ^^^ (lst b).getD i 0 ^^^ (lst c).getD i 0
def mixX (g : Nat → UInt8) (k n : Nat) : List UInt8 := (List.range n).map fun i => if i < k then g i else 0
theorem mixX_none (g : Nat → UInt8) (n : Nat) : bv (mixX g 0 n) = List.replicate n (.int .u8 0) := by
  apply List.ext_getElem?
  intro i
  by_cases hi : i < n <;> simp [bv, mixX, hi]
theorem mixX_set (g : Nat → UInt8) (n j : Nat) (u : Int) (hu : u = ((g j).toNat : Int)) : (bv (mixX g j n)).set j (.int .u8 u) = bv (mixX g (j + 1) n) := by
  subst hu
  apply List.ext_getElem?
  intro i
  by_cases hi : i < n
  · by_cases hij : j = i
    · subst hij
      simp [bv, mixX, hi]
    · by_cases h2 : i < j
      · have h3 : i < j + 1 := by omega
        simp [bv, mixX, hi, hij, h2, h3]
      · have h3 : ¬ i < j + 1 := by omega
        simp [bv, mixX, hi, hij, h2, h3]
  · simp [bv, mixX, hi]
theorem mixX_all (a b c : ByteArray) (n : Nat) : mixX (xorAt a b c) n n = xorL (lst a) (lst b) (lst c) n := by
  unfold mixX xorL
  exact List.map_congr_left fun i hi => by rw [if_pos (List.mem_range.1 hi)]; rfl
theorem mixX_length (g : Nat → UInt8) (k n : Nat) : (mixX g k n).length = n := by simp [mixX]
theorem byt_u8 (s : ByteArray) (i : Nat) (h : i < s.size) : s[i] = (lst s).getD i 0 := by
  have h' : i < (lst s).length := by rw [lst_len]; exact h
  rw [List.getD_eq_getElem?_getD, List.getElem?_eq_getElem h']; rfl
theorem xor8 (x y : UInt8) : bits BinOp.xor IntKind.u8 (x.toNat : Int) (y.toNat : Int) = (((x ^^^ y).toNat : Nat) : Int) := by
  rw [u8_xor_nat _ _ (UInt8.toNat_lt x) (UInt8.toNat_lt y), UInt8.toNat_xor]
theorem min_three (x y z : Nat) : (if (z : Int) < (if y < x then (y : Int) else x) then (z : Int) else (if y < x then (y : Int) else x)) = ((min (min x y) z : Nat) : Int) := by
  split <;> split <;> omega
theorem mixX_cell (g : Nat → UInt8) (k n : Nat) (hk : k < n) (B b : Nat) (wr : World) (hu : wr.ownsRow B 5 1 (.slice (some ⟨b, 0, none⟩) n n) n (bv (mixX g k n))) :
    ∃ y, wr.cell? ⟨b, k, none⟩ = some y := by
  rw [hu.cellAt k (by omega)]
  exact ⟨_, by simp [bv, mixX, hk]; rfl⟩
theorem ext_take (s : ByteArray) (k : Nat) : lst (s.extract 0 k) = (lst s).take k := by
  unfold lst; rw [ByteArray.data_extract, Array.toList_extract, List.extract_eq_take_drop, List.drop_zero, Nat.sub_zero]
theorem ext_small (s : ByteArray) (k : Nat) (h : k ≤ s.size) (hk : k ≤ 20000) : (s.extract 0 k).size ≤ maxLen := by
  rw [← lst_len, ext_take, List.length_take, lst_len]; unfold maxLen; omega
def xorB (a b c : ByteArray) (k : Nat) : ByteArray := ⟨(xorL (lst a) (lst b) (lst c) k).toArray⟩
theorem xorB_lst (a b c : ByteArray) (k : Nat) : lst (xorB a b c k) = xorL (lst a) (lst b) (lst c) k := rfl
theorem xorB_small (a b c : ByteArray) (k : Nat) (hk : k ≤ 20000) : (xorB a b c k).size ≤ maxLen := by
  rw [← lst_len, xorB_lst]; simp only [xorL, List.length_map, List.length_range]; unfold maxLen; omega
theorem xorB_sum (a b c : ByteArray) (k : Nat) (ha : k ≤ a.size) (hb : k ≤ b.size) (hc : k ≤ c.size) :
    sumV (xorB a b c k) = sumV (a.extract 0 k) ^^^ sumV (b.extract 0 k) ^^^ sumV (c.extract 0 k) := by
  unfold sumV
  rw [xorB_lst, ext_take, ext_take, ext_take]
  exact sum_xor _ _ _ _ (by rw [lst_len]; exact ha) (by rw [lst_len]; exact hb) (by rw [lst_len]; exact hc)
def SumIs (s : ByteArray) (n : Nat) : Prop := ∀ w : World, Tab w → Calls Tryd.prog 9 #[.string s] w fun e w' => e = .returned (.int .u32 n) ∧ w = w'
theorem sumIs (s : ByteArray) (n : Nat) (hs : s.size ≤ maxLen) (h : sumV s = n) : SumIs s n := fun w ht => by rw [← h]; exact sum_any s w hs ht
set_option maxHeartbeats 1000000 in
theorem xor_in (a b c : ByteArray) (n : Nat) (w : World) (hn : n = min (min a.size b.size) c.size) (hs : n ≤ 20000) (ht : Tab w) :
    Calls Tryd.prog 7 #[.string a, .string b, .string c] w fun e w' => e = .returned (.bool true) ∧ Below w.heap.size w w' := by
  obtain ⟨i0, hi, hz0, hz1, hz2⟩ := info_parts Tryd.info5
  obtain ⟨w0, hmk, hown0, hgrow0⟩ := run_make_full (P := Tryd.prog) w w.heap.size 32 5 i0 (.int .u8 0) 1 Tryd.underlying32 hi hz0 hz1 .i64 .i64 n (by rw [hz2]; omega) (by unfold maxLen; omega) (Nat.le_refl _)
  rw [show (Value.int IntKind.u8 0).cells = #[.int .u8 0] from rfl, Nat.mul_one, toList_madeCells_one, ← mixX_none (xorAt a b c) n] at hown0
  have hm := min_three a.size b.size c.size
  rw [← hn] at hm
  have hna : n ≤ a.size := by omega
  have hnb : n ≤ b.size := by omega
  have hnc : n ≤ c.size := by omega
  clear hn
  go_enter Tryd.func7, Tryd.ntmps7
  go_wp2
  clear hmk hm
  go_loopw [9] (fun i wr => ∃ k : Nat, k ≤ n ∧ i = .int .i64 k ∧ wr.ownsRow w.heap.size 5 1 (.slice (some ⟨w.heap.size, 0, none⟩) n n) n (bv (mixX (xorAt a b c) k n)) ∧ Below w.heap.size w wr) (fun i _ => n - (intOf i).toNat)
  case atStart => exact ⟨0, Nat.zero_le _, rfl, hown0, (Below.refl _ _).grown hgrow0 (Nat.le_refl _) (fun k hk => by cases hk)⟩
  case round =>
    obtain ⟨k, hk, rfl, hown, hbel⟩ := hrel
    have HB := Lib.hid hbel; clear hbel
    by_cases hlt : k < n
    · obtain ⟨y, hy⟩ := mixX_cell _ k n hlt _ _ _ hown
      have hf := hown.frozenAt k
      have la : k < a.size := by omega
      have lb : k < b.size := by omega
      have lc : k < c.size := by omega
      have x1 := u8_xor_nat a[k].toNat b[k].toNat (UInt8.toNat_lt _) (UInt8.toNat_lt _)
      have x2 := xor8 (a[k] ^^^ b[k]) c[k]
      rw [UInt8.toNat_xor a[k] b[k]] at x2
      obtain ⟨v, hv⟩ : ∃ v, v = a[k] ^^^ b[k] ^^^ c[k] := ⟨_, rfl⟩
      rw [← hv] at x2
      have HU := Lib.hid (show ((v.toNat : Nat) : Int) = ((xorAt a b c k).toNat : Int) by rw [hv]; unfold xorAt; rw [byt_u8 a k la, byt_u8 b k lb, byt_u8 c k lc])
      clear hv
      go_wp2_with (fail)
      go_region
      go_wp2
      go_roundw
      case rel =>
        have hst := hown.stored k (.int .u8 ((v.toNat : Nat) : Int))
        rw [mixX_set (xorAt a b c) n k _ HU.out] at hst
        exact ⟨k + 1, by omega, by go_num, hst.1.drew, (HB.out.grown hst.2 HB.out.size (fun j hj => by cases hj; exact Nat.le_refl _)).drew⟩
      case measure => simp [intOf]; omega
    · obtain rfl : k = n := by omega
      rw [mixX_all] at hown
      have hcv := run_convert_bytes_back (P := Tryd.prog) wr.drew 32 9 5 ⟨w.heap.size, 0, none⟩ k (xorL (lst a) (lst b) (lst c) k) Tryd.underlying32 Tryd.underlying5 Tryd.underlying9 (bv_get _ _ _ _ _ _ hown.drew)
      rw [show (xorL (lst a) (lst b) (lst c) k).length = k by simp [xorL]] at hcv
      change Sem.run Tryd.prog _ wr.drew = Result.ok (Value.string (xorB a b c k)) wr.drew at hcv
      have SX := sumIs _ _ (xorB_small a b c k hs) (xorB_sum a b c k hna hnb hnc)
      have SA := sumIs _ _ (ext_small a k hna hs) rfl
      have SB := sumIs _ _ (ext_small b k hnb hs) rfl
      have SC := sumIs _ _ (ext_small c k hnc hs) rfl
      have za := sumV_lt (a.extract 0 k)
      have zb := sumV_lt (b.extract 0 k)
      have zc := sumV_lt (c.extract 0 k)
      generalize sumV (a.extract 0 k) = sa at SX SA za
      generalize sumV (b.extract 0 k) = sb at SX SB zb
      generalize sumV (c.extract 0 k) = sc at SX SC zc
      generalize xorB a b c k = x at hcv SX
      have x1 := xorU sa sb za zb
      have x2 := xorU (sa ^^^ sb) sc (x32 za zb) zc
      clear za zb zc
      have hbel2 := HB.out.drew
      have htr := ht.below hbel2
      have ks0 : (0 : Int) ≤ k := by omega
      have ka : (k : Int) ≤ a.size := by omega
      have kb : (k : Int) ≤ b.size := by omega
      have kc : (k : Int) ≤ c.size := by omega
      have H2 := Lib.hid hbel2; clear hbel2
      clear hown hown0 hgrow0
      go_wp2_with (fail)
      go_region_with (first
        | (go_at_call_of 9 (Value.string x); refine (SX _ htr).mono ?_; rintro e w' ⟨rfl, rfl⟩)
        | (go_at_call_of 9 (Value.string (a.extract 0 k)); refine (SA _ htr).mono ?_; rintro e w' ⟨rfl, rfl⟩)
        | (go_at_call_of 9 (Value.string (b.extract 0 k)); refine (SB _ htr).mono ?_; rintro e w' ⟨rfl, rfl⟩)
        | (go_at_call_of 9 (Value.string (c.extract 0 k)); refine (SC _ htr).mono ?_; rintro e w' ⟨rfl, rfl⟩)
        | (go_at_call 8; refine (wakes_any _ htr).mono ?_; rintro e w5 ⟨rfl, hb5⟩))
      go_wp2
      go_ret
      exact ⟨rfl, H2.out.trans (hb5.mono H2.out.size)⟩
theorem xor_out (a b c : ByteArray) (n : Nat) (w : World) (hn : n = min (min a.size b.size) c.size) (hs : ¬ n ≤ 20000) (ht : Tab w) :
    Calls Tryd.prog 7 #[.string a, .string b, .string c] w fun e w' => e = .returned (.bool true) ∧ Below w.heap.size w w' := by
  have hm := min_three a.size b.size c.size
  rw [← hn] at hm
  have hs' : 20000 < n := by omega
  have hna : n ≤ a.size := by omega
  clear hn hs
  go_enter Tryd.func7, Tryd.ntmps7
  go_wp2_with (fail)
  refine (wakes_any _ ht).mono ?_; rintro e w3 ⟨rfl, hb3⟩
  go_wp2
  go_ret
  exact ⟨rfl, hb3⟩
theorem xor_any (a b c : ByteArray) (w : World) (ht : Tab w) :
    Calls Tryd.prog 7 #[.string a, .string b, .string c] w fun e w' => e = .returned (.bool true) ∧ Below w.heap.size w w' := by
  by_cases h : min (min a.size b.size) c.size ≤ 20000
  · exact xor_in a b c _ w rfl h ht
  · exact xor_out a b c _ w rfl h ht
end Go.Proofs.YtlkjkichihfkcaaDoor
