/- store's statements: their small helpers. store's statements: Fill. -/
import Derived.Test.YtglfjlbhjaemgaaGreatDoorPk29
import Derived.Test.YtglfjlbhjaemgaaGreatDoorPk15
import Derived.Test.YtglfjlbhjaemgaaGreatDoorPk31
namespace Go.Proofs.YtglfjlbhjaemgaaGreatDoor
open Go.RowKit
open Ext (Ex Exts exV ExtsF textX)
def idPre : ByteArray := ⟨#[117, 110, 105, 116, 45, 105, 100, 45, 48, 48, 48, 48, 48, 48, 48]⟩
def idB (b : UInt8) : ByteArray := idPre ++ ⟨#[97 + b % 26]⟩
theorem idB_size (b : UInt8) : (idB b).size = 16 := by unfold idB; rw [ByteArray.size_append]; rfl
set_option maxRecDepth 100000 in
set_option maxHeartbeats 4000000 in
theorem id_any (b : UInt8) (w : World) : Calls Tryz.prog 12 #[.int .u8 (b.toNat : Int)] w fun e w' => e = .returned (.string (idB b)) ∧ Below w.heap.size w w' := by
  have hb := b.toNat_lt
  obtain ⟨c, hc⟩ : ∃ c : Nat, (97 + b % 26 : UInt8).toNat = c := ⟨_, rfl⟩
  have hc2 : c = 97 + b.toNat % 26 := by
    rw [← hc, UInt8.toNat_add, UInt8.toNat_mod]
    show (97 + b.toNat % 26) % 256 = _
    omega
  have hw2 : IntKind.u8.wrap (97 + (b.toNat : Int) % 26) = (c : Int) := by rw [IntKind.wrap_u8]; omega
  have hat : Ext.BytesAt (w.alloc (.cells #[.int .u8 (c : Int)] 5)) w.heap.size ⟨#[97 + b % 26]⟩ := fun j hj => by
    have hj2 : j < 1 := hj
    obtain rfl : j = 0 := by omega
    rw [(Blk.new w 5 #[.int .u8 (c : Int)]).cell]
    refine (show (#[Value.int .u8 (c : Int)])[0]? = some (.int .u8 (c : Int)) from rfl).trans ?_
    rw [← hc]
    rfl
  have hcv := Ext.bytes_str (cap := 1) hat
  rw [show (⟨#[97 + b % 26]⟩ : ByteArray).size = 1 from rfl] at hcv
  have HB := Lib.hid ((Below.refl w.heap.size w).alloc (Nat.le_refl _) (.cells #[.int .u8 (c : Int)] 5))
  have hcat : idPre.size + (⟨#[97 + b % 26]⟩ : ByteArray).size ≤ 9223372036854775807 := by show 15 + 1 ≤ _; omega
  generalize hlb : (⟨#[97 + b % 26]⟩ : ByteArray) = last at *
  have HI := Lib.hid (show idB b = (⟨#[117, 110, 105, 116, 45, 105, 100, 45, 48, 48, 48, 48, 48, 48, 48]⟩ : ByteArray) ++ last by rw [← hlb]; rfl)
  have hcat2 : (⟨#[117, 110, 105, 116, 45, 105, 100, 45, 48, 48, 48, 48, 48, 48, 48]⟩ : ByteArray).size + last.size ≤ 9223372036854775807 := hcat
  clear hat hc hc2 hb hlb hcat
  go_enter Tryz.func12, Tryz.ntmps12
  go_wp2_with (fail)
  go_ret
  exact ⟨by rw [HI.out]; rfl, HB.out⟩
def sumU : List (Int × ByteArray) → Int
  | [] => 0
  | u :: l => u.1 + sumU l
theorem sumU_next {l : List (Int × ByteArray)} {k : Nat} {u : Int × ByteArray} (h : l[k]? = some u) : sumU (l.take (k + 1)) = sumU (l.take k) + u.1 := by
  have key : ∀ (a : List (Int × ByteArray)) (u : Int × ByteArray), sumU (a ++ [u]) = sumU a + u.1 := by
    intro a u
    induction a with
    | nil => show u.1 + 0 = 0 + u.1; omega
    | cons y a ih => show y.1 + sumU (a ++ [u]) = y.1 + sumU a + u.1; rw [ih]; omega
  rw [List.take_add_one, h]
  exact key _ _
theorem sumU_small {l : List (Int × ByteArray)} (h : ∀ u ∈ l, 1 ≤ u.1 ∧ u.1 ≤ 4096) : 0 ≤ sumU l ∧ sumU l ≤ 4096 * (l.length : Int) := by
  induction l with
  | nil => exact ⟨Int.le_refl _, Int.le_refl _⟩
  | cons y l ih =>
    obtain ⟨h1, h2⟩ := ih (fun u hu => h u (List.mem_cons_of_mem _ hu))
    have h3 := h y (List.mem_cons_self ..)
    refine ⟨by show 0 ≤ y.1 + sumU l; omega, ?_⟩
    show y.1 + sumU l ≤ 4096 * ((l.length + 1 : Nat) : Int)
    omega
theorem need_sum (l : List (Int × ByteArray)) : needT (l.map newT) = 576 + 2 * sumU l := by
  have : ∀ l : List (Int × ByteArray), sumN (l.map newT) = sumU l := by
    intro l
    induction l with
    | nil => rfl
    | cons y l ih => show y.1 + sumN (l.map newT) = y.1 + sumU l; rw [ih]
  unfold needT
  rw [this]
theorem needs_any (A : Option Addr) (c : Nat) (l : List (Int × ByteArray)) (w : World) (hl : Uns w A l) (ho : ∀ u ∈ l, 1 ≤ u.1 ∧ u.1 ≤ 4096) (hn : l.length ≤ 8) :
    Calls Tryz.prog 14 #[.slice A l.length c] w fun e w' => e = .returned (.int .i64 (576 + 2 * sumU l)) ∧ Below w.heap.size w w' := by
  have HL := Lib.hid hl
  have HO := Lib.hid ho
  clear hl ho
  go_enter Tryz.func14, Tryz.ntmps14
  go_wp2_with (fail)
  go_loopw [3, 4] (fun n i v => ∃ k : Nat, i = .int .i64 k ∧ k ≤ l.length ∧ n = .int .i64 (576 + 2 * sumU (l.take k)) ∧ Below w.heap.size w v) (fun _ i _ => l.length - (intOf i).toNat)
  case atStart => exact ⟨0, rfl, Nat.zero_le _, rfl, Below.refl _ _⟩
  case round =>
    obtain ⟨k, rfl, hk, rfl, hb⟩ := hrel
    have HB := Lib.hid hb
    by_cases hlt : k < l.length
    · have hki : (k : Int) < l.length := by omega
      have hk8 : (k : Int) < 8 := by omega
      obtain ⟨b, o, u, rfl, hat, c0, c1⟩ := (HL.out.below hb).at_ hlt
      have hu := HO.out u (List.mem_of_getElem? hat)
      have hs := sumU_small (l := l.take k) (fun u hu => HO.out u (List.mem_of_mem_take hu))
      have hlk : (l.take k).length ≤ 8 := by rw [List.length_take]; omega
      have hnx := sumU_next hat
      obtain ⟨z, hz⟩ : ∃ z, sumU (l.take k) = z := ⟨_, rfl⟩
      rw [hz] at hs hnx
      obtain ⟨un, ui⟩ := u
      simp only at hu hnx c0
      have g1 : min un 4096 = un := by omega
      have g2 : max 0 un = un := by omega
      have hw1 : IntKind.i64.wrap (2 * un) = 2 * un := i64w _ (by omega)
      have hw2 : IntKind.i64.wrap (576 + 2 * z + 2 * un) = 576 + 2 * z + 2 * un := i64w _ (by omega)
      have hwk : IntKind.i64.wrap ((k : Int) + 1) = ((k + 1 : Nat) : Int) := by rw [i64w _ (by omega)]; omega
      have HN := Lib.hid (show (Value.int .i64 (576 + 2 * z + 2 * un)) = .int .i64 (576 + 2 * sumU (l.take (k + 1))) by rw [hnx]; congr 1; omega)
      rw [hz]
      clear hat hs hlk hnx hz hu hb c1
      go_wp2_with (fail)
      exact ⟨⟨k + 1, by go_num, hlt, HN.out, HB.out⟩, by simp only [intOf]; omega⟩
    · obtain rfl : k = l.length := by omega
      have hkk : ¬ (l.length : Int) < (l.length : Int) := by omega
      rw [List.take_length]
      go_wp2_with (fail)
      go_ret
      exact ⟨rfl, HB.out⟩
open Go.RowKit
open Ext (Ex Exts exV ExtsF textX)
def fillB (b : UInt8) : Nat → ByteArray
  | 0 => ⟨#[]⟩
  | k + 1 => fillB b k ++ bytesS 512 (b + UInt8.ofNat k)
theorem fillB_size (b : UInt8) : ∀ k, (fillB b k).size = k * 512
  | 0 => rfl
  | k + 1 => by
    show (fillB b k ++ bytesS 512 (b + UInt8.ofNat k)).size = _
    rw [ByteArray.size_append, fillB_size b k, bytesS_size]
    omega
theorem fill_any (n : Nat) (b : UInt8) (w : World) (hn : n ≤ 100000) : Calls Tryz.prog 17 #[.int .i64 (n : Int), .int .u8 (b.toNat : Int)] w fun e w' => e = .returned (.string (fillB b n)) ∧ Below w.heap.size w w' := by
  have HBK := Lib.hid (fun k v => block_any (b + UInt8.ofNat k) v)
  have HW : Hid (∀ k : Nat, IntKind.u8.wrap ((b.toNat : Int) + IntKind.u8.wrap (k : Int)) = ((b + UInt8.ofNat k).toNat : Int)) := Lib.hid (fun k => by
    rw [UInt8.toNat_add, IntKind.wrap_u8, IntKind.wrap_u8, UInt8.toNat_ofNat']
    have := b.toNat_lt
    omega)
  go_enter Tryz.func17, Tryz.ntmps17
  go_wp2_with (fail)
  go_loopw [5, 6] (fun s i v => ∃ k : Nat, i = .int .i64 k ∧ k ≤ n ∧ s = .string (fillB b k) ∧ Below w.heap.size w v) (fun _ i _ => n - (intOf i).toNat)
  case atStart => exact ⟨0, rfl, Nat.zero_le _, rfl, Below.refl _ _⟩
  case round =>
    obtain ⟨k, rfl, hk, rfl, hb⟩ := hrel
    have HB := Lib.hid hb
    by_cases hlt : k < n
    · have hki : (k : Int) < (n : Int) := by omega
      have hw := HW.out k
      obtain ⟨u, hu⟩ : ∃ u, IntKind.u8.wrap (k : Int) = u := ⟨_, rfl⟩
      rw [hu] at hw
      have hwk : IntKind.i64.wrap ((k : Int) + 1) = ((k + 1 : Nat) : Int) := by rw [i64w _ (by omega)]; omega
      have hcat : (fillB b k).size + (bytesS 512 (b + UInt8.ofNat k)).size ≤ 9223372036854775807 := by rw [fillB_size, bytesS_size]; omega
      have HN := Lib.hid (show fillB b k ++ bytesS 512 (b + UInt8.ofNat k) = fillB b (k + 1) from rfl)
      have HK := Lib.hid (HBK.out k)
      obtain ⟨c, hc⟩ : ∃ c : Int, ((b + UInt8.ofNat k).toNat : Int) = c := ⟨_, rfl⟩
      rw [hc] at hw HK
      generalize bytesS 512 (b + UInt8.ofNat k) = z at *
      generalize fillB b k = s at *
      clear hb hc
      go_wp2_with (fail)
      refine (HK.out _).mono ?_; rintro e w2 ⟨rfl, hb2⟩
      have HB2 := Lib.hid (HB.out.trans (hb2.mono HB.out.size))
      clear hb2 HK
      go_wp2_with (fail)
      exact ⟨⟨k + 1, rfl, hlt, by rw [HN.out], HB2.out⟩, by simp only [intOf]; omega⟩
    · obtain rfl : k = n := by omega
      have hkk : ¬ (k : Int) < (k : Int) := by omega
      go_wp2_with (fail)
      go_ret
      exact ⟨rfl, HB.out⟩
end Go.Proofs.YtglfjlbhjaemgaaGreatDoor
