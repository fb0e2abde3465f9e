/- Find, Used, copies, comparisons. Of each block where it stands: the document's arrays of numbers, and the extents of such an array. The document's spread and gather. The document's Find, Used, Set, Drop, Same. What wakes; which lists are extents; others set, blocks dropped. -/
import Derived.Test.YtglfjlbhjaemgaaGreatDoorPk07
namespace Go.Proofs.YtglfjlbhjaemgaaGreatDoor.Ext
open Go.RowKit
theorem run_append_none (w : World) (ty : TypeId) (base e : Nat) (i : TypeInfo) (t : TypeId) (ht : Tryz.prog.underlying t = some (.slice e)) (hi : Tryz.prog.info? e = some i) (v : Value) (n size : Nat) (xs : List Value) (hown : w.ownsRow base e size v n xs) (c : Nat) :
    (Builtin.append_ #[t, t] ty #[v, .slice none 0 c]).run Tryz.prog w = .ok v w := by
  rcases hown.2 with ⟨rfl, rfl⟩ | ⟨g, cap, cur, rfl, _, _, hnc, _⟩
  · simp [Builtin.append_, run_underlying ht, sizeOf, typeInfo, hi, Builtin.lenOf, Builtin.firstCells]
  · simp [Builtin.append_, run_underlying ht, sizeOf, typeInfo, hi, Builtin.lenOf, Builtin.firstCells, hnc, storeCells]
def sumB : List Ex → Int
  | [] => 0
  | x :: t => x.b + sumB t
theorem sumB_snoc (l : List Ex) (x : Ex) : sumB (l ++ [x]) = sumB l + x.b := by
  induction l with
  | nil => show x.b + 0 = 0 + x.b; omega
  | cons y t ih => show y.b + sumB (t ++ [x]) = y.b + sumB t + x.b; rw [ih]; omega
theorem sumB_next {l : List Ex} {k : Nat} {x : Ex} (h : l[k]? = some x) : sumB (l.take (k + 1)) = sumB (l.take k) + x.b := by
  rw [List.take_add_one, h, Option.toList_some, sumB_snoc]
theorem sumB_small {l : List Ex} (h : ∀ x ∈ l, x.Fits) : 0 ≤ sumB l ∧ sumB l ≤ 4096 * (l.length : Int) := by
  induction l with
  | nil => simp [sumB]
  | cons y t ih =>
    have h1 := h y (by simp)
    have h2 := ih (fun x hx => h x (by simp [hx]))
    unfold Ex.Fits at h1
    simp only [sumB, List.length_cons]
    omega
def usedX (l : List Ex) : Int := if goodB l then sumB l else 0
set_option maxRecDepth 100000 in
set_option maxHeartbeats 2000000 in
theorem used_any (A : Option Addr) (c : Nat) (l : List Ex) (w : World) (hl : Exts w A l) (hn : l.length ≤ 100000) :
    Calls Tryz.prog 80 #[.slice A l.length c] w fun e w' => e = .returned (.int .i64 (usedX l)) ∧ Below w.heap.size w w' := by
  have HL := Lib.hid hl
  clear hl
  have HGA := Lib.hid (fun v (h : Exts v A l) => good_any A c l v h (by unfold maxLen; omega))
  unfold usedX
  go_enter Tryz.func80, Tryz.ntmps80
  cases hg : goodB l with
  | false =>
    rw [hg] at HGA
    clear hg
    rw [if_neg (by simp)]
    go_wp2_with (fail)
    refine (HGA.out _ HL.out).mono ?_; rintro e w1 ⟨rfl, hb1⟩
    have HB1 := Lib.hid hb1
    clear hb1
    have hnt := not_false w1
    go_wp2_with (fail)
    go_ret
    exact ⟨rfl, HB1.out⟩
  | true =>
    have HF := Lib.hid (good_asc hg).fits
    rw [hg] at HGA
    clear hg
    rw [if_pos rfl]
    go_wp2_with (fail)
    refine (HGA.out _ HL.out).mono ?_; rintro e w1 ⟨rfl, hb1⟩
    have HB1 := Lib.hid hb1
    have HL1 := Lib.hid (HL.out.below hb1)
    clear hb1
    have hnt := not_true w1
    go_wp2_with (fail)
    clear hnt
    go_loopw [11, 3] (fun i s wr => ∃ k : Nat, i = .int .i64 k ∧ k ≤ l.length ∧ s = .int .i64 (sumB (l.take k)) ∧ Below w.heap.size w wr) (fun i _ _ => l.length - (intOf i).toNat)
    case atStart => exact ⟨0, rfl, Nat.zero_le _, rfl, HB1.out⟩
    case round =>
      obtain ⟨k, rfl, hk, rfl, hb⟩ := hrel
      have HB := Lib.hid hb; clear hb
      by_cases hlt : k < l.length
      · have hki : (k : Int) < l.length := by omega
        obtain ⟨b, o, x, rfl, hat, wf, c0, c1, c2⟩ := (HL.out.kept (fun hn a ha => HB.out.block _ (HL.out.lt hn a ha)) : Exts wr A l).at_ hlt
        have HS := Lib.hid (sumB_next hat)
        have hf := HF.out x (List.mem_of_getElem? hat)
        have hs := sumB_small (l := l.take k) (fun y hy => HF.out y (List.mem_of_mem_take hy))
        rw [List.length_take, Nat.min_eq_left hk] at hs
        unfold Ex.Fits at hf
        have hw : IntKind.i64.wrap (sumB (l.take k) + x.b) = sumB (l.take k) + x.b := i64w _ (by omega)
        clear hat wf hf hs
        generalize sumB (l.take k) = sk at *
        go_wp2_with (fail)
        go_roundw
        case rel => exact ⟨k + 1, by go_num, by omega, by rw [HS.out], HB.out.alloc HB.out.size _⟩
        case measure => simp [intOf]; omega
      · obtain rfl : k = l.length := by omega
        rw [List.take_length]
        go_wp2
        go_ret
        exact ⟨rfl, HB.out⟩
end Go.Proofs.YtglfjlbhjaemgaaGreatDoor.Ext
namespace Go.Proofs.YtglfjlbhjaemgaaGreatDoor.Ext
open Go.RowKit
theorem where_cons (x : Ex) (t : List Ex) (n : Int) : whereX (x :: t) n = if x.l ≤ n ∧ n < x.l + x.b then some (x.a + n - x.l) else whereX t n := rfl
/-- The blocks one by one. -/
def ones (m : Nat → Int) : Nat → List Ex
  | 0 => []
  | k + 1 => ones m k ++ (if m k = 0 then [] else [⟨k, 1, m k - 1⟩])
end Go.Proofs.YtglfjlbhjaemgaaGreatDoor.Ext
namespace Go.Proofs.YtglfjlbhjaemgaaGreatDoor.Ext
open Go.RowKit
theorem info3 : (Tryz.prog.info? 3).map (fun i => (i.zero, i.size, i.bytes)) = some (some (.int .i64 0), 1, 8) := by kernel_rfl
theorem Exts.under {w v : World} {A : Option Addr} {l : List Ex} (h : Exts w A l) (hb : Below w.heap.size w v) : Exts v A l := h.below hb
end Go.Proofs.YtglfjlbhjaemgaaGreatDoor.Ext
namespace Go.Proofs.YtglfjlbhjaemgaaGreatDoor.Ext
open Go.RowKit
theorem one_box (w : World) (x : Ex) : ∀ v, v = w.alloc (.cells #[.int .i64 x.l, .int .i64 x.b, .int .i64 x.a] 158) → Blk v w.heap.size 158 (exC x) ∧ Below w.heap.size w v := by
  rintro v rfl
  exact ⟨Blk.new w _ _, (Below.refl _ _).alloc (Nat.le_refl _) _⟩
end Go.Proofs.YtglfjlbhjaemgaaGreatDoor.Ext
namespace Go.Proofs.YtglfjlbhjaemgaaGreatDoor.Ext
open Go.RowKit
def setR (l : List Ex) (x : Ex) : List Ex × Int := if goodB l && fitsB x then (setX l x, 0) else ([], 70)
def dropR (l : List Ex) (lba n : Int) : List Ex × Int := if goodB l && decide (0 ≤ lba ∧ 0 ≤ n ∧ n ≤ 4096 - lba) then (dropX l lba n, 0) else ([], 70)
theorem set_any (A : Option Addr) (c : Nat) (l : List Ex) (x : Ex) (w : World) (hl : Exts w A l) (hx : x.Wf) (hn : l.length ≤ maxLen) :
    Calls Tryz.prog 163 #[.slice A l.length c, exV x] w fun e w' => ∃ A' c', e = .returned (.tuple #[.slice A' (setR l x).1.length c', .int .i64 (setR l x).2]) ∧ ExtsF w.heap.size w' A' (setR l x).1 ∧ Below w.heap.size w w' := by
  unfold setR
  cases hg : goodB l with
  | false =>
    refine (set_no1 A c l x w hl hg hx hn).mono ?_
    rintro e w' ⟨rfl, hb⟩
    exact ⟨none, 0, rfl, ExtsF.nil _ _ _, hb⟩
  | true =>
    cases hf : fitsB x with
    | false =>
      refine (set_no2 A c l x w hl hg hx hf hn).mono ?_
      rintro e w' ⟨rfl, hb⟩
      exact ⟨none, 0, rfl, ExtsF.nil _ _ _, hb⟩
    | true => exact set_ok A c l x w hl hg hx hf (Nat.le_trans (good_length hg) (by omega)) (good_asc hg).fits
theorem drop_any (A : Option Addr) (c : Nat) (l : List Ex) (lba n : Int) (w : World) (hl : Exts w A l) (hw1 : -9223372036854775808 ≤ lba ∧ lba ≤ 9223372036854775807) (hn : l.length ≤ maxLen) :
    Calls Tryz.prog 137 #[.slice A l.length c, .int .i64 lba, .int .i64 n] w fun e w' => ∃ A' c', e = .returned (.tuple #[.slice A' (dropR l lba n).1.length c', .int .i64 (dropR l lba n).2]) ∧ ExtsF w.heap.size w' A' (dropR l lba n).1 ∧ Below w.heap.size w w' := by
  unfold dropR
  by_cases h : (goodB l && decide (0 ≤ lba ∧ 0 ≤ n ∧ n ≤ 4096 - lba)) = true
  · rw [if_pos h]
    rw [Bool.and_eq_true] at h
    obtain ⟨h1, h2, h3⟩ := of_decide_eq_true h.2
    exact drop_ok A c l lba n w hl h.1 h1 h2 h3 (Nat.le_trans (good_length h.1) (by omega)) (good_asc h.1).fits
  · rw [if_neg h]
    refine (drop_no A c l lba n w hl ?_ hw1 hn).mono ?_
    · rw [Bool.and_eq_true] at h
      by_cases hg : goodB l = true
      · refine .inr ?_
        have : ¬ (0 ≤ lba ∧ 0 ≤ n ∧ n ≤ 4096 - lba) := fun hh => h ⟨hg, decide_eq_true hh⟩
        omega
      · exact .inl (by simpa using hg)
    · rintro e w' ⟨rfl, hb⟩
      exact ⟨none, 0, rfl, ExtsF.nil _ _ _, hb⟩
end Go.Proofs.YtglfjlbhjaemgaaGreatDoor.Ext
