/- PutBig and PutLittle of the document, at every input. -/
import Derived.Test.YtdggipgieanpeaaWrites
namespace Go.Proofs.Ytdggipgieanpeaa
open Go.RowKit
def mixB (g : Nat → Nat) (p : Nat → Bool) (n : Nat) : List UInt8 := (List.range n).map fun i => if p i then UInt8.ofNat (g i) else 0
theorem mix_set (g : Nat → Nat) (p q : Nat → Bool) (n j : Nat) (h : ∀ i, i < n → i ≠ j → q i = p i) (hq : q j = true) (u : Int) (hu : u = ((g j % 256 : Nat) : Int)) :
    (bv (mixB g p n)).set j (.int .u8 u) = bv (mixB g q n) := by
  subst hu
  apply List.ext_getElem?
  intro i
  by_cases hi : i < n
  · by_cases hij : j = i
    · subst hij
      simp [bv, mixB, hi, hq]
    · have := h i hi (fun e => hij e.symm)
      simp [bv, mixB, hi, hij, this]
  · simp [bv, mixB, hi]
theorem mix_none (g : Nat → Nat) (n : Nat) : bv (mixB g (fun _ => false) n) = List.replicate n (.int .u8 0) := by
  apply List.ext_getElem?
  intro i
  by_cases hi : i < n <;> simp [bv, mixB, hi]
theorem mix_all (g : Nat → Nat) (p : Nat → Bool) (n : Nat) (h : ∀ i, i < n → p i = true) : mixB g p n = outB g n := by
  unfold mixB outB
  exact List.map_congr_left fun i hi => by rw [h i (List.mem_range.1 hi)]; rfl
theorem mix_cell (g : Nat → Nat) (p : Nat → Bool) (n j : Nat) (hj : j < n) (u : Value) (B : Nat) (wr : World) (hu : wr.ownsRow B 5 1 u n (bv (mixB g p n))) (b : Nat) (hb : u = .slice (some ⟨b, 0, none⟩) n n) :
    ∃ y, wr.cell? ⟨b, j, none⟩ = some y := by
  subst hb
  rw [hu.cellAt j (by omega)]
  exact ⟨_, by simp [bv, mixB, hj]; rfl⟩
theorem div_step (x k : Nat) : x / 256 ^ k / 256 = x / 256 ^ (k + 1) := by rw [Nat.div_div_eq_div_mul, Nat.pow_succ]
theorem div_fits (x k : Nat) (hx : x < 18446744073709551616) : x / 256 ^ k < 18446744073709551616 := Nat.lt_of_le_of_lt (Nat.div_le_self _ _) hx
theorem loG_eq (x k : Nat) : loG x k = x / 256 ^ k := by unfold loG; rw [pow8]
theorem hiG_eq (x n k : Nat) : hiG x n k = x / 256 ^ (n - (k + 1)) := by unfold hiG; rw [pow8, show n - 1 - k = n - (k + 1) by omega]
theorem div_next (x n k : Nat) (h : k + 1 ≤ n) : x / 256 ^ (n - (k + 1)) / 256 = x / 256 ^ (n - k) := by rw [div_step, show n - (k + 1) + 1 = n - k by omega]
set_option maxRecDepth 100000 in
set_option maxHeartbeats 400000 in
theorem refPutHi_yes (x n : Nat) (w : World) (hx : x < 18446744073709551616) (h1 : 1 ≤ n) (h8 : n ≤ 8) :
    Calls Try.prog 22 #[.int .u64 x, .int .i64 n] w fun e w' => e = .returned (.string ⟨(outB (hiG x n) n).toArray⟩) ∧ Below w.heap.size w w' := by
  obtain ⟨i0, hi, hz0, hz1, hz2⟩ := info_parts Try.info5
  obtain ⟨w0, hmk, hown0, hgrow0⟩ := run_make_full (P := Try.prog) w w.heap.size 66 5 i0 (.int .u8 0) 1 Try.underlying66 hi hz0 hz1 .i64 .i64 n (by rw [hz2]; omega) (by unfold maxLen; omega) (Nat.le_refl _)
  rw [show (Value.int IntKind.u8 0).cells = #[.int .u8 0] from rfl, Nat.mul_one, toList_madeCells_one, ← mix_none (hiG x n) n] at hown0
  have hst : bv (mixB (hiG x n) (fun _ => false) n) = bv (mixB (hiG x n) (fun i => decide (n ≤ i)) n) := by
    unfold mixB
    exact congrArg bv (List.map_congr_left fun i hi => by
      have hi' := List.mem_range.1 hi
      show _ = if decide (n ≤ i) = true then _ else _
      rw [decide_eq_false (by omega)])
  rw [hst] at hown0
  clear hst
  go_enter Try.func22, Try.ntmps22
  go_wp2
  clear hmk
  go_loopw [0, 6] (fun v i wr => ∃ k z : Nat, k ≤ n ∧ i = .int .i64 ((k : Int) - 1) ∧ v = .int .u64 z ∧ z = x / 256 ^ (n - k) ∧ wr.ownsRow w.heap.size 5 1 (.slice (some ⟨w.heap.size, 0, none⟩) n n) n (bv (mixB (hiG x n) (fun i => decide (k ≤ i)) n)) ∧ Below w.heap.size w wr) (fun _ i _ => (intOf i + 1).toNat)
  case atStart => exact ⟨n, x, Nat.le_refl _, rfl, rfl, by simp, hown0, (Below.refl _ _).grown hgrow0 (Nat.le_refl _) (fun k hk => by cases hk)⟩
  case round =>
    obtain ⟨k, z, hk, rfl, rfl, hz, hown, hbel⟩ := hrel
    have hfit := div_fits x (n - k) hx
    rw [← hz] at hfit
    have HZ := Lib.hid hz; clear hz
    cases k with
    | succ k =>
      have hq : ((k + 1 : Nat) : Int) - 1 = k := by omega
      rw [hq]; clear hq
      obtain ⟨y, hy⟩ := mix_cell _ _ n k (by omega) _ _ _ hown _ rfl
      have hf := hown.frozenAt k
      go_wp2
      go_roundw
      case rel =>
        have hst := hown.stored k (.int .u8 ((z : Int) % 256))
        rw [mix_set (hiG x n) _ (fun i => decide (k ≤ i)) n k (fun i _ hne => by simp only [decide_eq_decide]; omega) (by simp) _ (by rw [hiG_eq, ← HZ.out]; omega)] at hst
        exact ⟨k, z / 256, by omega, rfl, by go_num, by rw [HZ.out, div_next _ _ _ hk], hst.1, hbel.grown hst.2 hbel.size (fun j hj => by cases hj; exact Nat.le_refl _)⟩
      case measure => simp [intOf]
    | zero =>
      rw [mix_all _ _ _ (fun i hi => by simp)] at hown
      have hcv := run_convert_bytes_back (P := Try.prog) wr 66 9 5 ⟨w.heap.size, 0, none⟩ n (outB (hiG x n) n) Try.underlying66 Try.underlying5 Try.underlying9 (bv_get _ _ _ _ _ _ hown)
      rw [outB_length] at hcv
      have hz0 : ¬ (0 : Int) ≤ ((0 : Nat) : Int) - 1 := by omega
      go_wp2
      go_ret
      exact ⟨rfl, hbel⟩
set_option maxRecDepth 100000 in
set_option maxHeartbeats 400000 in
theorem refPutBig_any (x : Nat) (n : Int) (w : World) (hx : x < 18446744073709551616) :
    Calls Try.prog 22 #[.int .u64 x, .int .i64 n] w fun e w' => e = .returned (.string (putHi x n)) ∧ Below w.heap.size w w' := by
  by_cases h : 1 ≤ n ∧ n ≤ 8
  · obtain ⟨h1, h2⟩ := h
    obtain ⟨n, rfl⟩ := Int.eq_ofNat_of_zero_le (show 0 ≤ n by omega)
    rw [putHi_yes (by omega) (by omega)]
    exact refPutHi_yes x n w hx (by omega) (by omega)
  · have HP := Lib.hid (putHi_no (x := x) h)
    by_cases h1 : 1 ≤ n
    · have h2 : ¬ n ≤ 8 := by omega
      clear h
      go_enter Try.func22, Try.ntmps22
      go_wp2
      go_ret
      exact ⟨ret_str HP.out.symm, Below.refl _ _⟩
    · clear h
      go_enter Try.func22, Try.ntmps22
      go_wp2
      go_ret
      exact ⟨ret_str HP.out.symm, Below.refl _ _⟩
end Go.Proofs.Ytdggipgieanpeaa
