/- The statements' own helpers: Mod, Block, Zeros, Ints. -/
import Derived.Test.YtgdaihembmcamaaGreatDoorDevNew
namespace Go.Proofs.YtgdaihembmcamaaGreatDoor
open Go.RowKit
theorem info5 : (Tryz.prog.info? 5).map (fun i => (i.zero, i.size, i.bytes)) = some (some (.int .u8 0), 1, 1) := by kernel_rfl
def bzeroD (N : Nat) : Array Value := madeCells (Value.int .u8 0).cells N
theorem bzeroD_is (N : Nat) : bzeroD N = Array.replicate N (.int .u8 0) := by
  unfold bzeroD madeCells
  refine Array.ext (by simp) fun i h1 h2 => ?_
  have e : (Value.int .u8 0).cells = #[.int .u8 0] := rfl
  simp [e, Nat.mod_one]
theorem make_bytesD (N : Nat) (h2 : N ≤ 140737488355328) (w : World) : (Instr.makeSlice 81 (.int .i64 (N : Int)) (.int .i64 (N : Int))).run Tryz.prog w = .ok (.slice (some ⟨w.heap.size, 0, none⟩) N N) (w.alloc (.cells (bzeroD N) 5)) := by
  obtain ⟨i0, hi0, hz0, hz1, hz2⟩ := info_parts info5
  have := run_make (P := Tryz.prog) w 81 5 i0 _ Tryz.underlying81 hi0 hz0 .i64 .i64 (N : Int) (N : Int) (by omega) (by omega) (by rw [hz2]; omega) (by omega)
  rw [this, hz1]
  simp [bzeroD]
/-- N bytes b. -/
def bytesS (N : Nat) (b : UInt8) : ByteArray := ⟨Array.replicate N b⟩
theorem bytesS_size (N : Nat) (b : UInt8) : (bytesS N b).size = N := Array.size_replicate
theorem bytes_back (w : World) (g N : Nat) (b : UInt8) (h : Blk w g 5 (Array.replicate N (.int .u8 (b.toNat : Int)))) :
    (convert 81 9 (.slice (some ⟨g, 0, none⟩) N N)).run Tryz.prog w = .ok (.string (bytesS N b)) w := by
  have := run_convert_bytes_back (P := Tryz.prog) w 81 9 5 ⟨g, 0, none⟩ N (List.replicate N b) Tryz.underlying81 Tryz.underlying5 Tryz.underlying9 (fun j hj => by
    rw [Addr.add_lit, Nat.zero_add, h.cell, Array.getElem?_replicate, if_pos (by simpa using hj)]
    simp)
  rw [List.length_replicate] at this
  rw [this]
  simp [bytesS]
theorem mod_zero (k n : Int) (h : n < 1) (w : World) : Calls Tryz.prog 8 #[.int .i64 k, .int .i64 n] w fun e w' => e = .returned (.int .i64 0) ∧ w = w' := by
  go_enter Tryz.func8, Tryz.ntmps8
  go_wp2
  go_ret
  exact ⟨rfl, rfl⟩
theorem mod_any (k : Int) (n : Nat) (h : 1 ≤ n) (hn : n ≤ 1000000) (w : World) : Calls Tryz.prog 8 #[.int .i64 k, .int .i64 (n : Int)] w fun e w' => e = .returned (.int .i64 (k % (n : Int))) ∧ w = w' := by
  have h1 : k.tmod n < n := Int.tmod_lt_of_pos _ (by omega)
  have h2 : -(n : Int) < k.tmod n := by
    have := Int.lt_tmod_of_pos k (show (0 : Int) < n by omega)
    omega
  have h3 : (k.tmod n + n) % (n : Int) = k % n := by rw [Int.add_emod_right, Int.tmod_def, Int.sub_mul_emod_self_left]
  have H3 := Lib.hid h3
  clear h3
  go_enter Tryz.func8, Tryz.ntmps8
  go_wp2
  go_ret
  exact ⟨by rw [← H3.out]; rfl, rfl⟩
theorem zeros_any (N : Nat) (h2 : N ≤ 140737488355328) (w : World) : Calls Tryz.prog 37 #[.int .i64 (N : Int)] w fun e w' => e = .returned (.string (bytesS N 0)) ∧ Below w.heap.size w w' := by
  have hmk := make_bytesD N h2 w
  have hcv := bytes_back (w.alloc (.cells (bzeroD N) 5)) w.heap.size N 0 (by rw [bzeroD_is]; exact Blk.new w 5 _)
  have HB := Lib.hid ((Below.refl w.heap.size w).alloc (Nat.le_refl _) (.cells (bzeroD N) 5))
  generalize bytesS N 0 = s at *
  go_enter Tryz.func37, Tryz.ntmps37
  go_wp2
  go_ret
  exact ⟨rfl, HB.out⟩
/-- Of Block's loop: k bytes are set. -/
def BlAt (w : World) (b : UInt8) (c : Value) (wr : World) : Prop :=
  ∃ (k : Nat) (cur : Array Value), c = .int .i64 (k : Int) ∧ k ≤ 512 ∧ Blk wr w.heap.size 5 cur ∧ cur.size = 512 ∧ (∀ i, i < k → cur[i]? = some (.int .u8 (b.toNat : Int))) ∧ Below w.heap.size w wr
theorem block_any (b : UInt8) (w : World) : Calls Tryz.prog 11 #[.int .u8 (b.toNat : Int)] w fun e w' => e = .returned (.string (bytesS 512 b)) ∧ Below w.heap.size w w' := by
  have hmk : (Instr.makeSlice 81 (.int .i64 512) (.int .i64 512)).run Tryz.prog w = .ok (.slice (some ⟨w.heap.size, 0, none⟩) 512 512) (w.alloc (.cells (bzeroD 512) 5)) := make_bytesD 512 (by omega) w
  have HB := Lib.hid ((Below.refl w.heap.size w).alloc (Nat.le_refl _) (.cells (bzeroD 512) 5))
  have HN := Lib.hid (Blk.new w 5 (bzeroD 512))
  have HZ := Lib.hid (show (bzeroD 512).size = 512 by unfold bzeroD; exact size_madeCells _ _)
  generalize bzeroD 512 = z at *
  go_enter Tryz.func11, Tryz.ntmps11
  go_wp2
  go_loopw [4] (fun c wr => BlAt w b c wr) (fun c _ => 512 - (intOf c).toNat)
  case atStart => exact ⟨0, z, rfl, Nat.zero_le _, HN.out, HZ.out, fun i hi => absurd hi (Nat.not_lt_zero _), HB.out⟩
  case round =>
    obtain ⟨k, cur, rfl, hk, hb, hs, hc, hbl⟩ := hrel
    by_cases hlt : k < 512
    · obtain ⟨u0, h0⟩ : ∃ u, wr.cell? ⟨w.heap.size, k, none⟩ = some u := ⟨_, (hb.cell k).trans (Array.getElem?_eq_getElem (by omega))⟩
      have f0 := hb.free k
      have HP := Lib.hid (hb.put k (.int .u8 (b.toNat : Int)))
      have HS := Lib.hid hs
      have HC := Lib.hid hc
      have HBL := Lib.hid (hbl.setCell (p := ⟨w.heap.size, k, none⟩) (Nat.le_refl _) (.int .u8 (b.toNat : Int)))
      have hx : (k : Int) < 512 := by omega
      have HX := Lib.hid hlt
      clear hb hs hc hbl hlt hk
      go_wp2
      go_roundw
      case rel =>
        refine ⟨k + 1, _, by go_num, HX.out, HP.out, by simpa using HS.out, fun i hi => ?_, HBL.out⟩
        by_cases e : k = i
        · subst e
          rw [Array.getElem?_setIfInBounds_self_of_lt (by rw [HS.out]; exact HX.out)]
        · rw [Array.getElem?_setIfInBounds_ne e]
          exact HC.out i (by omega)
      case measure => simp [intOf]; omega
    · obtain rfl : k = 512 := by omega
      have hcur : cur = Array.replicate 512 (.int .u8 (b.toNat : Int)) := by
        refine Array.ext (by simpa using hs) fun i h1 h2 => ?_
        have := hc i (by omega)
        rw [Array.getElem?_eq_getElem h1] at this
        rw [Option.some.inj this, Array.getElem_replicate]
      have hcv := bytes_back wr w.heap.size 512 b (by rw [← hcur]; exact hb)
      have HBL := Lib.hid hbl
      clear hb hs hc hbl hcur
      go_wp2
      go_ret
      exact ⟨rfl, HBL.out⟩
end Go.Proofs.YtgdaihembmcamaaGreatDoor
