/- New of the program's device. The statements' own helpers: Mod, Block, Zeros, Ints. Two things in memory, each with blocks of its own; calls on the one leave the other as it is. Lists of numbers and of bytes that came in; a list of numbers copied into a new one. DevKeeps: what stands in the device behind each round. DevWhole: a write of several sectors is several writes. -/
import Derived.Test.YtglfjlbhjaemgaaGreatDoorPl13
import Derived.Deep.RegionLaw
import Derived.Laws.MakeOwn
namespace Go.Proofs.YtglfjlbhjaemgaaGreatDoor
open Go.RowKit
theorem info9 : (Tryz.prog.info? 9).map (fun i => (i.zero, i.size, i.bytes)) = some (some (.string ⟨#[]⟩), 1, 16) := by kernel_rfl
theorem size9 : (Tryz.prog.info? 9).map (·.size) = some 1 := by kernel_rfl
theorem mul_one (N : Nat) (h2 : N ≤ 8192) (w : World) : Calls Tryz.prog 108 #[.int .u64 1, .int .u64 (N : Int)] w fun e w' => e = .returned (.tuple #[.int .u64 0, .int .u64 (N : Int)]) ∧ w = w' := by
  refine (Tryz.bits_Mul 1 N (by omega) (by omega) w).mono ?_
  rintro e w' ⟨rfl, rfl⟩
  rw [show 1 * N / 18446744073709551616 = 0 by omega, show 1 * N % 18446744073709551616 = N by omega]
  exact ⟨rfl, rfl⟩
/-- Of the loop in slices.Repeat: m cells are laid. -/
def RepAt (w : World) (g N : Nat) (z : ByteArray) (c : Value) (wr : World) : Prop :=
  ∃ (m : Nat) (cur : List Value), c = .int .i64 (m : Int) ∧ 1 ≤ m ∧ m ≤ N ∧ Blk wr g 9 cur.toArray ∧ cur.length = N ∧ cur.take m = List.replicate m (.string z) ∧ Below w.heap.size w wr
def mades (N : Nat) : Array Value := madeCells (Value.string ⟨#[]⟩).cells N
theorem mades_size (N : Nat) : (mades N).size = N := by unfold mades; exact size_madeCells _ _
theorem make_texts (N : Nat) (h2 : N ≤ 8192) (w : World) : (Instr.makeSlice 101 (.int .i64 (N : Int)) (.int .i64 (N : Int))).run Tryz.prog w = .ok (.slice (some ⟨w.heap.size, 0, none⟩) N N) (w.alloc (.cells (mades N) 9)) := by
  obtain ⟨i0, hi0, hz0, hz1, hz2⟩ := info_parts info9
  have := run_make (P := Tryz.prog) w 101 9 i0 _ Tryz.underlying101 hi0 hz0 .i64 .i64 (N : Int) (N : Int) (by omega) (by omega) (by rw [hz2]; omega) (by omega)
  rw [this, hz1]
  simp [mades]
theorem copy_lay (w : World) (ty : TypeId) (g o dLen dCap b j sLen sCap : Nat) (cur : Array Value) (cs : List Value) (hg : Blk w g 9 cur) (hn : cs.length = Nat.min sLen dLen)
    (hsrc : ∀ i v, cs[i]? = some v → w.cell? ⟨b, j + i, none⟩ = some v) (hfit : o + cs.length ≤ cur.size) (h1 : ∀ v ∈ cs, v.oneCell' = true) :
    ∃ W, (Builtin.copy_ #[101, 101] ty #[.slice (some ⟨g, o, none⟩) dLen dCap, .slice (some ⟨b, j, none⟩) sLen sCap]).run Tryz.prog w = .ok (.int .i64 (cs.length : Int)) W ∧
      Blk W g 9 (cur.toList.take o ++ cs ++ cur.toList.drop (o + cs.length)).toArray ∧ Only (its g) w W :=
  ⟨_, run_copy_row (P := Tryz.prog) w 101 101 ty 9 g o dLen dCap ⟨b, j, none⟩ sLen sCap cur 9 cs Tryz.underlying101 size9 hg hn (fun i v hi => by have := hsrc i v hi; rw [Addr.add_lit]; exact this) hfit h1, setRow_heap w g cur _ 9 _ hg,
    ⟨rfl, rfl, rfl, by simp [World.setRow], fun k _ hk => setRow_other w g k _ hk⟩⟩
theorem rep_at {q i : Nat} {u v : Value} (h : (List.replicate q u)[i]? = some v) : i < q ∧ u = v := by
  rw [List.getElem?_replicate] at h
  split at h
  · rename_i hlt; injection h with h; exact ⟨hlt, h⟩
  · cases h
theorem rep_next {cur : List Value} {m N : Nat} {u : Value} (h : cur.take m = List.replicate m u) (hm : m < N) (hl : cur.length = N) :
    (cur.take m ++ List.replicate (min m (N - m)) u ++ cur.drop (m + (List.replicate (min m (N - m)) u).length)).length = N ∧
    (cur.take m ++ List.replicate (min m (N - m)) u ++ cur.drop (m + (List.replicate (min m (N - m)) u).length)).take (m + min m (N - m)) = List.replicate (m + min m (N - m)) u := by
  constructor
  · simp; omega
  · rw [h, List.replicate_append_replicate, List.take_left' (by simp)]
set_option maxHeartbeats 800000 in
theorem repeat_any (w : World) (b : Nat) (z : ByteArray) (N : Nat) (h1 : 1 ≤ N) (h2 : N ≤ 8192) (hc : w.cell? ⟨b, 0, none⟩ = some (.string z)) :
    Calls Tryz.prog 57 #[.slice (some ⟨b, 0, none⟩) 1 1, .int .i64 (N : Int)] w fun e w' => e = .returned (.slice (some ⟨w.heap.size, 0, none⟩) N N) ∧ Txts w' 9 w.heap.size N (List.replicate N z) ∧ Below w.heap.size w w' := by
  have hmk := make_texts N h2
  have hd : decide ((N : Int) < 0) = false := by simp
  go_enter Tryz.func57, Tryz.ntmps57
  go_wp2_with (fail)
  refine (mul_one N h2 _).mono ?_
  rintro e w' ⟨rfl, rfl⟩
  go_upto_region 7 with (fail)
  have HG := Blk.new w 9 (mades N)
  have hcb := (World.cell?_of_block (Below.heap_alloc w (.cells (mades N) 9) b (World.block_lt_of_cell? _ _ hc))).trans hc
  obtain ⟨W, hcp, hW, hO⟩ := copy_lay (w.alloc (.cells (mades N) 9)) 3 w.heap.size 0 N N b 0 1 1 (mades N) [.string z] HG (by show 1 = min 1 N; omega) (fun i v hi => by
    match i, hi with
    | 0, hi => simp at hi; subst hi; exact hcb) (by rw [mades_size]; exact h1) (by intro u hu; simp at hu; subst hu; rfl)
  have HW := Lib.hid hW
  have HO := Lib.hid (((Below.refl w.heap.size w).alloc (Nat.le_refl _) (.cells (mades N) 9)).trans (hO.toBelow (by simp) (fun k hk => by rw [show k = w.heap.size from hk]; exact Nat.le_refl _)))
  clear hmk hcb hc hW hO HG
  go_wp2_with (fail)
  go_loopw [8] (fun c wr => RepAt w w.heap.size N z c wr) (fun c _ => N - (intOf c).toNat)
  case atStart => exact ⟨1, _, rfl, Nat.le_refl _, h1, HW.out, by simp [mades_size]; omega, by simp, HO.out⟩
  case round =>
    obtain ⟨m, cur, rfl, hm1, hm2, hb, hl, ht, hbl⟩ := hrel
    by_cases hlt : m < N
    · have HB := Lib.hid hb
      have HL := Lib.hid hl
      have HT := Lib.hid ht
      have HBL := Lib.hid hbl
      obtain ⟨q, hq⟩ : ∃ q, q = min m (N - m) := ⟨_, rfl⟩
      have hq1 : q ≤ m := by omega
      have hq2 : m + q ≤ N := by omega
      obtain ⟨W2, hcp, hW2, hO2⟩ := copy_lay wr.drew 3 w.heap.size m (N - m) (N - m) w.heap.size 0 m N cur.toArray (List.replicate q (.string z)) hb (by rw [List.length_replicate]; exact hq) (fun i v hi => by
        obtain ⟨hi1, rfl⟩ := rep_at hi
        rw [Nat.zero_add]
        refine (hb.cell i).trans ?_
        have : (cur.take m)[i]? = some (Value.string z) := by rw [ht, List.getElem?_replicate, if_pos (by omega)]
        rw [List.getElem?_take, if_pos (by omega)] at this
        simpa using this) (by simp; omega) (by intro u hu; rw [(List.mem_replicate.1 hu).2]; rfl)
      clear hb hl ht hbl
      go_wp2_with (fail)
      go_region
      have HR := Lib.hid (rep_next HT.out hlt HL.out)
      go_wp2_with (fail)
      subst hq
      exact ⟨⟨m + min m (N - m), _, by go_num, by omega, by omega, hW2, HR.out.1, HR.out.2, HBL.out.drew.trans (hO2.toBelow HBL.out.size (fun k hk => by rw [show k = w.heap.size from hk]; exact Nat.le_refl _))⟩, by simp [intOf]; omega⟩
    · obtain rfl : m = N := by omega
      have HB := Lib.hid (show Txts wr 9 w.heap.size m (List.replicate m z) from ⟨_, hb, by simpa using hl, by simp, by unfold maxLen; omega, by simpa using ht⟩)
      have HBL := Lib.hid hbl
      clear hb hl ht hbl
      go_wp2_with (fail)
      go_ret
      exact ⟨rfl, HB.out, HBL.out⟩
def zeroS : ByteArray := ⟨(Lib.repeatL [0] 512).toArray⟩
theorem zeroS_is : zeroS = ⟨Array.replicate 512 0⟩ := by
  unfold zeroS
  have : ∀ n, Lib.repeatL [(0 : UInt8)] n = List.replicate n 0 := by
    intro n
    induction n with
    | zero => rfl
    | succ n ih => unfold Lib.repeatL; rw [ih]; rfl
  rw [this, List.toArray_replicate]
/-- A new device of the program's, made behind w. -/
def NewOk (w : World) (n : Nat) (e : Ending) (w' : World) : Prop :=
  ∃ p F, e = .returned (.tuple #[.pointer (some ⟨p, 0, none⟩), .int .i64 0]) ∧ Dv w' F p n (St.new n) ∧ Below w.heap.size w w' ∧ ∀ k, F k → w.heap.size ≤ k
theorem new_out {w w2 w3 : World} {n b g cap : Nat} (h1 : 1 ≤ n) (h2 : n ≤ 8192) (ht : Txts w2 9 b n (List.replicate n zeroS)) (hb2 : Below w.heap.size w w2) (hx : Txts w3 9 g cap (List.replicate n zeroS)) (hg : w2.heap.size ≤ g) (hb3 : Below w2.heap.size w2 w3) (hb : w.heap.size ≤ b) :
    NewOk w n (.returned (.tuple #[.pointer (some ⟨w3.heap.size, 0, none⟩), .int .i64 0])) (w3.alloc (.cells #[.int .i64 0, .slice (some ⟨b, 0, none⟩) n n, .slice (some ⟨g, 0, none⟩) n cap, .slice none 0 0, .bool false, .int .i64 0, .bool false] 112)) := by
  have lb := ht.lt
  have lg := hx.lt
  have l3 := hb3.size
  have l2 := hb2.size
  have ht3 : Txts w3 9 b n (List.replicate n zeroS) := ht.keep (hb3.block b lb)
  have e : (St.new n).safe = List.replicate n zeroS := by rw [zeroS_is]; rfl
  refine ⟨w3.heap.size, fun k => k = w3.heap.size ∨ k = b ∨ k = g, rfl, ⟨b, n, g, cap, .slice none 0 0, Blk.new w3 112 _, ?_⟩, (hb2.trans (hb3.mono l2)).alloc (by omega) _, fun k hk => by omega⟩
  refine ⟨?_, ?_, by omega, World.ownsRow_nil _ _ _ _, .inl rfl, .inr (.inl rfl), .inr (.inr rfl), fun k hk => by simp [Value.ownBlock] at hk, fun k hk => by simp; omega, good_new h1 h2⟩
  · show Txts _ 9 b n (St.new n).safe
    rw [e]
    exact ht3.alloc _
  · rw [e]
    exact hx.alloc _
theorem new_ok (w : World) (n : Nat) (h1 : 1 ≤ n) (h2 : n ≤ 8192) : Calls Tryz.prog 13 #[.int .i64 (n : Int)] w (NewOk w n) := by
  go_enter Tryz.func13, Tryz.ntmps13
  go_wp2_with (fail)
  refine (Tryz.strings_Repeat ⟨#[0]⟩ 512 _ (by omega) (by decide)).mono ?_
  rintro e w1 ⟨rfl, hb1⟩
  have HB1 := Lib.hid hb1
  clear hb1
  go_wp2_with (fail)
  refine (repeat_any _ w1.heap.size zeroS n h1 h2 ((Blk.new w1 9 _).cell 0)).mono ?_
  rintro e w2 ⟨rfl, ht, hb2⟩
  rw [show (w1.alloc (.cells #[.string ⟨(Lib.repeatL [0] 512).toArray⟩] 9)).heap.size = w1.heap.size + 1 by simp] at ht
  have HT := Lib.hid ht
  have HB2 := Lib.hid (HB1.out.trans (((Below.refl w1.heap.size w1).alloc (Nat.le_refl _) (.cells #[.string ⟨(Lib.repeatL [0] 512).toArray⟩] 9)).trans (hb2.mono (by simp)) |>.mono HB1.out.size))
  clear ht hb2
  go_wp2_with (fail)
  have HC := Lib.hid (fun j (hj : j < (List.replicate n zeroS).length) => show w2.cell? ⟨w1.heap.size + 1, 0 + j, none⟩ = some (.string ((List.replicate n zeroS).getD j ByteArray.empty)) by
    rw [Nat.zero_add]
    refine HT.out.cell ?_
    rw [List.getD_eq_getElem?_getD, List.getElem?_eq_getElem hj, Option.getD_some])
  refine (Tryz.slices_Clone_string _ 0 n n (List.replicate n zeroS) _ (by simp) (by omega) HC.out).mono ?_
  rintro e w3 ⟨v, rfl, hown, _, hb3⟩
  rw [show ((List.replicate n zeroS).take n).map Value.string = (List.replicate n zeroS).map Value.string by rw [List.take_of_length_le (by simp)]] at hown
  obtain ⟨g, cap, rfl, hg, _, htx⟩ := Txts.of_own hown h1
  have HR := Lib.hid (new_out h1 h2 HT.out HB2.out htx hg hb3 (by have := HB1.out.size; omega))
  clear hown hg htx hb3
  go_wp2_with (fail)
  go_ret2
  exact HR.out
open Go.RowKit
theorem info5 : (Tryz.prog.info? 5).map (fun i => (i.zero, i.size, i.bytes)) = some (some (.int .u8 0), 1, 1) := by kernel_rfl
def bzeroD (N : Nat) : Array Value := madeCells (Value.int .u8 0).cells N
theorem bzeroD_is (N : Nat) : bzeroD N = Array.replicate N (.int .u8 0) := by
  unfold bzeroD madeCells
  refine Array.ext (by simp) fun i h1 h2 => ?_
  have e : (Value.int .u8 0).cells = #[.int .u8 0] := rfl
  simp [e, Nat.mod_one]
theorem make_bytesD (N : Nat) (h2 : N ≤ 140737488355328) (w : World) : (Instr.makeSlice 100 (.int .i64 (N : Int)) (.int .i64 (N : Int))).run Tryz.prog w = .ok (.slice (some ⟨w.heap.size, 0, none⟩) N N) (w.alloc (.cells (bzeroD N) 5)) := by
  obtain ⟨i0, hi0, hz0, hz1, hz2⟩ := info_parts info5
  have := run_make (P := Tryz.prog) w 100 5 i0 _ Tryz.underlying100 hi0 hz0 .i64 .i64 (N : Int) (N : Int) (by omega) (by omega) (by rw [hz2]; omega) (by omega)
  rw [this, hz1]
  simp [bzeroD]
/-- N bytes b. -/
def bytesS (N : Nat) (b : UInt8) : ByteArray := ⟨Array.replicate N b⟩
theorem bytesS_size (N : Nat) (b : UInt8) : (bytesS N b).size = N := Array.size_replicate
theorem bytes_back (w : World) (g N : Nat) (b : UInt8) (h : Blk w g 5 (Array.replicate N (.int .u8 (b.toNat : Int)))) :
    (convert 100 9 (.slice (some ⟨g, 0, none⟩) N N)).run Tryz.prog w = .ok (.string (bytesS N b)) w := by
  have := run_convert_bytes_back (P := Tryz.prog) w 100 9 5 ⟨g, 0, none⟩ N (List.replicate N b) Tryz.underlying100 Tryz.underlying5 Tryz.underlying9 (fun j hj => by
    rw [Addr.add_lit, Nat.zero_add, h.cell, Array.getElem?_replicate, if_pos (by simpa using hj)]
    simp)
  rw [List.length_replicate] at this
  rw [this]
  simp [bytesS]
theorem mod_any (k : Int) (n : Nat) (h : 1 ≤ n) (hn : n ≤ 1000000) (w : World) : Calls Tryz.prog 16 #[.int .i64 k, .int .i64 (n : Int)] w fun e w' => e = .returned (.int .i64 (k % (n : Int))) ∧ w = w' := by
  have h1 : k.tmod n < n := Int.tmod_lt_of_pos _ (by omega)
  have h2 : -(n : Int) < k.tmod n := by
    have := Int.lt_tmod_of_pos k (show (0 : Int) < n by omega)
    omega
  have h3 : (k.tmod n + n) % (n : Int) = k % n := by rw [Int.add_emod_right, Int.tmod_def, Int.sub_mul_emod_self_left]
  have H3 := Lib.hid h3
  clear h3
  go_enter Tryz.func16, Tryz.ntmps16
  go_wp2
  go_ret
  exact ⟨by rw [← H3.out]; rfl, rfl⟩
theorem zeros_any (N : Nat) (h2 : N ≤ 140737488355328) (w : World) : Calls Tryz.prog 34 #[.int .i64 (N : Int)] w fun e w' => e = .returned (.string (bytesS N 0)) ∧ Below w.heap.size w w' := by
  have hmk := make_bytesD N h2 w
  have hcv := bytes_back (w.alloc (.cells (bzeroD N) 5)) w.heap.size N 0 (by rw [bzeroD_is]; exact Blk.new w 5 _)
  have HB := Lib.hid ((Below.refl w.heap.size w).alloc (Nat.le_refl _) (.cells (bzeroD N) 5))
  generalize bytesS N 0 = s at *
  go_enter Tryz.func34, Tryz.ntmps34
  go_wp2
  go_ret
  exact ⟨rfl, HB.out⟩
/-- Of Block's loop: k bytes are set. -/
def BlAt (w : World) (b : UInt8) (c : Value) (wr : World) : Prop :=
  ∃ (k : Nat) (cur : Array Value), c = .int .i64 (k : Int) ∧ k ≤ 512 ∧ Blk wr w.heap.size 5 cur ∧ cur.size = 512 ∧ (∀ i, i < k → cur[i]? = some (.int .u8 (b.toNat : Int))) ∧ Below w.heap.size w wr
theorem block_any (b : UInt8) (w : World) : Calls Tryz.prog 25 #[.int .u8 (b.toNat : Int)] w fun e w' => e = .returned (.string (bytesS 512 b)) ∧ Below w.heap.size w w' := by
  have hmk : (Instr.makeSlice 100 (.int .i64 512) (.int .i64 512)).run Tryz.prog w = .ok (.slice (some ⟨w.heap.size, 0, none⟩) 512 512) (w.alloc (.cells (bzeroD 512) 5)) := make_bytesD 512 (by omega) w
  have HB := Lib.hid ((Below.refl w.heap.size w).alloc (Nat.le_refl _) (.cells (bzeroD 512) 5))
  have HN := Lib.hid (Blk.new w 5 (bzeroD 512))
  have HZ := Lib.hid (show (bzeroD 512).size = 512 by unfold bzeroD; exact size_madeCells _ _)
  generalize bzeroD 512 = z at *
  go_enter Tryz.func25, Tryz.ntmps25
  go_wp2
  go_loopw [4] (fun c wr => BlAt w b c wr) (fun c _ => 512 - (intOf c).toNat)
  case atStart => exact ⟨0, z, rfl, Nat.zero_le _, HN.out, HZ.out, fun i hi => absurd hi (Nat.not_lt_zero _), HB.out⟩
  case round =>
    obtain ⟨k, cur, rfl, hk, hb, hs, hc, hbl⟩ := hrel
    by_cases hlt : k < 512
    · obtain ⟨u0, h0⟩ : ∃ u, wr.cell? ⟨w.heap.size, k, none⟩ = some u := ⟨_, (hb.cell k).trans (Array.getElem?_eq_getElem (by omega))⟩
      have f0 := hb.free k
      have HP := Lib.hid (hb.put k (.int .u8 (b.toNat : Int)))
      have HS := Lib.hid hs
      have HC := Lib.hid hc
      have HBL := Lib.hid (hbl.setCell (p := ⟨w.heap.size, k, none⟩) (Nat.le_refl _) (.int .u8 (b.toNat : Int)))
      have hx : (k : Int) < 512 := by omega
      have HX := Lib.hid hlt
      clear hb hs hc hbl hlt hk
      go_wp2
      go_roundw
      case rel =>
        refine ⟨k + 1, _, by go_num, HX.out, HP.out, by simpa using HS.out, fun i hi => ?_, HBL.out⟩
        by_cases e : k = i
        · subst e
          rw [Array.getElem?_setIfInBounds_self_of_lt (by rw [HS.out]; exact HX.out)]
        · rw [Array.getElem?_setIfInBounds_ne e]
          exact HC.out i (by omega)
      case measure => simp [intOf]; omega
    · obtain rfl : k = 512 := by omega
      have hcur : cur = Array.replicate 512 (.int .u8 (b.toNat : Int)) := by
        refine Array.ext (by simpa using hs) fun i h1 h2 => ?_
        have := hc i (by omega)
        rw [Array.getElem?_eq_getElem h1] at this
        rw [Option.some.inj this, Array.getElem_replicate]
      have hcv := bytes_back wr w.heap.size 512 b (by rw [← hcur]; exact hb)
      have HBL := Lib.hid hbl
      clear hb hs hc hbl hcur
      go_wp2
      go_ret
      exact ⟨rfl, HBL.out⟩
open Go.RowKit
abbrev Thing := World → (Nat → Prop) → Prop
structure Framed (A : Thing) : Prop where
  keep : ∀ w w' F S, A w F → Only S w w' → (∀ k, F k → ¬ S k) → A w' F
  lt : ∀ w F, A w F → ∀ k, F k → k < w.heap.size
structure DuoAt (B : Nat) (w0 : World) (A1 A2 : Thing) (w : World) (F G : Nat → Prop) : Prop where
  one : A1 w F
  two : A2 w G
  apart : ∀ k, F k → ¬ G k
  lo1 : ∀ k, F k → B ≤ k
  lo2 : ∀ k, G k → B ≤ k
  below : Below B w0 w
def Duo (B : Nat) (w0 : World) (A1 A2 : Thing) (w : World) : Prop := ∃ F G, DuoAt B w0 A1 A2 w F G
theorem Duo.swap {B : Nat} {w0 w : World} {A1 A2 : Thing} (h : Duo B w0 A1 A2 w) : Duo B w0 A2 A1 w := by
  obtain ⟨F, G, h⟩ := h
  exact ⟨G, F, h.two, h.one, fun k hg hf => h.apart k hf hg, h.lo2, h.lo1, h.below⟩
/-- What a call on the first thing leaves. -/
def Out (A : Thing) (F : Nat → Prop) (w w' : World) : Prop := ∃ F', A w' F' ∧ Only F w w' ∧ Grew F w F'
theorem Duo.step {B : Nat} {w0 w w' : World} {A1 A1' A2 : Thing} (hB : B ≤ w0.heap.size) (h2 : Framed A2) {F G : Nat → Prop} (h : DuoAt B w0 A1 A2 w F G) (ho : Out A1' F w w') : Duo B w0 A1' A2 w' := by
  obtain ⟨F', h1, ho, hg⟩ := ho
  have hw := h.below.size
  have hn : ∀ k, F' k → F k ∨ w.heap.size ≤ k := hg
  refine ⟨F', G, h1, h2.keep w w' G F h.two ho (fun k hk hf => h.apart k hf hk), fun k hk hgk => ?_, fun k hk => ?_, h.lo2, h.below.trans (ho.toBelow (by omega) h.lo1)⟩
  · rcases hn k hk with hf | hl
    · exact h.apart k hf hgk
    · have := h2.lt w G h.two k hgk
      omega
  · rcases hn k hk with hf | hl
    · exact h.lo1 k hf
    · omega
theorem Duo.more {B : Nat} {w0 w w' : World} {A1 A2 : Thing} (hB : B ≤ w0.heap.size) (h1 : Framed A1) (h2 : Framed A2) (h : Duo B w0 A1 A2 w) (hb : Below w.heap.size w w') : Duo B w0 A1 A2 w' := by
  obtain ⟨F, G, h⟩ := h
  have ho : Only nobody w w' := Only.of_below hb
  exact ⟨F, G, h1.keep _ _ _ _ h.one ho (fun _ _ h => h), h2.keep _ _ _ _ h.two ho (fun _ _ h => h), h.apart, h.lo1, h.lo2, h.below.trans (hb.mono (by have := h.below.size; omega))⟩
theorem Duo.drew {B : Nat} {w0 w : World} {A1 A2 : Thing} (hB : B ≤ w0.heap.size) (h1 : Framed A1) (h2 : Framed A2) (h : Duo B w0 A1 A2 w) : Duo B w0 A1 A2 w.drew := h.more hB h1 h2 (Below.refl _ _).drew
theorem Duo.alloc {B : Nat} {w0 w : World} {A1 A2 : Thing} (hB : B ≤ w0.heap.size) (h1 : Framed A1) (h2 : Framed A2) (h : Duo B w0 A1 A2 w) (o : Obj) : Duo B w0 A1 A2 (w.alloc o) := h.more hB h1 h2 ((Below.refl _ _).alloc (Nat.le_refl _) o)
/-- A call on the first thing, told of the first thing alone. -/
theorem Duo.call {P : Program} {f : FuncId} {args : Array Value} {Q : Ending → Prop} {B : Nat} {w0 w : World} {A1 A1' A2 : Thing} (hB : B ≤ w0.heap.size) (h2 : Framed A2) (h : Duo B w0 A1 A2 w)
    (hc : ∀ F, A1 w F → (∀ k, F k → B ≤ k) → Calls P f args w fun e w' => Q e ∧ Out A1' F w w') : Calls P f args w fun e w' => Q e ∧ Duo B w0 A1' A2 w' := by
  obtain ⟨F, G, h⟩ := h
  exact (hc F h.one h.lo1).mono fun e w' hq => ⟨hq.1, Duo.step hB h2 h hq.2⟩
/-- A call that reads the first thing and makes memory. -/
theorem Duo.read {P : Program} {f : FuncId} {args : Array Value} {Q : Ending → Prop} {B : Nat} {w0 w : World} {A1 A2 : Thing} (hB : B ≤ w0.heap.size) (h1 : Framed A1) (h2 : Framed A2) (h : Duo B w0 A1 A2 w)
    (hc : ∀ F, A1 w F → Calls P f args w fun e w' => Q e ∧ Below w.heap.size w w') : Calls P f args w fun e w' => Q e ∧ Duo B w0 A1 A2 w' := by
  obtain ⟨F, G, h'⟩ := h
  exact (hc F h'.one).mono fun e w' hq => ⟨hq.1, Duo.more hB h1 h2 ⟨F, G, h'⟩ hq.2⟩
section
variable {B : Nat} {w0 w : World} {A2 : Thing} {p n : Nat} {x : St}
end
theorem sec_whole {s : ByteArray} (h : s.size = 512) : sec s 0 = s := by
  unfold sec
  rw [show (0 + 1) * 512 = s.size by omega, Nat.zero_mul]
  exact ByteArray.extract_zero_size
theorem bytes_eq {a b : ByteArray} (h : a.data.toList = b.data.toList) : a = b := by
  obtain ⟨⟨a⟩⟩ := a
  obtain ⟨⟨b⟩⟩ := b
  simp only at h
  rw [h]
theorem ext_toList (a : ByteArray) (i j : Nat) : (a.extract i j).data.toList = (a.data.toList.take j).drop i := by
  rw [ByteArray.data_extract, Array.toList_extract, List.extract_eq_take_drop, List.drop_take]
open Go.RowKit
/-- A list of bytes in memory. -/
def Byts (w : World) (A : Option Addr) (fs : List UInt8) : Prop := 0 < fs.length → ∃ b o, A = some ⟨b, o, none⟩ ∧ ∀ (j : Nat) (v : UInt8), fs[j]? = some v → w.cell? ⟨b, o + j, none⟩ = some (.int .u8 (v.toNat : Int))
theorem Byts.below {B : Nat} {w w' : World} {A : Option Addr} {fs : List UInt8} (h : Byts w A fs) (hb : Below B w w') (hB : B = w.heap.size) : Byts w' A fs := fun hn => by
  obtain ⟨b, o, rfl, hc⟩ := h hn
  exact ⟨b, o, rfl, fun j v hj => (hb.cell (p := ⟨b, o + j, none⟩) (by rw [hB]; exact World.block_lt_of_cell? _ _ (hc j v hj))).trans (hc j v hj)⟩
theorem Nums.below {B : Nat} {w w' : World} {A : Option Addr} {ks : List Int} (h : Nums w A ks) (hb : Below B w w') (hB : B = w.heap.size) : Nums w' A ks := fun hn => by
  obtain ⟨b, o, rfl, hc⟩ := h hn
  exact ⟨b, o, rfl, fun j v hj => (hb.cell (p := ⟨b, o + j, none⟩) (by rw [hB]; exact World.block_lt_of_cell? _ _ (hc j v hj))).trans (hc j v hj)⟩
theorem Nums.lt {w : World} {A : Option Addr} {ks : List Int} (h : Nums w A ks) (hn : 0 < ks.length) (a : Addr) (ha : A = some a) : a.block < w.heap.size := by
  obtain ⟨b, o, rfl, hc⟩ := h hn
  injection ha with ha
  subst ha
  exact World.block_lt_of_cell? w ⟨b, o + 0, none⟩ (hc 0 _ (List.getElem?_eq_getElem hn))
theorem Byts.at_ {w : World} {A : Option Addr} {fs : List UInt8} (h : Byts w A fs) {j : Nat} (hj : j < fs.length) : ∃ b o v, A = some ⟨b, o, none⟩ ∧ fs[j]? = some v ∧ w.cell? ⟨b, o + j, none⟩ = some (.int .u8 (v.toNat : Int)) := by
  obtain ⟨b, o, rfl, hc⟩ := h (by omega)
  exact ⟨b, o, _, rfl, List.getElem?_eq_getElem hj, hc j _ (List.getElem?_eq_getElem hj)⟩
theorem Nums.at_ {w : World} {A : Option Addr} {ks : List Int} (h : Nums w A ks) {j : Nat} (hj : j < ks.length) : ∃ b o v, A = some ⟨b, o, none⟩ ∧ ks[j]? = some v ∧ w.cell? ⟨b, o + j, none⟩ = some (.int .i64 v) := by
  obtain ⟨b, o, rfl, hc⟩ := h (by omega)
  exact ⟨b, o, _, rfl, List.getElem?_eq_getElem hj, hc j _ (List.getElem?_eq_getElem hj)⟩
open Go.RowKit
theorem putAll_hit {l : List ByteArray} {hs : List (Nat × ByteArray)} {i j : Nat} {s : ByteArray} (hj : hs[j]? = some (i, s)) (hu : ∀ j' a, hs[j']? = some a → a.1 = i → j' = j) (hi : i < l.length) : (putAll l hs)[i]? = some s := by
  have key : ∀ N, (putAll l (hs.take N))[i]? = if j < N then some s else l[i]? := by
    intro N
    induction N with
    | zero => simp [putAll]
    | succ N ih =>
      cases hN : hs[N]? with
      | none =>
        have hnl : hs.length ≤ N := by
          rcases Nat.lt_or_ge N hs.length with h | h
          · rw [List.getElem?_eq_getElem h] at hN; cases hN
          · exact h
        have hjl : j < hs.length := (List.getElem?_eq_some_iff.1 hj).1
        rw [List.take_add_one, hN]
        simp only [Option.toList_none, List.append_nil]
        rw [ih, if_pos (by omega), if_pos (by omega)]
      | some a =>
        obtain ⟨q, t⟩ := a
        rw [put_next l hN]
        by_cases e : q = i
        · subst e
          obtain rfl := hu N _ hN rfl
          rw [hN] at hj
          obtain rfl := (Prod.mk.inj (Option.some.inj hj)).2
          rw [List.getElem?_set_self (by rw [putAll_length]; exact hi), if_pos (by omega)]
        · rw [List.getElem?_set_ne e, ih]
          have : N ≠ j := by
            rintro rfl
            rw [hN] at hj
            exact e (Prod.mk.inj (Option.some.inj hj)).1
          by_cases h : j < N
          · rw [if_pos h, if_pos (by omega)]
          · rw [if_neg h, if_neg (by omega)]
  have := key hs.length
  rw [List.take_length, if_pos (List.getElem?_eq_some_iff.1 hj).1] at this
  exact this
/-- The writes of DevKeeps: sector j is filled with the j-th byte. -/
def wsL (fs : List UInt8) : List (Nat × ByteArray) := (List.range fs.length).map fun j => (j, bytesS 512 (fs.getD j 0))
theorem wsL_length (fs : List UInt8) : (wsL fs).length = fs.length := by simp [wsL]
theorem wsL_at {fs : List UInt8} {j : Nat} {v : UInt8} (h : fs[j]? = some v) : (wsL fs)[j]? = some (j, bytesS 512 v) := by
  have hl := (List.getElem?_eq_some_iff.1 h).1
  unfold wsL
  rw [List.getElem?_map, List.getElem?_range hl, Option.map_some, List.getD_eq_getElem?_getD, h, Option.getD_some]
theorem wsL_place {fs : List UInt8} {j : Nat} {a : Nat × ByteArray} (h : (wsL fs)[j]? = some a) : a.1 = j := by
  have hl : j < fs.length := by have := (List.getElem?_eq_some_iff.1 h).1; rwa [wsL_length] at this
  rw [wsL_at (List.getElem?_eq_getElem hl)] at h
  rw [← Option.some.inj h]
theorem wsL_next {fs : List UInt8} {j : Nat} {v : UInt8} (h : fs[j]? = some v) : (wsL fs).take (j + 1) = (wsL fs).take j ++ [(j, bytesS 512 v)] := by
  rw [List.take_add_one, wsL_at h]; rfl
/-- Behind i rounds, k the place of the flush. -/
structure KpSt (fs : List UInt8) (k i : Nat) (x : St) : Prop where
  armed : x.armed = false
  down : x.down = false
  ops : x.ops = if i ≤ k then i else i + 1
  safe : x.safe = if i ≤ k then (St.new 64).safe else putAll (St.new 64).safe ((wsL fs).take k)
  held : x.held = if i ≤ k then (wsL fs).take i else ((wsL fs).take i).drop k
/-- Behind the flush at k. -/
structure KpFl (fs : List UInt8) (k : Nat) (x : St) : Prop where
  armed : x.armed = false
  down : x.down = false
  ops : x.ops = k + 1
  safe : x.safe = putAll (St.new 64).safe ((wsL fs).take k)
  held : x.held = []
theorem due_no {x : St} (h : x.armed = false) : x.due = false := by unfold St.due; rw [h]; rfl
theorem KpSt.flush {fs : List UInt8} {k : Nat} {x : St} (h : KpSt fs k k x) : KpFl fs k x.flushed :=
  ⟨h.armed, h.down, by show x.ops + 1 = k + 1; rw [h.ops, if_pos (Nat.le_refl _)], by
    show putAll x.safe x.held = _
    rw [h.safe, h.held, if_pos (Nat.le_refl _), if_pos (Nat.le_refl _)], rfl⟩
theorem KpFl.next {fs : List UInt8} {k : Nat} {x : St} {v : UInt8} (h : KpFl fs k x) (hv : fs[k]? = some v) : KpSt fs k (k + 1) (x.oped.hold k (bytesS 512 v)) :=
  ⟨h.armed, h.down, by show x.ops + 1 = _; rw [h.ops, if_neg (by omega)], by rw [if_neg (by omega)]; exact h.safe, by
    rw [if_neg (by omega), wsL_next hv]
    show x.held ++ [_] = _
    have hl := (List.getElem?_eq_some_iff.1 hv).1
    rw [h.held, List.drop_left' (by rw [List.length_take, wsL_length]; omega)]; rfl⟩
theorem KpSt.next {fs : List UInt8} {k i : Nat} {x : St} {v : UInt8} (h : KpSt fs k i x) (hv : fs[i]? = some v) (hne : i ≠ k) : KpSt fs k (i + 1) (x.oped.hold i (bytesS 512 v)) := by
  have hl := (List.getElem?_eq_some_iff.1 hv).1
  rcases Nat.lt_or_ge i k with hi | hi
  · exact ⟨h.armed, h.down, by show x.ops + 1 = _; rw [h.ops, if_pos (by omega), if_pos (by omega)], by rw [if_pos (by omega)]; exact h.safe.trans (if_pos (by omega)), by
      rw [if_pos (by omega), wsL_next hv]
      show x.held ++ [_] = _
      rw [h.held, if_pos (by omega)]⟩
  · exact ⟨h.armed, h.down, by show x.ops + 1 = _; rw [h.ops, if_neg (by omega), if_neg (by omega)], by rw [if_neg (by omega)]; exact h.safe.trans (if_neg (by omega)), by
      rw [if_neg (by omega), wsL_next hv]
      show x.held ++ [_] = _
      rw [h.held, if_neg (by omega), List.drop_append_of_le_length (by rw [List.length_take, wsL_length]; omega)]⟩
/-- Behind all writes and the flush. -/
structure KpEnd (fs : List UInt8) (k : Nat) (x : St) : Prop where
  armed : x.armed = false
  down : x.down = false
  ops : x.ops ≤ fs.length + 1
  safe : x.safe = putAll (St.new 64).safe ((wsL fs).take k)
  held : x.held = (wsL fs).drop k
theorem KpSt.done {fs : List UInt8} {k : Nat} {x : St} (h : KpSt fs k fs.length x) (hk : k < fs.length) : KpEnd fs k x :=
  ⟨h.armed, h.down, by rw [h.ops, if_neg (by omega)]; omega, by rw [h.safe, if_neg (by omega)], by rw [h.held, if_neg (by omega), List.take_of_length_le (by rw [wsL_length]; omega)]⟩
theorem KpFl.done {fs : List UInt8} {x : St} (h : KpFl fs fs.length x) : KpEnd fs fs.length x :=
  ⟨h.armed, h.down, by rw [h.ops]; omega, h.safe, by rw [h.held, List.drop_of_length_le (by rw [wsL_length]; omega)]⟩
theorem crash_same (x : St) (ks : List Int) : (x.crash ks).seen = tearN x.safe x.held ks x.held.length := rfl
theorem KpEnd.low {fs : List UInt8} {k i : Nat} {x : St} {v : UInt8} (h : KpEnd fs k x) (ks : List Int) (hv : fs[i]? = some v) (hi : i < k) (h64 : i < 64) : (x.crash ks).seen[i]? = some (bytesS 512 v) := by
  rw [crash_same, tearN_far, h.safe]
  · refine putAll_hit (j := i) ?_ ?_ ?_
    · rw [List.getElem?_take, if_pos hi]; exact wsL_at hv
    · intro j' a ha e
      rw [List.getElem?_take] at ha
      split at ha
      · rw [← wsL_place ha, e]
      · cases ha
    · show i < (List.replicate 64 _).length
      simpa using h64
  · intro a ha
    rw [h.held] at ha
    obtain ⟨j, hj⟩ := List.getElem?_of_mem ha
    rw [List.getElem?_drop] at hj
    have := wsL_place hj
    omega
open Go.RowKit
theorem catS_snoc (l : List ByteArray) (s : ByteArray) : catS l ++ s = catS (l ++ [s]) := by
  refine bytes_eq ?_
  rw [ByteArray.data_append, Array.toList_append]
  unfold catS
  simp [flatB_snoc]
theorem catS_nil : catS [] = ⟨#[]⟩ := rfl
theorem catS_size {l : List ByteArray} (h : ∀ s ∈ l, s.size = 512) : (catS l).size = l.length * 512 := by
  show (flatB l).toArray.size = _
  rw [List.size_toArray, flatB_length h]
theorem flat_sec {l : List ByteArray} {j : Nat} {s : ByteArray} (h : ∀ t ∈ l, t.size = 512) (hj : l[j]? = some s) : ((flatB l).take ((j + 1) * 512)).drop (j * 512) = s.data.toList := by
  induction l generalizing j with
  | nil => cases hj
  | cons a l ih =>
    have ha : a.data.toList.length = 512 := by
      have := h a (List.mem_cons_self ..)
      simpa using this
    have hf : flatB (a :: l) = a.data.toList ++ flatB l := by simp [flatB]
    rw [hf]
    cases j with
    | zero =>
      simp at hj
      subst hj
      rw [List.take_left' (by omega), Nat.zero_mul, List.drop_zero]
    | succ j =>
      have := ih (fun t ht => h t (List.mem_cons_of_mem _ ht)) (j := j) (by simpa using hj)
      rw [← this, List.take_append, List.take_of_length_le (by omega), List.drop_append, List.drop_of_length_le (by omega), List.nil_append, ha, show (j + 1 + 1) * 512 - 512 = (j + 1) * 512 by omega, show (j + 1) * 512 - 512 = j * 512 by omega]
theorem sec_cat {l : List ByteArray} {j : Nat} {s : ByteArray} (h : ∀ t ∈ l, t.size = 512) (hj : l[j]? = some s) : sec (catS l) j = s := by
  refine bytes_eq ?_
  unfold sec
  rw [ext_toList]
  exact flat_sec h hj
/-- Writes of the sectors of s from place i on. -/
def secL (s : ByteArray) (i k m : Nat) : List (Nat × ByteArray) := (List.range m).map fun j => (i + k + j, sec s (k + j))
theorem secL_succ (s : ByteArray) (i k m : Nat) : secL s i k (m + 1) = (i + k, sec s k) :: secL s i (k + 1) m := by
  unfold secL
  rw [List.range_succ_eq_map, List.map_cons, List.map_map]
  congr 1
  refine List.map_congr_left fun j _ => ?_
  show (i + k + (j + 1), sec s (k + (j + 1))) = (i + (k + 1) + j, sec s (k + 1 + j))
  rw [show i + k + (j + 1) = i + (k + 1) + j by omega, show k + (j + 1) = k + 1 + j by omega]
end Go.Proofs.YtglfjlbhjaemgaaGreatDoor
