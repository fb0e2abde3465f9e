/- New of the program's device. -/
import Derived.Test.YtgdaihembmcamaaGreatDoorDevCrash
import Derived.Deep.RegionLaw
import Derived.Laws.MakeOwn
namespace Go.Proofs.YtgdaihembmcamaaGreatDoor
open Go.RowKit
theorem info9 : (Tryz.prog.info? 9).map (fun i => (i.zero, i.size, i.bytes)) = some (some (.string ⟨#[]⟩), 1, 16) := by kernel_rfl
theorem size9 : (Tryz.prog.info? 9).map (·.size) = some 1 := by kernel_rfl
theorem mul_one (N : Nat) (h2 : N ≤ 8192) (w : World) : Calls Tryz.prog 60 #[.int .u64 1, .int .u64 (N : Int)] w fun e w' => e = .returned (.tuple #[.int .u64 0, .int .u64 (N : Int)]) ∧ w = w' := by
  refine (Tryz.bits_Mul 1 N (by omega) (by omega) w).mono ?_
  rintro e w' ⟨rfl, rfl⟩
  rw [show 1 * N / 18446744073709551616 = 0 by omega, show 1 * N % 18446744073709551616 = N by omega]
  exact ⟨rfl, rfl⟩
/-- Of the loop in slices.Repeat: m cells are laid. -/
def RepAt (w : World) (g N : Nat) (z : ByteArray) (c : Value) (wr : World) : Prop :=
  ∃ (m : Nat) (cur : List Value), c = .int .i64 (m : Int) ∧ 1 ≤ m ∧ m ≤ N ∧ Blk wr g 9 cur.toArray ∧ cur.length = N ∧ cur.take m = List.replicate m (.string z) ∧ Below w.heap.size w wr
def mades (N : Nat) : Array Value := madeCells (Value.string ⟨#[]⟩).cells N
theorem mades_size (N : Nat) : (mades N).size = N := by unfold mades; exact size_madeCells _ _
theorem make_texts (N : Nat) (h2 : N ≤ 8192) (w : World) : (Instr.makeSlice 44 (.int .i64 (N : Int)) (.int .i64 (N : Int))).run Tryz.prog w = .ok (.slice (some ⟨w.heap.size, 0, none⟩) N N) (w.alloc (.cells (mades N) 9)) := by
  obtain ⟨i0, hi0, hz0, hz1, hz2⟩ := info_parts info9
  have := run_make (P := Tryz.prog) w 44 9 i0 _ Tryz.underlying44 hi0 hz0 .i64 .i64 (N : Int) (N : Int) (by omega) (by omega) (by rw [hz2]; omega) (by omega)
  rw [this, hz1]
  simp [mades]
theorem copy_lay (w : World) (ty : TypeId) (g o dLen dCap b j sLen sCap : Nat) (cur : Array Value) (cs : List Value) (hg : Blk w g 9 cur) (hn : cs.length = Nat.min sLen dLen)
    (hsrc : ∀ i v, cs[i]? = some v → w.cell? ⟨b, j + i, none⟩ = some v) (hfit : o + cs.length ≤ cur.size) (h1 : ∀ v ∈ cs, v.oneCell' = true) :
    ∃ W, (Builtin.copy_ #[44, 44] ty #[.slice (some ⟨g, o, none⟩) dLen dCap, .slice (some ⟨b, j, none⟩) sLen sCap]).run Tryz.prog w = .ok (.int .i64 (cs.length : Int)) W ∧
      Blk W g 9 (cur.toList.take o ++ cs ++ cur.toList.drop (o + cs.length)).toArray ∧ Only (its g) w W :=
  ⟨_, run_copy_row (P := Tryz.prog) w 44 44 ty 9 g o dLen dCap ⟨b, j, none⟩ sLen sCap cur 9 cs Tryz.underlying44 size9 hg hn (fun i v hi => by have := hsrc i v hi; rw [Addr.add_lit]; exact this) hfit h1, setRow_heap w g cur _ 9 _ hg,
    ⟨rfl, rfl, rfl, by simp [World.setRow], fun k _ hk => setRow_other w g k _ hk⟩⟩
theorem rep_at {q i : Nat} {u v : Value} (h : (List.replicate q u)[i]? = some v) : i < q ∧ u = v := by
  rw [List.getElem?_replicate] at h
  split at h
  · rename_i hlt; injection h with h; exact ⟨hlt, h⟩
  · cases h
theorem rep_next {cur : List Value} {m N : Nat} {u : Value} (h : cur.take m = List.replicate m u) (hm : m < N) (hl : cur.length = N) :
    (cur.take m ++ List.replicate (min m (N - m)) u ++ cur.drop (m + (List.replicate (min m (N - m)) u).length)).length = N ∧
    (cur.take m ++ List.replicate (min m (N - m)) u ++ cur.drop (m + (List.replicate (min m (N - m)) u).length)).take (m + min m (N - m)) = List.replicate (m + min m (N - m)) u := by
  constructor
  · simp; omega
  · rw [h, List.replicate_append_replicate, List.take_left' (by simp)]
theorem texts_cells {l : List Value} (h : ∀ v ∈ l, ∃ s, v = .string s) : ∀ v ∈ l, v.oneCell' = true := fun v hv => by obtain ⟨s, rfl⟩ := h v hv; rfl
set_option maxHeartbeats 800000 in
theorem repeat_any (w : World) (b : Nat) (z : ByteArray) (N : Nat) (h1 : 1 ≤ N) (h2 : N ≤ 8192) (hc : w.cell? ⟨b, 0, none⟩ = some (.string z)) :
    Calls Tryz.prog 38 #[.slice (some ⟨b, 0, none⟩) 1 1, .int .i64 (N : Int)] w fun e w' => e = .returned (.slice (some ⟨w.heap.size, 0, none⟩) N N) ∧ Txts w' 9 w.heap.size N (List.replicate N z) ∧ Below w.heap.size w w' := by
  have hmk := make_texts N h2
  have hd : decide ((N : Int) < 0) = false := by simp
  go_enter Tryz.func38, Tryz.ntmps38
  go_wp2_with (fail)
  refine (mul_one N h2 _).mono ?_
  rintro e w' ⟨rfl, rfl⟩
  go_upto_region 7 with (fail)
  have HG := Blk.new w 9 (mades N)
  have hcb := (World.cell?_of_block (Below.heap_alloc w (.cells (mades N) 9) b (World.block_lt_of_cell? _ _ hc))).trans hc
  obtain ⟨W, hcp, hW, hO⟩ := copy_lay (w.alloc (.cells (mades N) 9)) 3 w.heap.size 0 N N b 0 1 1 (mades N) [.string z] HG (by show 1 = min 1 N; omega) (fun i v hi => by
    match i, hi with
    | 0, hi => simp at hi; subst hi; exact hcb) (by rw [mades_size]; exact h1) (by intro u hu; simp at hu; subst hu; rfl)
  have HW := Lib.hid hW
  have HO := Lib.hid (((Below.refl w.heap.size w).alloc (Nat.le_refl _) (.cells (mades N) 9)).trans (hO.toBelow (by simp) (fun k hk => by rw [show k = w.heap.size from hk]; exact Nat.le_refl _)))
  clear hmk hcb hc hW hO HG
  go_wp2_with (fail)
  go_loopw [8] (fun c wr => RepAt w w.heap.size N z c wr) (fun c _ => N - (intOf c).toNat)
  case atStart => exact ⟨1, _, rfl, Nat.le_refl _, h1, HW.out, by simp [mades_size]; omega, by simp, HO.out⟩
  case round =>
    obtain ⟨m, cur, rfl, hm1, hm2, hb, hl, ht, hbl⟩ := hrel
    by_cases hlt : m < N
    · have HB := Lib.hid hb
      have HL := Lib.hid hl
      have HT := Lib.hid ht
      have HBL := Lib.hid hbl
      obtain ⟨q, hq⟩ : ∃ q, q = min m (N - m) := ⟨_, rfl⟩
      have hq1 : q ≤ m := by omega
      have hq2 : m + q ≤ N := by omega
      obtain ⟨W2, hcp, hW2, hO2⟩ := copy_lay wr.drew 3 w.heap.size m (N - m) (N - m) w.heap.size 0 m N cur.toArray (List.replicate q (.string z)) hb (by rw [List.length_replicate]; exact hq) (fun i v hi => by
        obtain ⟨hi1, rfl⟩ := rep_at hi
        rw [Nat.zero_add]
        refine (hb.cell i).trans ?_
        have : (cur.take m)[i]? = some (Value.string z) := by rw [ht, List.getElem?_replicate, if_pos (by omega)]
        rw [List.getElem?_take, if_pos (by omega)] at this
        simpa using this) (by simp; omega) (by intro u hu; rw [(List.mem_replicate.1 hu).2]; rfl)
      clear hb hl ht hbl
      go_wp2_with (fail)
      go_region
      have HR := Lib.hid (rep_next HT.out hlt HL.out)
      go_wp2_with (fail)
      subst hq
      exact ⟨⟨m + min m (N - m), _, by go_num, by omega, by omega, hW2, HR.out.1, HR.out.2, HBL.out.drew.trans (hO2.toBelow HBL.out.size (fun k hk => by rw [show k = w.heap.size from hk]; exact Nat.le_refl _))⟩, by simp [intOf]; omega⟩
    · obtain rfl : m = N := by omega
      have HB := Lib.hid (show Txts wr 9 w.heap.size m (List.replicate m z) from ⟨_, hb, by simpa using hl, by simp, by unfold maxLen; omega, by simpa using ht⟩)
      have HBL := Lib.hid hbl
      clear hb hl ht hbl
      go_wp2_with (fail)
      go_ret
      exact ⟨rfl, HB.out, HBL.out⟩
def zeroS : ByteArray := ⟨(Lib.repeatL [0] 512).toArray⟩
theorem zeroS_is : zeroS = ⟨Array.replicate 512 0⟩ := by
  unfold zeroS
  have : ∀ n, Lib.repeatL [(0 : UInt8)] n = List.replicate n 0 := by
    intro n
    induction n with
    | zero => rfl
    | succ n ih => unfold Lib.repeatL; rw [ih]; rfl
  rw [this, List.toArray_replicate]
theorem new_bad (w : World) (n : Int) (h : n < 1 ∨ 8192 < n) : Calls Tryz.prog 10 #[.int .i64 n] w fun e w' => e = .returned (.tuple #[.pointer none, .int .i64 1]) ∧ w = w' := by
  rcases h with h | h
  · go_enter Tryz.func10, Tryz.ntmps10
    go_wp2
    go_ret2
    exact ⟨rfl, rfl⟩
  · have h' : ¬ n < 1 := by omega
    go_enter Tryz.func10, Tryz.ntmps10
    go_wp2
    go_ret2
    exact ⟨rfl, rfl⟩
/-- A new device of the program's, made behind w. -/
def NewOk (w : World) (n : Nat) (e : Ending) (w' : World) : Prop :=
  ∃ p F, e = .returned (.tuple #[.pointer (some ⟨p, 0, none⟩), .int .i64 0]) ∧ Dv w' F p n (St.new n) ∧ Below w.heap.size w w' ∧ ∀ k, F k → w.heap.size ≤ k
theorem new_out {w w2 w3 : World} {n b g cap : Nat} (h1 : 1 ≤ n) (h2 : n ≤ 8192) (ht : Txts w2 9 b n (List.replicate n zeroS)) (hb2 : Below w.heap.size w w2) (hx : Txts w3 9 g cap (List.replicate n zeroS)) (hg : w2.heap.size ≤ g) (hb3 : Below w2.heap.size w2 w3) (hb : w.heap.size ≤ b) :
    NewOk w n (.returned (.tuple #[.pointer (some ⟨w3.heap.size, 0, none⟩), .int .i64 0])) (w3.alloc (.cells #[.int .i64 0, .slice (some ⟨b, 0, none⟩) n n, .slice (some ⟨g, 0, none⟩) n cap, .slice none 0 0, .bool false, .int .i64 0, .bool false] 80)) := by
  have lb := ht.lt
  have lg := hx.lt
  have l3 := hb3.size
  have l2 := hb2.size
  have ht3 : Txts w3 9 b n (List.replicate n zeroS) := ht.keep (hb3.block b lb)
  have e : (St.new n).safe = List.replicate n zeroS := by rw [zeroS_is]; rfl
  refine ⟨w3.heap.size, fun k => k = w3.heap.size ∨ k = b ∨ k = g, rfl, ⟨b, n, g, cap, .slice none 0 0, Blk.new w3 80 _, ?_⟩, (hb2.trans (hb3.mono l2)).alloc (by omega) _, fun k hk => by omega⟩
  refine ⟨?_, ?_, by omega, World.ownsRow_nil _ _ _ _, .inl rfl, .inr (.inl rfl), .inr (.inr rfl), fun k hk => by simp [Value.ownBlock] at hk, fun k hk => by simp; omega, good_new h1 h2⟩
  · show Txts _ 9 b n (St.new n).safe
    rw [e]
    exact ht3.alloc _
  · rw [e]
    exact hx.alloc _
theorem new_ok (w : World) (n : Nat) (h1 : 1 ≤ n) (h2 : n ≤ 8192) : Calls Tryz.prog 10 #[.int .i64 (n : Int)] w (NewOk w n) := by
  go_enter Tryz.func10, Tryz.ntmps10
  go_wp2_with (fail)
  refine (Tryz.strings_Repeat ⟨#[0]⟩ 512 _ (by omega) (by decide)).mono ?_
  rintro e w1 ⟨rfl, hb1⟩
  have HB1 := Lib.hid hb1
  clear hb1
  go_wp2_with (fail)
  refine (repeat_any _ w1.heap.size zeroS n h1 h2 ((Blk.new w1 9 _).cell 0)).mono ?_
  rintro e w2 ⟨rfl, ht, hb2⟩
  rw [show (w1.alloc (.cells #[.string ⟨(Lib.repeatL [0] 512).toArray⟩] 9)).heap.size = w1.heap.size + 1 by simp] at ht
  have HT := Lib.hid ht
  have HB2 := Lib.hid (HB1.out.trans (((Below.refl w1.heap.size w1).alloc (Nat.le_refl _) (.cells #[.string ⟨(Lib.repeatL [0] 512).toArray⟩] 9)).trans (hb2.mono (by simp)) |>.mono HB1.out.size))
  clear ht hb2
  go_wp2_with (fail)
  have HC := Lib.hid (fun j (hj : j < (List.replicate n zeroS).length) => show w2.cell? ⟨w1.heap.size + 1, 0 + j, none⟩ = some (.string ((List.replicate n zeroS).getD j ByteArray.empty)) by
    rw [Nat.zero_add]
    refine HT.out.cell ?_
    rw [List.getD_eq_getElem?_getD, List.getElem?_eq_getElem hj, Option.getD_some])
  refine (Tryz.slices_Clone_string _ 0 n n (List.replicate n zeroS) _ (by simp) (by omega) HC.out).mono ?_
  rintro e w3 ⟨v, rfl, hown, _, hb3⟩
  rw [show ((List.replicate n zeroS).take n).map Value.string = (List.replicate n zeroS).map Value.string by rw [List.take_of_length_le (by simp)]] at hown
  obtain ⟨g, cap, rfl, hg, _, htx⟩ := Txts.of_own hown h1
  have HR := Lib.hid (new_out h1 h2 HT.out HB2.out htx hg hb3 (by have := HB1.out.size; omega))
  clear hown hg htx hb3
  go_wp2_with (fail)
  go_ret2
  exact HR.out
end Go.Proofs.YtgdaihembmcamaaGreatDoor
