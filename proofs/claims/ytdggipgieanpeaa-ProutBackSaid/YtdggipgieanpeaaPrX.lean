/- The keys that are told: the code's head and Keys. -/
import Derived.Test.YtdggipgieanpeaaPrQ
import Derived.Test.YtdggipgieanpeaaFrameShelf
namespace Go.Proofs.Ytdggipgieanpeaa.Pc
open Go.RowKit
theorem listSz (a : ByteArray) : a.data.toList.length = a.size := by simp
theorem listAp (a b : ByteArray) : (a ++ b).data.toList = a.data.toList ++ b.data.toList := by simp
theorem grown_of_below {w w' : World} (h : Below w.heap.size w w') : w.grownBy w' none := ⟨h.os, h.tape, h.output, h.size, fun k hk _ => h.block k hk⟩
theorem builder_below {B b : Nat} {bs : List Value} {w w' : World} (h : Lib.IsBuilderF 70 5 B b bs w) (hb : Below w.heap.size w w') : Lib.IsBuilderF 70 5 B b bs w' := by
  have key : ∀ p, Lib.BuilderAtF 70 5 B b p bs w → Lib.BuilderAtF 70 5 B b p bs w' := by
    intro p hp
    have hlt := hp.lt
    obtain ⟨hB, v, hbk, hown, hne⟩ := hp
    exact ⟨hB, v, (hb.block b hlt).trans hbk, hown.kept (grown_of_below hb) (by cases hv : v.ownBlock <;> simp), hne⟩
  exact h.elim (fun x => .inl (key _ x)) (fun x => .inr (key _ x))
theorem builder_new (w : World) : Lib.IsBuilderF 70 5 w.heap.size w.heap.size [] (w.alloc (.cells #[.pointer none, .slice none 0 0] 70)) :=
  .inl ⟨Nat.le_refl _, .slice none 0 0, heap_alloc_new w _, World.ownsRowF_nil _ _ _ _, by simp [Value.ownBlock]⟩
def headK (g n : Nat) : ByteArray := putHi g ((4 : Nat) : Int) ++ putHi n ((4 : Nat) : Int)
theorem headK_size (g n : Nat) : (headK g n).size = 8 := by unfold headK; rw [ByteArray.size_append, put4, put4]
def accK (h : ByteArray) (l : List Rk) (k : Nat) : ByteArray := h ++ keyL (l.take k)
theorem accK_size {h : ByteArray} (h8 : h.size = 8) (l : List Rk) (k : Nat) (hk : k ≤ l.length) : (accK h l k).size = 8 + 8 * k := by
  unfold accK
  rw [ByteArray.size_append, keyL_size l k hk, h8]
theorem accK_next (h : ByteArray) {l : List Rk} {k : Nat} {x : Rk} (hx : l[k]? = some x) : accK h l (k + 1) = accK h l k ++ putHi x.k ((8 : Nat) : Int) := by
  unfold accK
  rw [keyL_step hx, ByteArray.append_assoc]
theorem accK_zero (h : ByteArray) (l : List Rk) : accK h l 0 = h := by
  unfold accK keyL
  apply bytesL
  rw [listAp]
  simp
theorem keysS_is (g : Nat) (l : List Rk) : keysS g l = accK (headK g (8 * (min l.length 16))) l (min l.length 16) := by
  unfold keysS accK headK
  rw [List.length_take, show min 16 l.length = min l.length 16 by omega]
  congr 2
  by_cases h : l.length ≤ 16
  · rw [show min l.length 16 = l.length by omega, List.take_of_length_le h, List.take_of_length_le (Nat.le_refl _)]
  · rw [show min l.length 16 = 16 by omega]
set_option maxRecDepth 100000 in
set_option maxHeartbeats 4000000 in
theorem head_any (g n : Nat) (hg : g < 4294967296) (hn : n < 1000000) (w : World) : Calls Try.prog 25 #[.int .u32 (g : Int), .int .i64 (n : Int)] w fun e w' => e = .returned (.string (headK g n)) ∧ Below w.heap.size w w' := by
  have HP1 := Lib.hid (fun v => putBig_any g ((4 : Nat) : Int) v)
  have HP2 := Lib.hid (fun v => putBig_any n ((4 : Nat) : Int) v)
  have e1 : IntKind.u64.wrap (g : Int) = (g : Int) := IntWalk.u64_in _ (by omega)
  have e2 : IntKind.u64.wrap (n : Int) = (n : Int) := IntWalk.u64_in _ (by omega)
  have HV := Lib.hid (show headK g n = putHi g ((4 : Nat) : Int) ++ putHi n ((4 : Nat) : Int) from rfl)
  have p1 := put4 g
  have p2 := put4 n
  generalize headK g n = R at *
  generalize putHi g ((4 : Nat) : Int) = m1 at *
  generalize putHi n ((4 : Nat) : Int) = m2 at *
  have hsz : ¬ 9223372036854775807 < m1.size + m2.size := by omega
  clear hg hn
  go_enter Try.func25, Try.ntmps25
  go_upto_region 1 with (fail)
  refine wp_region_lit ?_
  refine wpList_runs rfl (some 5) rfl (.int .u32 (g : Int)) w (by rfl) ?_
  refine wpList_runs rfl (some 6) rfl (.int .u64 (g : Int)) w (by go_simp) ?_
  refine wpList_calls rfl (some 7) rfl 26 #[.int .u64 (g : Int), .int .i64 4] (by unfold execOp; simp [resolve, invoke, go_sem]) _ (HP1.out w) ?_
  rintro e v1 ⟨rfl, hb⟩
  refine ⟨_, rfl, ?_⟩
  have HB := Lib.hid hb
  clear hb
  simp only [Act.put, List.setIfInBounds_toArray, List.set_cons_zero, List.set_cons_succ]
  refine wpList_runs rfl (some 8) rfl (.int .i64 (n : Int)) v1 (by rfl) ?_
  refine wpList_runs rfl (some 9) rfl (.int .u64 (n : Int)) v1 (by go_simp) ?_
  refine wpList_calls rfl (some 10) rfl 26 #[.int .u64 (n : Int), .int .i64 4] (by unfold execOp; simp [resolve, invoke, go_sem]) _ (HP2.out v1) ?_
  rintro e v2 ⟨rfl, hb⟩
  refine ⟨_, rfl, ?_⟩
  replace HB := Lib.hid (HB.out.trans (hb.mono HB.out.size))
  clear hb e1 e2
  simp only [Act.put, List.setIfInBounds_toArray, List.set_cons_zero, List.set_cons_succ]
  refine wpList_runs rfl (some 11) rfl (.string (m1 ++ m2)) v2 (by go_simp) ?_
  simp only [Act.put, List.setIfInBounds_toArray, List.set_cons_zero, List.set_cons_succ]
  refine wpList_runs rfl (some 4) rfl (.string (m1 ++ m2)) v2 (by rfl) ?_
  simp only [Act.put, List.setIfInBounds_toArray, List.set_cons_zero, List.set_cons_succ]
  go_wp2_with (fail)
  go_ret
  exact ⟨by rw [HV.out]; rfl, HB.out⟩
def KyAt (w : World) (h : ByteArray) (l : List Rk) (m : Nat) (i : Value) (wr : World) : Prop :=
  ∃ k : Nat, i = .int .i64 k ∧ k ≤ m ∧ Lib.IsBuilderF 70 5 w.heap.size w.heap.size (Lib.byteCells (accK h l k).data.toList) wr ∧ Below w.heap.size w wr
set_option maxRecDepth 100000 in
set_option maxHeartbeats 4000000 in
theorem keys_in (g : Nat) (A : Option Addr) (c n m : Nat) (l : List Rk) (w : World) (hg : g < 4294967296) (hl : Rks w A l) (hn : n = l.length) (hc : n ≤ c) (hnn : n ≤ 100000) (hm : m = min n 16) : Calls Try.prog 12 #[.int .u32 (g : Int), .slice A n c] w fun e w' => e = .returned (.string (keysS g l)) ∧ Below w.heap.size w w' := by
  have HV := Lib.hid (show keysS g l = accK (headK g (8 * m)) l m by rw [keysS_is, hm, hn])
  have h8 := headK_size g (8 * m)
  have HHD := Lib.hid (fun v => head_any g (8 * m) hg (by omega) v)
  generalize headK g (8 * m) = hd at *
  have hmul : IntKind.i64.wrap ((m : Int) * 8) = ((8 * m : Nat) : Int) := by rw [IntWalk.i64_in _ (by omega)]; omega
  have hmul2 : wrap64 ((m : Int) * 8) = ((8 * m : Nat) : Int) := by rw [IntWalk.wrap64_in _ (by omega)]; omega
  obtain ⟨M8, hM8⟩ : ∃ M8 : Nat, M8 = 8 * m := ⟨_, rfl⟩
  rw [← hM8] at hmul hmul2 HHD
  clear hM8
  have hmin : min (n : Int) 16 = (m : Int) := by omega
  have hmc : (m : Int) ≤ (c : Int) := by omega
  have HML := Lib.hid (show m ≤ l.length by omega)
  have HM16 := Lib.hid (show m ≤ 16 by omega)
  have HB0 := Lib.hid (builder_new w)
  have HBe := Lib.hid ((Below.refl w.heap.size w).alloc (Nat.le_refl _) (.cells #[.pointer none, .slice none 0 0] 70))
  have HL := Lib.hid hl
  clear hl hg hn hnn hm
  go_enter Try.func12, Try.ntmps12
  go_upto_region 2 with (fail)
  clear hmin hmc hc
  go_wp2_with (fail)
  refine (HHD.out _).mono ?_; rintro e w1 ⟨rfl, hb1⟩
  have HD := Lib.hid (builder_below HB0.out hb1)
  have HG := Lib.hid (HBe.out.trans (hb1.mono HBe.out.size))
  clear hb1 hmul hmul2 HB0 HBe
  go_wp2_with (fail)
  refine (Try.Builder_WriteString_k _ _ _ _ _ HD.out (by rw [h8]; simp) HG.out.size).mono ?_; rintro e w2 ⟨rfl, hB2, hb2, _⟩
  replace HG := Lib.hid (HG.out.trans hb2)
  replace HD := Lib.hid (show Lib.IsBuilderF 70 5 w.heap.size w.heap.size (Lib.byteCells (accK hd l 0).data.toList) w2 by
    rw [accK_zero]
    exact .inr (by simpa [Lib.strCells_eq] using hB2))
  have H8 := Lib.hid h8
  clear hb2 hB2 h8
  go_wp2_with (fail)
  go_loopw [21] (fun i v => KyAt w hd l m i v) (fun i _ => m - (intOf i).toNat)
  case atStart => exact ⟨0, rfl, Nat.zero_le _, HD.out, HG.out⟩
  case round =>
    obtain ⟨k, rfl, hk, hbd, hbl⟩ := hrel
    replace HD := Lib.hid hbd
    replace HG := Lib.hid hbl
    clear hbd hbl
    by_cases hlt : k < m
    · obtain ⟨b, o, x, rfl, hx, hwf, c1, c2⟩ := (HL.out.below HG.out).at_ (show k < l.length by have := HML.out; omega)
      have HX := Lib.hid hx
      clear hx hwf
      have hkm : (k : Int) < m := by omega
      have HS := Lib.hid (accK_size H8.out l k (by have := HML.out; omega))
      have HA := Lib.hid (accK_next hd HX.out)
      have HP8 := Lib.hid (put8 x.k)
      have HPB := Lib.hid (fun v => putBig_any x.k ((8 : Nat) : Int) v)
      generalize putHi x.k ((8 : Nat) : Int) = mk at *
      have hx := HG.out.alloc HG.out.size (.cells #[.string x.h, .int .u64 (x.k : Int)] 46)
      have HGX := Lib.hid hx; clear hx
      have HXD := Lib.hid (builder_below HD.out ((Below.refl _ wr).alloc (Nat.le_refl _) (.cells #[.string x.h, .int .u64 (x.k : Int)] 46)))
      go_wp2_with (fail)
      refine (HPB.out _).mono ?_; rintro e w3 ⟨rfl, hb3⟩
      have HD3 := Lib.hid (builder_below HXD.out hb3)
      have HG3 := Lib.hid (HGX.out.trans (hb3.mono HGX.out.size))
      clear hb3
      go_wp2_with (fail)
      refine (Try.Builder_WriteString_k _ _ _ _ _ HD3.out (by rw [HP8.out, Lib.byteCells_length, listSz, HS.out]; have := HM16.out; omega) HG3.out.size).mono ?_; rintro e w4 ⟨rfl, hB4, hb4, _⟩
      have HG4 := Lib.hid (HG3.out.trans hb4)
      rw [Lib.strCells_eq, ← Lib.byteCells_append, ← listAp, ← HA.out] at hB4
      have HD4 := Lib.hid hB4
      clear hb4 hB4
      have hm16 := HM16.out
      go_wp2_with (fail)
      go_roundw
      case rel => exact ⟨k + 1, by go_num, by omega, .inr HD4.out, HG4.out⟩
      case measure => simp [intOf]; omega
    · obtain rfl : k = m := by omega
      go_wp2_with (fail)
      refine (Try.Builder_String_any_k _ _ _ _ HD.out HG.out.size).mono ?_; rintro e w3 ⟨rfl, hb3⟩
      replace HG := Lib.hid (HG.out.trans hb3)
      clear hb3
      go_wp2_with (fail)
      go_ret
      exact ⟨by rw [HV.out]; rfl, HG.out⟩
theorem keys_any (g : Nat) (A : Option Addr) (c : Nat) (l : List Rk) (w : World) (hg : g < 4294967296) (hl : Rks w A l) (hc : l.length ≤ c) (hnn : l.length ≤ 100000) : Calls Try.prog 12 #[.int .u32 (g : Int), .slice A l.length c] w fun e w' => e = .returned (.string (keysS g l)) ∧ Below w.heap.size w w' :=
  keys_in g A c l.length _ l w hg hl rfl hc hnn rfl
end Go.Proofs.Ytdggipgieanpeaa.Pc
