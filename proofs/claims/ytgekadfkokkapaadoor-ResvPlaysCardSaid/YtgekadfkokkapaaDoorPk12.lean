/- The document's own: lists without a host, events, who holds. -/
import Derived.Test.YtgekadfkokkapaaDoorPk11
import Derived.Test.YtgekadfkokkapaaDoorPk06
import Derived.Test.YtgekadfkokkapaaDoorPk07
namespace Go.Proofs.YtgekadfkokkapaaDoor
open Go.RowKit
theorem wpList_append_ev1 {ops : Array Oper} {rest : List Oper} {o : Oper} {a : Act} {w : World} {Q : Exit → Act → World → Prop} (hgd : o.guard = none) (s x : Operand)
    (ho : o.op = .call { callee := .builtin .append, args := #[s, x], argTypes := #[39, 39] }) (B : Nat) (A : Option Addr) (c : Nat) (l : List Ev) (hs : a.eval s = .slice A l.length c) (hown : OwnE w B A c l)
    (b : Nat) (y : Ev) (hx : a.eval x = .slice (some ⟨b, 0, none⟩) 1 1) (hb : Blk w b 48 (evC y)) (hm : l.length ≤ 100000) (hB : B ≤ w.heap.size)
    (h : ∀ A' c' w', OwnE w' B A' c' (l ++ [y]) → w.grownBy w' (Value.slice A l.length c).ownBlock → wpList Tryd.prog ops Q rest (a.put o.dst (.slice A' (l.length + 1) c')) w') : wpList Tryd.prog ops Q (o :: rest) a w := by
  obtain ⟨A', c', w', hr, h2, h3⟩ := run_append_ev w o.type B A c l hown b y hb hm hB
  refine wpList_plain hgd fun K hK => ?_
  unfold Oper.wp execOp
  simp only [ho, resolve, invoke, builtin, Sem.run_bind, Sem.run_pure, Result.andThen_ok, List.map_toArray, List.map_cons, List.map_nil, hs, hx, hr]
  exact hK _ _ (h A' c' w' h2 h3)
theorem rgs_new (w : World) (x : Rg) (hx : x.h.size ≤ maxLen) : Rgs (w.alloc (.cells (regC x) 57)) (some ⟨w.heap.size, 0, none⟩) [x] := fun _ =>
  ⟨w.heap.size, 0, rfl, fun j y hj => by
    match j, hj with
    | 0, hj =>
      obtain rfl : x = y := by simpa using hj
      exact ⟨hx, (Blk.new w 57 (regC x)).cell 0, (Blk.new w 57 (regC x)).cell 1⟩⟩
set_option maxRecDepth 100000 in
set_option maxHeartbeats 2000000 in
theorem without_any (A : Option Addr) (c : Nat) (l : List Rg) (hs : ByteArray) (w : World) (hl : Rgs w A l) (hm : l.length ≤ 1000) :
    Calls Tryd.prog 61 #[.slice A l.length c, .string hs] w fun e w' => ∃ A' c', e = .returned (.slice A' (l.filter (fun r => !eqS r.h hs)).length c') ∧ Own w' w.heap.size A' c' (l.filter (fun r => !eqS r.h hs)) ∧ Below w.heap.size w w' := by
  have HL := Lib.hid hl
  clear hl
  obtain ⟨q, hq⟩ : ∃ q : Rg → Bool, q = (fun r => !eqS r.h hs) := ⟨_, rfl⟩
  have HQ := Lib.hid hq
  rw [← hq]
  clear hq
  go_enter Tryd.func61, Tryd.ntmps61
  go_wp2_with (fail)
  go_loopw [5, 6] (fun out i wr => ∃ (k : Nat) (B : Option Addr) (cb : Nat), k ≤ l.length ∧ i = .int .i64 k ∧ out = .slice B ((l.take k).filter q).length cb ∧ Hid (Own wr w.heap.size B cb ((l.take k).filter q)) ∧ Hid (Below w.heap.size w wr)) (fun _ i _ => l.length - (intOf i).toNat)
  case atStart => exact ⟨0, none, 0, Nat.zero_le _, rfl, rfl, Lib.hid (Own.nil _ _), Lib.hid (Below.refl _ _)⟩
  case round =>
    obtain ⟨k, B, cb, hk, rfl, rfl, HO, HB⟩ := hrel
    by_cases hlt : k < l.length
    · obtain ⟨b, o, x, rfl, hx, hz, d0, d1⟩ := (HL.out.below HB.out).at_ hlt
      have HF := Lib.hid (filter_take q l k x hx)
      have HX := Lib.hid hx; have HZ := Lib.hid hz
      clear hx hz
      cases he : (x.h.toList == hs.toList) with
      | true =>
        have hne : (x.h.toList != hs.toList) = false := by simp [bne, he]
        have hqx : q x = false := by rw [HQ.out]; show (!eqS x.h hs) = false; rw [show eqS x.h hs = true from he]; rfl
        have HFF := Lib.hid (show (l.take (k + 1)).filter q = (l.take k).filter q by rw [HF.out, hqx]; simp)
        clear hqx HF
        go_wp2_with (fail)
        go_roundw
        case rel => exact ⟨k + 1, B, cb, by omega, by go_num, by rw [HFF.out], Lib.hid (by rw [HFF.out]; exact HO.out), HB⟩
        case measure => simp [intOf]; omega
      | false =>
        have hne : (x.h.toList != hs.toList) = true := by simp [bne, he]
        have hqx : q x = true := by rw [HQ.out]; show (!eqS x.h hs) = true; rw [show eqS x.h hs = false from he]; rfl
        have HFF := Lib.hid (show (l.take (k + 1)).filter q = (l.take k).filter q ++ [x] by rw [HF.out, hqx]; simp)
        have HLE : Hid (((l.take k).filter q).length ≤ 1000) := by
          have a1 := List.length_filter_le q (l.take k)
          have a3 : (l.take k).length ≤ k := by rw [List.length_take]; exact Nat.min_le_left _ _
          exact Lib.hid (by omega)
        clear hqx HF
        have hal := (Below.refl wr.heap.size wr).alloc (Nat.le_refl _) (.cells (regC x) 57)
        have HAL := Lib.hid hal
        have HOA := Lib.hid (HO.out.below hal)
        have HRN := Lib.hid (rgs_new wr x HZ.out)
        clear hal
        generalize hlk : (l.take k).filter q = lk at *
        go_wp2_with (at_builtin; refine wpList_append_rgs rfl (.tmp 20) (.tmp 25) rfl w.heap.size B cb lk rfl HOA.out (some ⟨wr.heap.size, 0, none⟩) 1 [x] rfl HRN.out (by have := HLE.out; simp; omega) (Nat.le_trans HB.out.size HAL.out.size) ?_; intro A3 cc w3 hn3 hg3; have H3 := Lib.hid hn3; have HG3 := Lib.hid hg3; clear hn3 hg3)
        go_roundw
        case rel => exact ⟨k + 1, A3, cc, by omega, by go_num, by rw [HFF.out]; simp, Lib.hid (by rw [HFF.out]; exact H3.out), Lib.hid ((HB.out.trans (HAL.out.mono HB.out.size)).grown HG3.out (Nat.le_trans HB.out.size HAL.out.size) (fun g hg => (HOA.out.1.lt g hg).1))⟩
        case measure => simp [intOf]; omega
    · obtain rfl : k = l.length := by omega
      rw [List.take_length] at HO
      have hll : (l.take l.length).filter q = l.filter q := by rw [List.take_length]
      go_wp2_with (fail)
      go_ret
      exact ⟨B, cb, by rw [hll]; rfl, HO.out, HB.out⟩
def evsOf (y : Int) (h : ByteArray) (l : List Rg) : List Ev := told y (fun r => !eqS r.h h) l
set_option maxRecDepth 100000 in
set_option maxHeartbeats 2000000 in
theorem events_any (A : Option Addr) (c : Nat) (l : List Rg) (hs : ByteArray) (y : Int) (w : World) (hl : Rgs w A l) (hm : l.length ≤ 1000) :
    Calls Tryd.prog 42 #[.slice A l.length c, .string hs, .int .i64 y] w fun e w' => ∃ A' c', e = .returned (.slice A' (evsOf y hs l).length c') ∧ OwnE w' w.heap.size A' c' (evsOf y hs l) ∧ Below w.heap.size w w' := by
  have HL := Lib.hid hl
  clear hl
  obtain ⟨q, hq⟩ : ∃ q : Rg → Bool, q = (fun r => !eqS r.h hs) := ⟨_, rfl⟩
  have HQ := Lib.hid hq
  unfold evsOf
  rw [← hq]
  clear hq
  go_enter Tryd.func42, Tryd.ntmps42
  go_wp2_with (fail)
  go_loopw [7, 8] (fun out i wr => ∃ (k : Nat) (B : Option Addr) (cb : Nat), k ≤ l.length ∧ i = .int .i64 k ∧ out = .slice B (told y q (l.take k)).length cb ∧ Hid (OwnE wr w.heap.size B cb (told y q (l.take k))) ∧ Hid (Below w.heap.size w wr)) (fun _ i _ => l.length - (intOf i).toNat)
  case atStart => exact ⟨0, none, 0, Nat.zero_le _, rfl, rfl, Lib.hid (OwnE.nil _ _), Lib.hid (Below.refl _ _)⟩
  case round =>
    obtain ⟨k, B, cb, hk, rfl, rfl, HO, HB⟩ := hrel
    by_cases hlt : k < l.length
    · obtain ⟨b, o, x, rfl, hx, hz, d0, d1⟩ := (HL.out.below HB.out).at_ hlt
      have HF := Lib.hid (told_take y q l k x hx)
      clear hx hz
      cases he : (x.h.toList == hs.toList) with
      | true =>
        have hne : (x.h.toList != hs.toList) = false := by simp [bne, he]
        have hqx : q x = false := by rw [HQ.out]; show (!eqS x.h hs) = false; rw [show eqS x.h hs = true from he]; rfl
        have HFF := Lib.hid (show told y q (l.take (k + 1)) = told y q (l.take k) by rw [HF.out, hqx]; simp)
        clear hqx HF
        go_wp2_with (fail)
        go_roundw
        case rel => exact ⟨k + 1, B, cb, by omega, by go_num, by rw [HFF.out], Lib.hid (by rw [HFF.out]; exact HO.out), HB⟩
        case measure => simp [intOf]; omega
      | false =>
        have hne : (x.h.toList != hs.toList) = true := by simp [bne, he]
        have hqx : q x = true := by rw [HQ.out]; show (!eqS x.h hs) = true; rw [show eqS x.h hs = false from he]; rfl
        have HFF := Lib.hid (show told y q (l.take (k + 1)) = told y q (l.take k) ++ [⟨x.h, y⟩] by rw [HF.out, hqx]; simp)
        have HLE : Hid ((told y q (l.take k)).length ≤ 1000) := by
          have a1 := told_length y q (l.take k)
          have a3 : (l.take k).length ≤ k := by rw [List.length_take]; exact Nat.min_le_left _ _
          exact Lib.hid (by omega)
        clear hqx HF
        have hal := (Below.refl wr.heap.size wr).alloc (Nat.le_refl _) (.cells (evC ⟨x.h, y⟩) 48)
        have HAL := Lib.hid hal
        have HOA := Lib.hid (HO.out.below hal)
        have HRN := Lib.hid (Blk.new wr 48 (evC ⟨x.h, y⟩))
        clear hal
        generalize hlk : told y q (l.take k) = lk at *
        go_wp2_with (at_builtin; refine wpList_append_ev1 rfl (.tmp 22) (.tmp 30) rfl w.heap.size B cb lk rfl HOA.out wr.heap.size ⟨x.h, y⟩ rfl HRN.out (by have := HLE.out; omega) (Nat.le_trans HB.out.size HAL.out.size) ?_; intro A3 cc w3 hn3 hg3; have H3 := Lib.hid hn3; have HG3 := Lib.hid hg3; clear hn3 hg3)
        go_roundw
        case rel => exact ⟨k + 1, A3, cc, by omega, by go_num, by rw [HFF.out]; simp, Lib.hid (by rw [HFF.out]; exact H3.out), Lib.hid ((HB.out.trans (HAL.out.mono HB.out.size)).grown HG3.out (Nat.le_trans HB.out.size HAL.out.size) (fun g hg => (HOA.out.lt g hg).1))⟩
        case measure => simp [intOf]; omega
    · obtain rfl : k = l.length := by omega
      rw [List.take_length] at HO
      have hll : told y q (l.take l.length) = told y q l := by rw [List.take_length]
      go_wp2_with (fail)
      go_ret
      exact ⟨B, cb, by rw [hll]; rfl, HO.out, HB.out⟩
end Go.Proofs.YtgekadfkokkapaaDoor
