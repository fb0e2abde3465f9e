/- An image written: its bytes one behind the other in a builder. -/
import Derived.Test.YthedonkjnfeajaaDoorImM
import Derived.Test.YthedonkjnfeajaaDoorCrcLaid
import Derived.Test.YthedonkjnfeajaaDoorFrameShelf
import Derived.Laws.EntriesVeiled
namespace Go.Proofs.YthedonkjnfeajaaDoor
open Go.RowKit
set_option maxHeartbeats 400000 in
theorem holdClosure_any (x : Rg) (hs : ByteArray) (g : Nat) (w : World) (hc : w.cell? ⟨g, 2, none⟩ = some (.string hs)) :
    Calls Tryd.prog 54 #[rgV x, .pointer (some ⟨g, 0, none⟩)] w fun e w' => e = .returned (.bool (isH hs x)) ∧ Below w.heap.size w w' := by
  have hlt := World.block_lt_of_cell? w ⟨g, 2, none⟩ hc
  have he : (x.h.toList == hs.toList) = isH hs x := rfl
  generalize isH hs x = r at he
  go_enter Tryd.func54, Tryd.ntmps54
  go_wp2_with (fail)
  go_ret
  exact ⟨rfl, (Below.refl _ _).alloc (Nat.le_refl _) _⟩
set_option maxHeartbeats 1000000 in
theorem index_hold (A : Option Addr) (c : Nat) (l : List Rg) (hs : ByteArray) (g : Nat) (w : World) (hl : Rgs w A l) (hm : l.length ≤ maxLen) (h : w.cell? ⟨g, 2, none⟩ = some (.string hs)) :
    Calls Tryd.prog 53 #[.slice A l.length c, .func (.func 54) #[] #[.pointer (some ⟨g, 0, none⟩)]] w fun e w' => e = .returned (.int .i64 (findQ (isH hs) l)) ∧ Below w.heap.size w w' := by
  unfold maxLen at hm
  have HL := Lib.hid hl
  have HQ := Lib.hid (fun v (hv : Below w.heap.size w v) (x : Rg) => holdClosure_any x hs g v ((hv.cell (p := ⟨g, 2, none⟩) (World.block_lt_of_cell? w _ h)).trans h))
  clear hl h
  obtain ⟨q, hq⟩ : ∃ q, q = (isH hs) := ⟨_, rfl⟩
  rw [← hq] at HQ
  rw [← hq]
  go_enter Tryd.func53, Tryd.ntmps53
  go_wp2
  go_loopw [8] (fun i wr => ∃ k : Nat, k ≤ l.length ∧ i = .int .i64 k ∧ Hid ((l.take k).any q = false) ∧ Hid (Below w.heap.size w wr)) (fun i _ => l.length - (intOf i).toNat)
  case atStart => exact ⟨0, Nat.zero_le _, rfl, Lib.hid rfl, Lib.hid (Below.refl _ _)⟩
  case round =>
    obtain ⟨k, hk, rfl, HR, HB⟩ := hrel
    by_cases hlt : k < l.length
    · obtain ⟨b, o, x, rfl, hx, hz, c0, c1⟩ := ((HL.out.below HB.out).at_ hlt)
      have HX := Lib.hid hx; clear hx
      cases he : q x with
      | true =>
        have HE := Lib.hid he; clear he
        go_wp2_with (fail)
        refine (HQ.out _ HB.out x).mono ?_; rintro e w1 ⟨rfl, hb1⟩
        rw [HE.out]
        have HB1 := Lib.hid (HB.out.trans (hb1.mono HB.out.size)); clear hb1
        go_wp2_with (fail)
        go_ret
        exact ⟨by rw [findQ_here HR.out HX.out HE.out]; rfl, HB1.out⟩
      | false =>
        have HE := Lib.hid he; clear he
        go_wp2_with (fail)
        refine (HQ.out _ HB.out x).mono ?_; rintro e w1 ⟨rfl, hb1⟩
        rw [HE.out]
        have HB1 := Lib.hid (HB.out.trans (hb1.mono HB.out.size)); clear hb1
        go_wp2_with (fail)
        go_roundw
        case rel => exact ⟨k + 1, by omega, by go_num, Lib.hid (by rw [any_take q l k x HX.out, HR.out, HE.out]; rfl), HB1⟩
        case measure => simp [intOf]; omega
    · obtain rfl : k = l.length := by omega
      go_wp2_with (fail)
      go_ret
      have := HR.out
      rw [List.take_length] at this
      exact ⟨by rw [findQ_none this]; rfl, HB.out⟩
theorem atN_int (t : Tl) : 1 + findQ (isH t.ho) t.rs = (atN t : Nat) := by
  show 1 + findR t.rs t.ho = _
  unfold atN findR
  split <;> omega
set_option maxHeartbeats 1000000 in
theorem holder_any (A : Option Addr) (c : Nat) (t : Tl) (w : World) (hl : Rgs w A t.rs) (hm : t.rs.length ≤ 1000) :
    Calls Tryd.prog 30 #[tlV A c t] w fun e w' => e = .returned (.int .i64 (atN t : Nat)) ∧ Below w.heap.size w w' := by
  obtain ⟨h1, h2, h3⟩ := tl_box w A c t _ rfl
  have HT := Lib.hid h1; have HB := Lib.hid h2
  have HL := Lib.hid (hl.below h2)
  have hn := atN_int t
  have hle := atN_le t
  have HM := Lib.hid (show t.rs.length ≤ maxLen from Nat.le_trans hm (by decide))
  clear h1 h2 h3 hl
  go_enter Tryd.func30, Tryd.ntmps30
  go_upto_region 1 with (fail)
  change Code.wp _ _ _ _ (w.alloc (.cells (tlC A c t) 27))
  generalize w.alloc (.cells (tlC A c t) 27) = w0 at *
  have c0 : w0.cell? ⟨w.heap.size, 0, none⟩ = some (.slice A t.rs.length c) := HT.out.cell 0
  go_wp2_with (fail)
  refine (index_hold A c t.rs t.ho w.heap.size w0 HL.out HM.out (HT.out.cell 2)).mono ?_; rintro e w1 ⟨rfl, hb⟩
  have HB1 := Lib.hid (HB.out.trans (hb.mono HB.out.size)); clear hb
  generalize findQ (isH t.ho) t.rs = i at *
  obtain ⟨n, hnn⟩ : ∃ n, n = atN t := ⟨_, rfl⟩
  rw [← hnn] at hn hle
  have HNn := Lib.hid hnn
  clear hnn
  have hi : i = (n : Int) - 1 := by omega
  go_wp2_with (fail)
  go_ret
  exact ⟨ret_int (by rw [← HNn.out]; omega), HB1.out⟩
set_option maxHeartbeats 1000000 in
theorem flag_any (b : Bool) (w : World) : Calls Tryd.prog 31 #[.bool b] w fun e w' => e = .returned (.int .i64 (apN b : Nat)) ∧ w = w' := by
  cases b with
  | false =>
    go_enter Tryd.func31, Tryd.ntmps31
    go_wp2_with (fail)
    go_ret
    exact ⟨rfl, rfl⟩
  | true =>
    go_enter Tryd.func31, Tryd.ntmps31
    go_wp2_with (fail)
    go_ret
    exact ⟨rfl, rfl⟩
theorem grown_of_below {w w' : World} (h : Below w.heap.size w w') : w.grownBy w' none := ⟨h.os, h.tape, h.output, h.size, fun k hk _ => h.block k hk⟩
theorem builder_below {B b : Nat} {bs : List Value} {w w' : World} (h : Lib.IsBuilderF 59 5 B b bs w) (hb : Below w.heap.size w w') : Lib.IsBuilderF 59 5 B b bs w' := by
  have key : ∀ p, Lib.BuilderAtF 59 5 B b p bs w → Lib.BuilderAtF 59 5 B b p bs w' := by
    intro p hp
    have hlt := hp.lt
    obtain ⟨hB, v, hbk, hown, hne⟩ := hp
    exact ⟨hB, v, (hb.block b hlt).trans hbk, hown.kept (grown_of_below hb) (by cases hv : v.ownBlock <;> simp), hne⟩
  exact h.elim (fun x => .inl (key _ x)) (fun x => .inr (key _ x))
theorem builder_new (w : World) : Lib.IsBuilderF 59 5 w.heap.size w.heap.size [] (w.alloc (.cells #[.pointer none, .slice none 0 0] 59)) :=
  .inl ⟨Nat.le_refl _, .slice none 0 0, heap_alloc_new w _, World.ownsRowF_nil _ _ _ _, by simp [Value.ownBlock]⟩
/-- Blocks that a write to the builder leaves as they are. -/
def Kp (B : Nat) (w w' : World) : Prop := ∀ q ty cs, Blk w q ty cs → q ≠ B → ty ≠ 5 → Blk w' q ty cs
/-- What stands in memory while an image is written: the bytes so far, the table. -/
structure WrI (w0 : World) (A : Option Addr) (c : Nat) (t : Tl) (l : List UInt8) (w : World) : Prop where
  bd : Lib.IsBuilderF 59 5 (w0.heap.size + 1) (w0.heap.size + 1) (Lib.byteCells l) w
  tb : Blk w w0.heap.size 27 (tlC A c t)
  rg : Rgs w A t.rs
  bel : Below w0.heap.size w0 w
  lt : w0.heap.size + 1 < w.heap.size
theorem WrI.below {w0 w v : World} {A : Option Addr} {c : Nat} {t : Tl} {l : List UInt8} (h : WrI w0 A c t l w) (hb : Below w.heap.size w v) : WrI w0 A c t l v :=
  ⟨builder_below h.bd hb, h.tb.below hb h.tb.lt, h.rg.below hb, h.bel.trans (hb.mono h.bel.size), Nat.lt_of_lt_of_le h.lt hb.size⟩
theorem ws_i {w0 w : World} {A : Option Addr} {c : Nat} {t : Tl} {l : List UInt8} (s : ByteArray) (h : WrI w0 A c t l w) (hl : l.length + s.size ≤ 1000000) (hr : Rgs w0 A t.rs) :
    Calls Tryd.prog 28 #[.pointer (some ⟨w0.heap.size + 1, 0, none⟩), .string s] w fun e w' => e = .returned (.tuple #[.int .i64 s.size, .nilIface]) ∧ WrI w0 A c t (l ++ lst s) w' ∧ Kp (w0.heap.size + 1) w w' := by
  refine (Tryd.Builder_WriteString_k _ _ _ s w h.bd (by rw [Lib.byteCells_length]; omega) (Nat.le_of_lt h.lt)).mono ?_
  rintro e w' ⟨rfl, hb, hbel, hot⟩
  refine ⟨rfl, ⟨?_, h.tb.below hbel (Nat.lt_succ_self _), hr.below ((h.bel.trans (hbel.mono (Nat.le_succ _)))), h.bel.trans (hbel.mono (Nat.le_succ _)), Nat.lt_of_lt_of_le h.lt hbel.size⟩, fun q ty cs hq hne hty => ?_⟩
  · rw [Lib.byteCells_append]
    exact .inr hb
  · refine hot q _ hq (fun e => hne (Option.some.inj e)) (fun c fz e => ?_)
    injection e with _ e2
    exact hty e2
set_option maxHeartbeats 1000000 in
theorem put_i {w0 w : World} {A : Option Addr} {c : Nat} {t : Tl} {l : List UInt8} (x n : Nat) (h : WrI w0 A c t l w) (hl : l.length ≤ 100000) (hr : Rgs w0 A t.rs) (hx : x < 9223372036854775808) (h1 : 1 ≤ n) (h8 : n ≤ 8) :
    Calls Tryd.prog 27 #[.int .i64 (x : Int), .int .i64 (n : Int), .pointer (some ⟨w0.heap.size + 1, 0, none⟩)] w fun e w' => e = .returned (.tuple #[]) ∧ WrI w0 A c t (l ++ nL x n) w' ∧ Kp (w0.heap.size + 1) w w' := by
  have hw : IntKind.u64.wrap (x : Int) = x := by rw [IntKind.wrap_u64]; omega
  have HP := Lib.hid (putHi_lst (x := x) h1 h8)
  have HZ := Lib.hid ((put_size (x := x) h1 h8).1)
  have H := Lib.hid h; have HR := Lib.hid hr
  clear h hr
  go_enter Tryd.func27, Tryd.ntmps27
  go_wp2_with (fail)
  refine (putBig_any x n w).mono ?_; rintro e w1 ⟨rfl, hb⟩
  have H1 := Lib.hid (H.out.below hb); have HB := Lib.hid hb; clear hb
  go_wp2_with (fail)
  refine (ws_i (putHi x n) H1.out (by have := HZ.out; omega) HR.out).mono ?_; rintro e w2 ⟨rfl, h2, hk⟩
  rw [HP.out] at h2
  have H2 := Lib.hid h2; have HK := Lib.hid hk; clear h2 hk
  go_wp2_with (fail)
  go_end0
  exact ⟨rfl, H2.out, fun q ty cs hq hne hty => HK.out q ty cs (hq.below HB.out hq.lt) hne hty⟩
end Go.Proofs.YthedonkjnfeajaaDoor
