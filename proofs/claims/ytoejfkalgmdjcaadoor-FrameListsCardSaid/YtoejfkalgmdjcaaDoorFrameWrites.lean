/- The writes as a text: the code's Writes. -/
import Derived.Test.YtoejfkalgmdjcaaDoorFrameShelf
import Derived.Test.YtoejfkalgmdjcaaDoorFrameWakes
namespace Go.Proofs.YtoejfkalgmdjcaaDoor
open Go.RowKit
abbrev Wr := Int × ByteArray
/-- A list of writes in memory. -/
def Wrs (w : World) (A : Option Addr) (l : List Wr) : Prop :=
  0 < l.length → ∃ b o, A = some ⟨b, o, none⟩ ∧ ∀ (j : Nat) (x : Wr), l[j]? = some x → w.cell? ⟨b, o + j * 2, none⟩ = some (.int .i64 x.1) ∧ w.cell? ⟨b, o + j * 2 + 1, none⟩ = some (.string x.2)
theorem Wrs.below {w w' : World} {A : Option Addr} {l : List Wr} (h : Wrs w A l) (hb : Below w.heap.size w w') : Wrs w' A l := fun hn => by
  obtain ⟨b, o, rfl, hc⟩ := h hn
  exact ⟨b, o, rfl, fun j v hj => ⟨(hb.cell (p := ⟨b, o + j * 2, none⟩) (World.block_lt_of_cell? _ _ (hc j v hj).1)).trans (hc j v hj).1, (hb.cell (p := ⟨b, o + j * 2 + 1, none⟩) (World.block_lt_of_cell? _ _ (hc j v hj).2)).trans (hc j v hj).2⟩⟩
theorem Wrs.at_ {w : World} {A : Option Addr} {l : List Wr} (h : Wrs w A l) {j : Nat} (hj : j < l.length) : ∃ b o i s, A = some ⟨b, o, none⟩ ∧ l[j]? = some (i, s) ∧ w.cell? ⟨b, o + j * 2, none⟩ = some (.int .i64 i) ∧ w.cell? ⟨b, o + j * 2 + 1, none⟩ = some (.string s) := by
  obtain ⟨b, o, rfl, hc⟩ := h (by omega)
  exact ⟨b, o, _, _, rfl, List.getElem?_eq_getElem hj, (hc j _ (List.getElem?_eq_getElem hj)).1, (hc j _ (List.getElem?_eq_getElem hj)).2⟩
/-- A write that may stand in a text. -/
def okW (x : Wr) : Bool := decide (0 ≤ x.1 ∧ x.1 < 8192 ∧ x.2.size = 512)
def wcat : List Wr → ByteArray
  | [] => ⟨#[]⟩
  | x :: l => putHi x.1.toNat 4 ++ (x.2 ++ wcat l)
def textW (l : List Wr) : ByteArray := putHi l.length 4 ++ wcat l
/-- The error with which Writes ends (0: with none). -/
def writesE (l : List Wr) : Nat := if 80 < l.length then 3 else if l.all okW then 0 else 40
theorem wcat_app : ∀ a b : List Wr, wcat (a ++ b) = wcat a ++ wcat b
  | [], b => by show wcat b = ⟨#[]⟩ ++ wcat b; apply bytes_ext; rw [app_list]; rfl
  | x :: a, b => by
    show putHi x.1.toNat 4 ++ (x.2 ++ wcat (a ++ b)) = putHi x.1.toNat 4 ++ (x.2 ++ wcat a) ++ wcat b
    rw [wcat_app a b]
    simp only [ByteArray.append_assoc]
theorem wcat_one (x : Wr) : wcat [x] = putHi x.1.toNat 4 ++ x.2 := by show putHi x.1.toNat 4 ++ (x.2 ++ ⟨#[]⟩) = _; rw [app_nil]
theorem wcat_size : ∀ l : List Wr, l.all okW = true → (wcat l).size = 516 * l.length
  | [], _ => rfl
  | x :: l, h => by
    simp only [List.all_cons, Bool.and_eq_true] at h
    have hx := of_decide_eq_true h.1
    show (putHi x.1.toNat 4 ++ (x.2 ++ wcat l)).size = 516 * (l.length + 1)
    rw [ByteArray.size_append, ByteArray.size_append, putHi4, wcat_size l h.2, hx.2.2]
    omega
/-- What stands in the builder when k writes are written. -/
def accW (l : List Wr) (k : Nat) : ByteArray := putHi l.length 4 ++ wcat (l.take k)
theorem acc_next (l : List Wr) (k : Nat) (x : Wr) (h : l[k]? = some x) : accW l k ++ putHi x.1.toNat 4 ++ x.2 = accW l (k + 1) := by
  unfold accW
  rw [List.take_add_one, h, Option.toList_some, wcat_app, wcat_one]
  simp only [ByteArray.append_assoc]
theorem acc_size (l : List Wr) (k : Nat) (h : (l.take k).all okW = true) : (accW l k).size ≤ 4 + 516 * k := by
  unfold accW
  rw [ByteArray.size_append, putHi4, wcat_size _ h, List.length_take]
  omega
theorem all_next {l : List Wr} {k : Nat} {x : Wr} (h : (l.take k).all okW = true) (hx : l[k]? = some x) (ho : okW x = true) : (l.take (k + 1)).all okW = true := by
  rw [List.take_add_one, hx, Option.toList_some, List.all_append, h]
  simp [ho]
theorem grown_of_below {w w' : World} (h : Below w.heap.size w w') : w.grownBy w' none := ⟨h.os, h.tape, h.output, h.size, fun k hk _ => h.block k hk⟩
theorem builder_below {B b : Nat} {bs : List Value} {w w' : World} (h : Lib.IsBuilderF 70 5 B b bs w) (hb : Below w.heap.size w w') : Lib.IsBuilderF 70 5 B b bs w' := by
  have key : ∀ p, Lib.BuilderAtF 70 5 B b p bs w → Lib.BuilderAtF 70 5 B b p bs w' := by
    intro p hp
    have hlt := hp.lt
    obtain ⟨hB, v, hbk, hown, hne⟩ := hp
    exact ⟨hB, v, (hb.block b hlt).trans hbk, hown.kept (grown_of_below hb) (by cases hv : v.ownBlock <;> simp), hne⟩
  exact h.elim (fun x => .inl (key _ x)) (fun x => .inr (key _ x))
theorem builder_new (w : World) : Lib.IsBuilderF 70 5 w.heap.size w.heap.size [] (w.alloc (.cells #[.pointer none, .slice none 0 0] 70)) :=
  .inl ⟨Nat.le_refl _, .slice none 0 0, heap_alloc_new w _, World.ownsRowF_nil _ _ _ _, by simp [Value.ownBlock]⟩
theorem all_bad {l : List Wr} {k : Nat} {x : Wr} (hx : l[k]? = some x) (ho : okW x = false) : l.all okW = false := by
  cases h : l.all okW with
  | false => rfl
  | true => rw [List.all_eq_true.1 h x (List.mem_of_getElem? hx)] at ho; cases ho
theorem lt_of_builder {B b : Nat} {bs : List Value} {w : World} (h : Lib.IsBuilderF 70 5 B b bs w) : b < w.heap.size := h.elim (fun x => x.lt) (fun x => x.lt)
theorem blk_kept {w w' : World} {q B : Nat} {t : TypeId} {cs : Array Value} (h : Blk w q t cs) (ho : Lib.OthersKept 5 (some B) w w') (hq : q ≠ B) (ht : t ≠ 5) : Blk w' q t cs :=
  ho q _ h (fun e => hq (Option.some.inj e)) (fun c fz e => by injection e with _ e2; exact ht e2)
/-- What Writes answers. -/
def wroteV (l : List Wr) : Value := if 80 < l.length then .tuple #[.string ⟨#[]⟩, .int .i64 3] else if l.all okW then .tuple #[.string (textW l), .int .i64 0] else .tuple #[.string ⟨#[]⟩, .int .i64 40]
theorem wroteV_many {l : List Wr} (h : 80 < l.length) : wroteV l = .tuple #[.string ⟨#[]⟩, .int .i64 3] := by unfold wroteV; rw [if_pos h]
theorem wroteV_ok {l : List Wr} (h : l.length ≤ 80) (ho : l.all okW = true) : wroteV l = .tuple #[.string (textW l), .int .i64 0] := by unfold wroteV; rw [if_neg (by omega), if_pos ho]
theorem wroteV_bad {l : List Wr} (h : l.length ≤ 80) (ho : l.all okW = false) : wroteV l = .tuple #[.string ⟨#[]⟩, .int .i64 40] := by unfold wroteV; rw [if_neg (by omega), ho]; rfl
theorem writes_many (A : Option Addr) (c : Nat) (l : List Wr) (w : World) (h : 80 < l.length) :
    Calls Tryd.prog 16 #[.slice A l.length c] w fun e w' => e = .returned (.tuple #[.string ⟨#[]⟩, .int .i64 3]) ∧ w = w' := by
  have hi : (80 : Int) < l.length := by omega
  go_enter Tryd.func16, Tryd.ntmps16
  go_wp2
  go_ret2
  exact ⟨rfl, rfl⟩
/-- Of Writes' loop: the first k writes stand in the builder. -/
def WrAt (w : World) (l : List Wr) (i : Value) (wr : World) : Prop :=
  ∃ k : Nat, i = .int .i64 k ∧ k ≤ l.length ∧ (l.take k).all okW = true ∧ Lib.IsBuilderF 70 5 w.heap.size w.heap.size (Lib.byteCells (accW l k).data.toList) wr ∧ Below w.heap.size w wr
set_option maxRecDepth 100000 in
set_option maxHeartbeats 1000000 in
theorem writes_in (A : Option Addr) (c : Nat) (l : List Wr) (w : World) (hl : Wrs w A l) (h : l.length ≤ 80) :
    Calls Tryd.prog 16 #[.slice A l.length c] w fun e w' => e = .returned (wroteV l) ∧ Below w.heap.size w w' := by
  have hi : ¬ (80 : Int) < l.length := by omega
  have HB0 := Lib.hid (builder_new w)
  have HBe := Lib.hid ((Below.refl w.heap.size w).alloc (Nat.le_refl _) (.cells #[.pointer none, .slice none 0 0] 70))
  have HL := Lib.hid hl; clear hl
  have p4 := putHi4 l.length
  go_enter Tryd.func16, Tryd.ntmps16
  go_wp2_with (fail)
  refine (putBig_any l.length 4 _).mono ?_; rintro e w1 ⟨rfl, hb1⟩
  have hB1 := builder_below HB0.out hb1
  have H1 := Lib.hid (HBe.out.trans (hb1.mono HBe.out.size)); clear hb1
  have HB1 := Lib.hid hB1; clear hB1
  go_wp2_with (fail)
  refine (Tryd.Builder_WriteString_k _ _ _ _ _ HB1.out (by rw [p4]; simp) H1.out.size).mono ?_; rintro e w2 ⟨rfl, hB2, hb2, _⟩
  have H2 := Lib.hid (H1.out.trans hb2); clear hb2
  have HB2 := Lib.hid (show Lib.IsBuilderF 70 5 w.heap.size w.heap.size (Lib.byteCells (accW l 0).data.toList) w2 by
    have e : accW l 0 = putHi l.length 4 := by unfold accW; rw [List.take_zero]; exact app_nil _
    rw [e]
    exact .inr (by simpa [Lib.strCells_eq] using hB2)); clear hB2
  go_wp2_with (fail)
  go_loopw [17] (fun i wr => WrAt w l i wr) (fun i _ => l.length - (intOf i).toNat)
  case atStart => exact ⟨0, rfl, Nat.zero_le _, rfl, HB2.out, H2.out⟩
  case round =>
    obtain ⟨k, rfl, hk, hall, hbd, hbl⟩ := hrel
    have HD := Lib.hid hbd; clear hbd
    have HBL := Lib.hid hbl; clear hbl
    have HAL := Lib.hid hall; clear hall
    by_cases hlt : k < l.length
    · obtain ⟨b, o, i, s, rfl, hat, c1, c2⟩ := (HL.out.below HBL.out).at_ hlt
      have HAT := Lib.hid hat; clear hat
      have hki : (k : Int) < l.length := by omega
      have hsz := acc_size l k HAL.out
      by_cases h0 : 0 ≤ i
      · by_cases h1 : i < 8192
        · by_cases h2 : s.size = 512
          · obtain ⟨n, rfl⟩ := Int.eq_ofNat_of_zero_le h0
            have hgood : okW ((n : Int), s) = true := decide_eq_true ⟨by omega, by omega, h2⟩
            have HN := Lib.hid (all_next HAL.out HAT.out hgood)
            have HA := Lib.hid (acc_next l k _ HAT.out)
            have hx := HBL.out.alloc HBL.out.size (.cells #[.int .i64 n, .string s] 40)
            have HX := Lib.hid hx; clear hx
            have HXD := Lib.hid (builder_below HD.out ((Below.refl _ wr).alloc (Nat.le_refl _) (.cells #[.int .i64 n, .string s] 40)))
            have hq := Blk.new wr 40 #[.int .i64 n, .string s]
            have hqB : wr.heap.size ≠ w.heap.size := by have := HB0.out; have := HBL.out.size; have := H2.out.size; have := lt_of_builder HD.out; omega
            have hh2 : ¬ (n : Int) < 0 := by omega
            have hh3 : ¬ (8192 : Int) ≤ (n : Int) := by omega
            have hh4 : (s.size : Int) = 512 := by omega
            have q4 := putHi4 n
            have HQ := Lib.hid hq; clear hq
            go_wp2_with (fail)
            refine (putBig_any n 4 _).mono ?_; rintro e w3 ⟨rfl, hb3⟩
            have hq3 := HQ.out.below hb3 HQ.out.lt
            have hD3 := builder_below HXD.out hb3
            have H3 := Lib.hid (HX.out.trans (hb3.mono HX.out.size)); clear hb3
            have HD3 := Lib.hid hD3; clear hD3
            have HQ3 := Lib.hid hq3; clear hq3
            go_wp2_with (fail)
            refine (Tryd.Builder_WriteString_k _ _ _ _ _ HD3.out (by rw [q4, Lib.byteCells_length, list_size]; omega) H3.out.size).mono ?_; rintro e w4 ⟨rfl, hB4, hb4, ho4⟩
            have hq4 := blk_kept HQ3.out ho4 hqB (by decide)
            have d1 : w4.cell? ⟨wr.heap.size, 1, none⟩ = some (.string s) := hq4.cell 1
            have H4 := Lib.hid (H3.out.trans hb4); clear hb4
            rw [Lib.strCells_eq, ← Lib.byteCells_append, ← app_list] at hB4
            have HB4 := Lib.hid hB4; clear hB4 hq4 ho4
            go_wp2_with (fail)
            refine (Tryd.Builder_WriteString_k _ _ _ _ _ (.inr HB4.out) (by rw [Lib.byteCells_length, list_size, ByteArray.size_append]; omega) H4.out.size).mono ?_; rintro e w5 ⟨rfl, hB5, hb5, _⟩
            have H5 := Lib.hid (H4.out.trans hb5); clear hb5
            rw [Lib.strCells_eq, ← Lib.byteCells_append, ← app_list] at hB5
            have HB5 := Lib.hid hB5; clear hB5
            go_wp2_with (fail)
            go_roundw
            case rel => exact ⟨k + 1, by go_num, by omega, HN.out, by rw [← HA.out]; exact .inr HB5.out, H5.out⟩
            case measure => simp [intOf]; omega
          · have h2i : ¬ (s.size : Int) = 512 := by omega
            have hh3 : ¬ (8192 : Int) ≤ i := by omega
            have hh2 : ¬ i < 0 := by omega
            have hbad : okW (i, s) = false := decide_eq_false (show ¬ (0 ≤ i ∧ i < 8192 ∧ s.size = 512) by omega)
            have HNO := Lib.hid (all_bad HAT.out hbad)
            have HX := Lib.hid (HBL.out.alloc HBL.out.size (.cells #[.int .i64 i, .string s] 40))
            go_wp2
            go_ret2
            exact ⟨by rw [wroteV_bad h HNO.out]; rfl, HX.out⟩
        · have hh3 : (8192 : Int) ≤ i := by omega
          have hh2 : ¬ i < 0 := by omega
          have hbad : okW (i, s) = false := decide_eq_false (show ¬ (0 ≤ i ∧ i < 8192 ∧ s.size = 512) by omega)
          have HNO := Lib.hid (all_bad HAT.out hbad)
          have HX := Lib.hid (HBL.out.alloc HBL.out.size (.cells #[.int .i64 i, .string s] 40))
          go_wp2
          go_ret2
          exact ⟨by rw [wroteV_bad h HNO.out]; rfl, HX.out⟩
      · have hh2 : i < 0 := by omega
        have hbad : okW (i, s) = false := decide_eq_false (show ¬ (0 ≤ i ∧ i < 8192 ∧ s.size = 512) by omega)
        have HNO := Lib.hid (all_bad HAT.out hbad)
        have HX := Lib.hid (HBL.out.alloc HBL.out.size (.cells #[.int .i64 i, .string s] 40))
        go_wp2
        go_ret2
        exact ⟨by rw [wroteV_bad h HNO.out]; rfl, HX.out⟩
    · obtain rfl : k = l.length := by omega
      have hall := HAL.out
      rw [List.take_length] at hall
      have HALL := Lib.hid hall; clear hall
      have hacc : accW l l.length = textW l := by unfold accW textW; rw [List.take_length]
      have HC := Lib.hid hacc; clear hacc
      go_wp2_with (fail)
      refine (Tryd.Builder_String_any_k _ _ _ _ HD.out HBL.out.size).mono ?_; rintro e w2 ⟨rfl, hb2⟩
      have H3 := Lib.hid (HBL.out.trans hb2); clear hb2
      go_wp2
      go_ret2
      exact ⟨by rw [wroteV_ok h HALL.out, ← HC.out]; rfl, H3.out⟩
theorem writes_any (A : Option Addr) (c : Nat) (l : List Wr) (w : World) (hl : Wrs w A l) :
    Calls Tryd.prog 16 #[.slice A l.length c] w fun e w' => e = .returned (wroteV l) ∧ Below w.heap.size w w' := by
  by_cases h : 80 < l.length
  · rw [wroteV_many h]
    exact (writes_many A c l w h).mono fun e w' ⟨he, hw⟩ => ⟨he, by rw [← hw]; exact Below.refl _ _⟩
  · exact writes_in A c l w hl (by omega)
end Go.Proofs.YtoejfkalgmdjcaaDoor
