/- headgatekeep.Texts. The small example. -/
import Derived.Test.YtglfjlbhjaemgaaGreatDoorPl25
namespace Go.Proofs.YtglfjlbhjaemgaaGreatDoor
open Go.RowKit
/-- Texts that can be read. -/
def Seen (w : World) (A : Option Addr) (xs : List ByteArray) : Prop := ∀ i s, xs[i]? = some s → ∃ b o, A = some ⟨b, o, none⟩ ∧ w.cell? ⟨b, o + i, none⟩ = some (.string s)
theorem Recs.seen {w : World} {A : Option Addr} {n c : Nat} {xs : List ByteArray} (h : Recs w (.slice A n c) xs) : Seen w A xs := fun _ _ hi => h.cell hi
theorem Seen.below {w w' : World} {A : Option Addr} {xs : List ByteArray} (h : Seen w A xs) (hb : Below w.heap.size w w') : Seen w' A xs := fun i s hi => by
  obtain ⟨b, o, e, hc⟩ := h i s hi
  exact ⟨b, o, e, (hb.cell (p := ⟨b, o + i, none⟩) (World.block_lt_of_cell? _ _ hc)).trans hc⟩
theorem Seen.only {S : Nat → Prop} {w w' : World} {A : Option Addr} {xs : List ByteArray} (h : Seen w A xs) (ho : Only S w w') (hs : ∀ a, A = some a → ¬ S a.block) : Seen w' A xs := fun i s hi => by
  obtain ⟨b, o, e, hc⟩ := h i s hi
  exact ⟨b, o, e, ho.cell hc (show ¬ S b from hs ⟨b, o, none⟩ e)⟩
def TkAt (w : World) (xs ys : List ByteArray) (c : Value) (wr : World) : Prop := ∃ k : Nat, c = .int .i64 (k : Int) ∧ k ≤ xs.length ∧ xs.take k = ys.take k ∧ Below w.heap.size w wr
theorem texts_any (w : World) (A B : Option Addr) (ca cb : Nat) (xs ys : List ByteArray) (ha : Seen w A xs) (hb : Seen w B ys) (hx : xs.length ≤ 140737488355328) :
    Calls Tryz.prog 84 #[.slice A xs.length ca, .slice B ys.length cb] w fun e w' => e = .returned (.bool (decide (xs = ys))) ∧ Below w.heap.size w w' := by
  by_cases hl : xs.length = ys.length
  · have hli : ((xs.length : Int) == (ys.length : Int)) = true := by rw [beq_iff_eq]; omega
    have hln : ((xs.length : Int) != (ys.length : Int)) = false := by rw [bne_eq_false_iff_eq]; omega
    have HL := Lib.hid hl
    have HB0 := Lib.hid (Below.refl w.heap.size w)
    clear hl
    go_enter Tryz.func84, Tryz.ntmps84
    go_wp2_with (fail)
    go_loopw [5] (fun c wr => TkAt w xs ys c wr) (fun c _ => xs.length - (intOf c).toNat)
    case atStart => exact ⟨0, rfl, Nat.zero_le _, by simp, HB0.out⟩
    case round =>
      obtain ⟨k, rfl, hk, hp, hbl⟩ := hrel
      by_cases hlt : k < xs.length
      · obtain ⟨s, hs⟩ : ∃ s, xs[k]? = some s := ⟨_, List.getElem?_eq_getElem hlt⟩
        obtain ⟨t, ht⟩ : ∃ t, ys[k]? = some t := ⟨_, List.getElem?_eq_getElem (by rw [← HL.out]; exact hlt)⟩
        obtain ⟨b1, o1, rfl, c1⟩ := ha k s hs
        obtain ⟨b2, o2, rfl, c2⟩ := hb k t ht
        have d1 := (hbl.cell (p := ⟨b1, o1 + k, none⟩) (World.block_lt_of_cell? _ _ c1)).trans c1
        have d2 := (hbl.cell (p := ⟨b2, o2 + k, none⟩) (World.block_lt_of_cell? _ _ c2)).trans c2
        have x1 : (k : Int) < xs.length := by omega
        have x2 : (k : Int) < ys.length := by rw [← HL.out]; exact x1
        have x0 : (0 : Int) ≤ k := by omega
        have HBL := Lib.hid hbl
        have HP := Lib.hid hp
        clear hbl hp c1 c2
        by_cases hst : s = t
        · subst hst
          have hq : (s.toList == s.toList) = true := by simp
          have HN := Lib.hid (show xs.take (k + 1) = ys.take (k + 1) by rw [List.take_add_one, List.take_add_one, hs, ht, HP.out])
          clear hs ht
          go_upto_region 6 with (fail)
          go_quiet (fail)
          go_wp2_with (fail)
          go_roundw
          case rel => exact ⟨k + 1, by go_num, by omega, HN.out, HBL.out.trans (belDrew _ _ nq)⟩
          case measure => simp [intOf]; omega
        · have hq : (s.toList == t.toList) = false := by rw [beqS]; exact decide_eq_false hst
          have HV := Lib.hid (show decide (xs = ys) = false from decide_eq_false fun e => hst (by subst e; rw [hs] at ht; exact Option.some.inj ht))
          clear hs ht hst
          go_upto_region 6 with (fail)
          go_quiet (fail)
          go_wp2_with (fail)
          go_ret
          exact ⟨by rw [HV.out]; rfl, HBL.out.trans (belDrew _ _ nq)⟩
      · obtain rfl : k = xs.length := by omega
        have HV := Lib.hid (show decide (xs = ys) = true from decide_eq_true (by rw [List.take_length] at hp; rw [hp, HL.out, List.take_length]))
        have HBL := Lib.hid hbl
        clear hbl hp
        go_wp2_with (fail)
        go_ret
        exact ⟨by rw [HV.out]; rfl, HBL.out⟩
  · have hln : ((xs.length : Int) != (ys.length : Int)) = true := by rw [bne_iff_ne]; omega
    have hln2 : ¬ ((xs.length : Int) = (ys.length : Int)) := by omega
    have HV := Lib.hid (show decide (xs = ys) = false from decide_eq_false fun e => hl (by rw [e]))
    have HB0 := Lib.hid (Below.refl w.heap.size w)
    clear hl
    go_enter Tryz.func84, Tryz.ntmps84
    go_wp2_with (fail)
    go_ret
    exact ⟨by rw [HV.out]; rfl, HB0.out⟩
theorem below_go {w a b : World} {S : Nat → Prop} (h : Below w.heap.size w a) (ho : Only S a b) (hs : ∀ k, S k → w.heap.size ≤ k) : Below w.heap.size w b := h.trans (ho.toBelow h.size hs)
theorem grew_lo {B : Nat} {a : World} {S T : Nat → Prop} (h : Grew S a T) (hs : ∀ k, S k → B ≤ k) (hB : B ≤ a.heap.size) : ∀ k, T k → B ≤ k := fun k hk => (h k hk).elim (hs k) (Nat.le_trans hB)
theorem lo_far {w : World} {S : Nat → Prop} (ht : Tab w) (hs : ∀ k, S k → w.heap.size ≤ k) : ¬ S gTab := fun hk => absurd ht.pos (Nat.not_lt.2 (hs _ hk))
/-- A device and a journal above a world. -/
structure Up (w0 w : World) (p q n : Nat) (x : St) (j : Jn) : Prop where
  jd : ∃ S, JD w S p q n x j ∧ ∀ k, S k → w0.heap.size ≤ k
  below : Below w0.heap.size w0 w
theorem Up.go {w0 w w' : World} {p q n : Nat} {x y : St} {j i : Jn} (h : Up w0 w p q n x j) (k : ∀ S, JD w S p q n x j → JOut S w p q n y i w') : Up w0 w' p q n y i := by
  obtain ⟨S, hj, hs⟩ := h.jd
  obtain ⟨S', hj', ho, hg⟩ := k S hj
  exact ⟨⟨S', hj', grew_lo hg hs h.below.size⟩, below_go h.below ho hs⟩
theorem Up.more {w0 w w' : World} {p q n : Nat} {x : St} {j : Jn} (h : Up w0 w p q n x j) (hb : Below w.heap.size w w') : Up w0 w' p q n x j := h.go fun _ hj => JOut.below hj hb
end Go.Proofs.YtglfjlbhjaemgaaGreatDoor
