/- Commands and the lists of changes, as plain functions. -/
import Derived.Test.YtdggipgieanpeaaDoorCdA
import Derived.Test.YtdggipgieanpeaaDoorDevMem
namespace Go.Proofs.YtdggipgieanpeaaDoor
open Go.RowKit
/-- A command. -/
structure Kc where
  op : Int
  lu : Int
  ho : ByteArray
  lb : Int
  bl : Int
  da : ByteArray
  fu : Bool
  rA : Option Addr
  rn : Nat
  rc : Nat
  ke : Nat
  nk : Nat
  ot : Nat
  ty : Int
  ig : Bool
  ap : Int
abbrev kcC (c : Kc) : Array Value := #[.int .i64 c.op, .int .i64 c.lu, .string c.ho, .int .i64 c.lb, .int .i64 c.bl, .string c.da, .bool c.fu, .slice c.rA c.rn c.rc, .int .u64 (c.ke : Int), .int .u64 (c.nk : Int), .int .u64 (c.ot : Int), .int .i64 c.ty, .bool c.ig, .int .i64 c.ap]
abbrev kcV (c : Kc) : Value := .agg (kcC c)
def zK : Kc := ⟨0, 0, ⟨#[]⟩, 0, 0, ⟨#[]⟩, false, none, 0, 0, 0, 0, 0, 0, false, 0⟩
theorem kc_info : (Tryd.prog.info? 43).map (·.size) = some 14 := by kernel_rfl
theorem kcC_one (c : Kc) : (kcC c).all (·.oneCell') = true := by simp [kcC, Value.oneCell']
/-- What is asked with an action. -/
def cmO (a t : Int) (key oth : Nat) (on : Bool) : Kc :=
  if a = 0 then { zK with op := 8, ke := key, nk := oth, ap := if on then 2 else 1 }
  else if a = 6 then { zK with op := 8, nk := oth, ig := true, ap := if on then 2 else 1 }
  else if a = 1 then { zK with op := 9, ke := key, ty := t }
  else if a = 2 then { zK with op := 10, ke := key, ty := t }
  else if a = 3 then { zK with op := 11, ke := key }
  else { zK with op := 12, ke := key, ot := oth, ty := t }
/-- Each byte behind the keys: 0, but the Aptpl's may be 1. -/
def tlOk (s : ByteArray) (j : Nat) : Prop := byt s j = 0 ∨ (j = 20 ∧ byt s j = 1)
instance (s : ByteArray) (j : Nat) : Decidable (tlOk s j) := inferInstanceAs (Decidable (_ ∨ _))
def tailOk (s : ByteArray) : Prop := ∀ j, j < 24 → 16 ≤ j → tlOk s j
instance (s : ByteArray) : Decidable (tailOk s) := inferInstanceAs (Decidable (∀ j, j < 24 → 16 ≤ j → tlOk s j))
/-- What is wrong with an action, a type and a list's numbers. -/
def badB (a t : Int) (oth : Nat) (on : Bool) : Bool :=
  (on && (a != 0) && (a != 6)) || ((oth != 0) && decide (1 ≤ a) && decide (a ≤ 3)) || ((t != 0) && ((a == 0) || (a == 3) || (a == 6)))
def onB (s : ByteArray) : Bool := byt s 20 == 1
def headOk (a : Int) (s : ByteArray) : Prop := s.size = 24 ∧ 0 ≤ a ∧ a ≤ 6 ∧ a ≠ 5
instance (a : Int) (s : ByteArray) : Decidable (headOk a s) := inferInstanceAs (Decidable (_ ∧ _))
/-- The command of a list, or none. -/
def chX (a t : Int) (s : ByteArray) : Option Kc :=
  if headOk a s ∧ tailOk s ∧ badB a t (big s 8 8) (onB s) = false then some (cmO a t (big s 0 8) (big s 8 8) (onB s)) else none
def chV (o : Option Kc) : Value := .tuple #[kcV (o.getD zK), .int .i64 (if o.isSome = true then 0 else 180)]
def oS (on : Nat) : ByteArray := ⟨#[0, 0, 0, 0, UInt8.ofNat on, 0, 0, 0]⟩
def lsS (key oth on : Nat) : ByteArray := putHi key (8 : Nat) ++ putHi oth (8 : Nat) ++ oS on
def acO (c : Kc) : Option Int := if c.op = 8 then some (if c.ig then 6 else 0) else if c.op = 9 then some 1 else if c.op = 10 then some 2 else if c.op = 11 then some 3 else if c.op = 12 then some 4 else none
def otO (c : Kc) : Nat := if c.op = 8 then c.nk else c.ot
def onO (c : Kc) : Nat := if c.op = 8 ∧ c.ap = 2 then 1 else 0
def lsO (c : Kc) : ByteArray := lsS c.ke (otO c) (onO c)
/-- Are two commands alike, the second one without ranges? -/
def sameK (c d : Kc) : Bool :=
  (c.op == d.op) && (c.lu == d.lu) && (c.ho.toList == d.ho.toList) && (c.lb == d.lb) && (c.bl == d.bl) && (c.da.toList == d.da.toList) && (c.fu == d.fu) && (c.rn == 0) && (c.ke == d.ke) && (c.nk == d.nk) && (c.ot == d.ot) && (c.ty == d.ty) && (c.ig == d.ig) && (c.ap == d.ap)
/-- The action and the list of a command, or none. -/
def liX (c : Kc) : Option (Int × ByteArray) :=
  match acO c with
  | none => none
  | some a => match chX a c.ty (lsO c) with
    | none => none
    | some d => if sameK c d = true then some (a, lsO c) else none
theorem big_putHi18 (x n : Nat) (h1 : 1 ≤ n) (h8 : n ≤ 8) : big (putHi x (n : Nat)) 0 n = x % 256 ^ n := by
  unfold big
  rw [bigV_congr _ (fun i => x / 256 ^ (n - (i + 1)) % 256) n (fun i hi => ?_), bigV_back x n n (Nat.le_refl _)]
  · simp
  · unfold readV
    rw [Nat.zero_add, byt_put x n i h1 h8 hi]
theorem oS_size (on : Nat) : (oS on).size = 8 := rfl
theorem put8 (x : Nat) : (putHi x ((8 : Nat) : Int)).size = 8 := putHi_size x 8 (by decide) (by decide)
theorem lsS_size (k o n : Nat) : (lsS k o n).size = 24 := by
  unfold lsS
  rw [ByteArray.size_append, ByteArray.size_append, put8, put8, oS_size]
theorem lsS_key {k : Nat} (h : k < 18446744073709551616) (o n : Nat) : big (lsS k o n) 0 8 = k := by
  have e := big_putHi18 k 8 (by decide) (by decide)
  rw [Nat.mod_eq_of_lt (by simpa using h)] at e
  refine Eq.trans (big_same fun i _ hi => ?_) e
  unfold lsS
  rw [byt_app_left _ _ _ (by rw [ByteArray.size_append, put8, put8]; omega), byt_app_left _ _ _ (by rw [put8]; omega)]
theorem lsS_oth {o : Nat} (h : o < 18446744073709551616) (k n : Nat) : big (lsS k o n) 8 8 = o := by
  have e := big_putHi18 o 8 (by decide) (by decide)
  rw [Nat.mod_eq_of_lt (by simpa using h)] at e
  refine Eq.trans ?_ e
  unfold big
  refine bigV_congr _ _ 8 fun i hi => ?_
  unfold readV lsS
  rw [byt_app_left _ _ _ (by rw [ByteArray.size_append, put8, put8]; omega)]
  have := byt_app_right (putHi k ((8 : Nat) : Int)) (putHi o ((8 : Nat) : Int)) i
  rw [put8] at this
  rw [this, Nat.zero_add]
theorem lsS_tail (k o n i : Nat) : byt (lsS k o n) (16 + i) = byt (oS n) i := by
  unfold lsS
  have := byt_app_right (putHi k ((8 : Nat) : Int) ++ putHi o ((8 : Nat) : Int)) (oS n) i
  rw [ByteArray.size_append, put8, put8] at this
  exact this
theorem lsS_on {n : Nat} (h : n ≤ 1) (k o : Nat) : onB (lsS k o n) = (n == 1) ∧ tailOk (lsS k o n) := by
  have hn : n = 0 ∨ n = 1 := by omega
  constructor
  · unfold onB
    rw [lsS_tail k o n 4]
    rcases hn with rfl | rfl <;> rfl
  · intro j hj hj2
    obtain ⟨i, rfl⟩ : ∃ i, j = 16 + i := ⟨j - 16, by omega⟩
    unfold tlOk
    rw [lsS_tail]
    have : i = 0 ∨ i = 1 ∨ i = 2 ∨ i = 3 ∨ i = 4 ∨ i = 5 ∨ i = 6 ∨ i = 7 := by omega
    rcases this with rfl | rfl | rfl | rfl | rfl | rfl | rfl | rfl
    all_goals first | exact .inl rfl | skip
    rcases hn with rfl | rfl
    · exact .inl rfl
    · exact .inr ⟨rfl, rfl⟩
theorem onO_le (c : Kc) : onO c ≤ 1 := by unfold onO; split <;> omega
/-- What a list was made of is what is read of it. -/
theorem li_ch {c : Kc} {a : Int} {s : ByteArray} (h : liX c = some (a, s)) : s = lsO c ∧ ∃ d, chX a c.ty s = some d ∧ sameK c d = true := by
  unfold liX at h
  split at h
  · cases h
  · split at h
    · cases h
    · rename_i d hd
      split at h
      · rename_i hs
        have e := Prod.mk.inj (Option.some.inj h)
        rw [← e.1, ← e.2]
        exact ⟨rfl, d, hd, hs⟩
      · cases h
theorem sameK_self {c : Kc} (h : c.rn = 0) : sameK c c = true := by unfold sameK; simp [h]
theorem ch_li {a t : Int} {s : ByteArray} {d : Kc} (h : chX a t s = some d) : ∃ u, liX d = some (a, u) ∧ chX a d.ty u = some d ∧ d.rn = 0 ∧ u.size = 24 := by
  unfold chX at h
  split at h
  · rename_i hc
    obtain ⟨⟨h24, ha0, ha6, ha5⟩, htl, hbad⟩ := hc
    have hd := Option.some.inj h
    have b0 : big s 0 8 < 18446744073709551616 := by have := big_lt s 0 8; simpa using this
    have b8 : big s 8 8 < 18446744073709551616 := by have := big_lt s 8 8; simpa using this
    generalize big s 0 8 = key at *
    generalize big s 8 8 = oth at *
    generalize onB s = on at *
    have ha : a = 0 ∨ a = 1 ∨ a = 2 ∨ a = 3 ∨ a = 4 ∨ a = 6 := by omega
    have key_ : acO d = some a ∧ otO d < 18446744073709551616 ∧ d.ke < 18446744073709551616 ∧ d.rn = 0 ∧ badB a d.ty (otO d) (onO d == 1) = false ∧ cmO a d.ty d.ke (otO d) (onO d == 1) = d := by
      subst hd
      rcases ha with rfl | rfl | rfl | rfl | rfl | rfl
      · cases on <;> exact ⟨rfl, b8, b0, rfl, by simp [badB, cmO, otO, onO, zK], rfl⟩
      · have ho : on = false := by cases on; rfl; simp [badB] at hbad
        have h0 : oth = 0 := by simpa [badB, ho] using hbad
        subst ho h0
        exact ⟨rfl, by simp [cmO, otO, zK], b0, rfl, by simp [badB, cmO, otO, onO, zK], rfl⟩
      · have ho : on = false := by cases on; rfl; simp [badB] at hbad
        have h0 : oth = 0 := by simpa [badB, ho] using hbad
        subst ho h0
        exact ⟨rfl, by simp [cmO, otO, zK], b0, rfl, by simp [badB, cmO, otO, onO, zK], rfl⟩
      · have ho : on = false := by cases on; rfl; simp [badB] at hbad
        have h0 : oth = 0 ∧ t = 0 := by simpa [badB, ho] using hbad
        obtain ⟨h0, h1⟩ := h0
        subst ho h0 h1
        exact ⟨rfl, by simp [cmO, otO, zK], b0, rfl, by simp [badB, cmO, otO, onO, zK], rfl⟩
      · have ho : on = false := by cases on; rfl; simp [badB] at hbad
        subst ho
        exact ⟨rfl, b8, b0, rfl, by simp [badB, cmO, otO, onO, zK], rfl⟩
      · cases on <;> exact ⟨rfl, b8, by simp [cmO, zK], rfl, by simp [badB, cmO, otO, onO, zK], rfl⟩
    obtain ⟨k1, k2, k3, k4, k5, k6⟩ := key_
    obtain ⟨t1, t2⟩ := lsS_on (onO_le d) d.ke (otO d)
    have hch : chX a d.ty (lsO d) = some d := by
      unfold chX lsO
      rw [lsS_key k3, lsS_oth k2, t1, if_pos ⟨⟨lsS_size _ _ _, ha0, ha6, ha5⟩, t2, k5⟩, k6]
    refine ⟨lsO d, ?_, hch, k4, lsS_size _ _ _⟩
    unfold liX
    rw [k1]
    dsimp only
    rw [hch]
    dsimp only
    rw [if_pos (sameK_self k4)]
  · cases h
end Go.Proofs.YtdggipgieanpeaaDoor
