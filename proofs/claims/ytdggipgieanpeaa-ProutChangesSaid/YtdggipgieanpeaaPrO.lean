/- The kinds of changes and the parts of a list, as plain functions: the code's way, and that it is the document's. -/
import Derived.Test.YtdggipgieanpeaaPrE
namespace Go.Proofs.Ytdggipgieanpeaa.Pc
open Go.RowKit
/-- A kind of changes. -/
structure Kd where
  op : Int
  se : Int
  ty : Bool
  st : Bool
  ig : Bool
abbrev kdC (k : Kd) : Array Value := #[.int .i64 k.op, .int .i64 k.se, .bool k.ty, .bool k.st, .bool k.ig]
abbrev kdV (k : Kd) : Value := .agg (kdC k)
/-- What a list has in it. -/
structure Ls where
  k : Nat
  s : Nat
  a : Bool
structure Ls.Wf (l : Ls) : Prop where
  k : l.k < 18446744073709551616
  s : l.s < 18446744073709551616
abbrev lsC (l : Ls) : Array Value := #[.int .u64 (l.k : Int), .int .u64 (l.s : Int), .bool l.a]
abbrev lsV (l : Ls) : Value := .agg (lsC l)
def zKd : Kd := ⟨0, 0, false, false, false⟩
def zLs : Ls := ⟨0, 0, false⟩
def kd : Nat → Kd
  | 0 => ⟨8, 1, false, true, false⟩
  | 1 => ⟨9, 0, true, false, false⟩
  | 2 => ⟨10, 0, true, false, false⟩
  | 3 => ⟨11, 0, false, false, false⟩
  | 4 => ⟨12, 2, true, false, false⟩
  | 6 => ⟨8, 1, false, true, true⟩
  | _ => zKd
def kdOf (a : Int) : Kd := if 0 ≤ a ∧ a < 7 then kd a.toNat else zKd
def alB (k : Kd) (t : Int) (l : Ls) : Bool := if (t != 0) && !k.ty then false else if (l.s != 0) && (k.se == 0) then false else (k.st || !l.a)
def cmK (k : Kd) (t : Int) (l : Ls) : Kc :=
  { zK with op := k.op, ke := if k.ig = true then 0 else l.k, nk := if k.se = 1 then l.s else 0, ot := if k.se = 2 then l.s else 0, ty := t, ig := k.ig, ap := if k.st = true then (if l.a = true then 2 else 1) else 0 }
def liK (k : Kd) (c : Kc) : Ls := ⟨c.ke, if k.se = 1 then c.nk else if k.se = 2 then c.ot else 0, c.ap == 2⟩
def wrL (l : Ls) : ByteArray := lsS l.k l.s (if l.a = true then 1 else 0)
def rdL (s : ByteArray) : Ls := ⟨big s 0 8, big s 8 8, byt s 20 % 2 == 1⟩
def isL (s : ByteArray) : Bool := decide (s.size = 24 ∧ tailOk s)
theorem wrL_size (l : Ls) : (wrL l).size = 24 := lsS_size _ _ _
theorem rdL_wf (s : ByteArray) : (rdL s).Wf := ⟨Nat.lt_of_lt_of_eq (big_lt s 0 8) (by decide), Nat.lt_of_lt_of_eq (big_lt s 8 8) (by decide)⟩
theorem liK_wf {c : Kc} (h : c.Wf) (k : Kd) : (liK k c).Wf := ⟨h.ke, by unfold liK; dsimp only; split; exact h.nk; split; exact h.ot; decide⟩
theorem byt_ext {s t : ByteArray} (hz : s.size = t.size) (h : ∀ i, i < s.size → byt s i = byt t i) : s = t := by
  apply ByteArray.ext
  apply Array.ext (by simpa using hz)
  intro i h1 h2
  have := h i (by simpa using h1)
  rw [byt_eq s i (by simpa using h1), byt_eq t i (by simpa using h2)] at this
  exact UInt8.toNat_inj.1 this
theorem wr_key {l : Ls} (h : l.Wf) : big (wrL l) 0 8 = l.k ∧ big (wrL l) 8 8 = l.s := ⟨lsS_key h.k _ _, lsS_oth h.s _ _⟩
theorem wr_tail (l : Ls) : onB (wrL l) = l.a ∧ tailOk (wrL l) := by
  have := lsS_on (n := if l.a = true then 1 else 0) (by split <;> omega) l.k l.s
  refine ⟨this.1.trans ?_, this.2⟩
  cases l.a <;> rfl
theorem bigV_at (f : Nat → Nat) (hf : ∀ i, f i < 256) : ∀ n i, i < n → bigV f n / 256 ^ (n - (i + 1)) % 256 = f i
  | 0, i, h => by omega
  | n + 1, i, h => by
    by_cases e : i = n
    · subst e
      rw [Nat.sub_self, Nat.pow_zero, Nat.div_one]
      show (bigV f i * 256 + f i) % 256 = f i
      have := hf i
      omega
    · have ih := bigV_at f hf n i (by omega)
      rw [show n + 1 - (i + 1) = (n - (i + 1)) + 1 by omega, Nat.pow_succ, Nat.mul_comm, ← Nat.div_div_eq_div_mul]
      show (bigV f n * 256 + f n) / 256 / 256 ^ (n - (i + 1)) % 256 = f i
      rw [show (bigV f n * 256 + f n) / 256 = bigV f n by have := hf n; omega]
      exact ih
theorem put_big {s : ByteArray} {a i : Nat} (hi : i < 8) : byt (putHi (big s a 8) ((8 : Nat) : Int)) i = byt s (a + i) := by
  rw [byt_put _ 8 i (by decide) (by decide) hi]
  exact bigV_at (readV s a) (readV_lt s a) 8 i hi
theorem rd_wr {s : ByteArray} (hs : s.size = 24) (h : tailOk s) : wrL (rdL s) = s := by
  have h20 := h 20 (by decide) (by decide)
  refine byt_ext (by rw [wrL_size, hs]) fun i hi => ?_
  rw [wrL_size] at hi
  by_cases h1 : i < 16
  · have e : byt (wrL (rdL s)) i = byt (putHi (big s 0 8) ((8 : Nat) : Int) ++ putHi (big s 8 8) ((8 : Nat) : Int)) i :=
      byt_app_left _ _ _ (by rw [ByteArray.size_append, put8, put8]; omega)
    rw [e]
    by_cases h2 : i < 8
    · rw [byt_app_left _ _ _ (by rw [put8]; omega), put_big h2, Nat.zero_add]
    · obtain ⟨j, rfl⟩ : ∃ j, i = 8 + j := ⟨i - 8, by omega⟩
      have := byt_app_right (putHi (big s 0 8) ((8 : Nat) : Int)) (putHi (big s 8 8) ((8 : Nat) : Int)) j
      rw [put8] at this
      rw [this, put_big (by omega)]
  · obtain ⟨j, rfl⟩ : ∃ j, i = 16 + j := ⟨i - 16, by omega⟩
    have e := lsS_tail (big s 0 8) (big s 8 8) (if (rdL s).a = true then 1 else 0) j
    refine Eq.trans e ?_
    have hj := h (16 + j) (by omega) (by omega)
    have : j = 0 ∨ j = 1 ∨ j = 2 ∨ j = 3 ∨ j = 4 ∨ j = 5 ∨ j = 6 ∨ j = 7 := by omega
    rcases this with rfl | rfl | rfl | rfl | rfl | rfl | rfl | rfl
    case inr.inr.inr.inr.inl =>
      rcases h20 with h20 | ⟨_, h20⟩
      · have ha : (rdL s).a = false := by show (byt s 20 % 2 == 1) = false; rw [h20]; rfl
        rw [ha, h20]; rfl
      · have ha : (rdL s).a = true := by show (byt s 20 % 2 == 1) = true; rw [h20]; rfl
        rw [ha, h20]; rfl
    all_goals
      rcases hj with hj | ⟨hj, _⟩
      · rw [hj]; rfl
      · omega
theorem is_iff {s : ByteArray} (hs : s.size = 24) : isL s = true ↔ wrL (rdL s) = s := by
  unfold isL
  rw [decide_eq_true_iff]
  constructor
  · rintro ⟨_, h⟩; exact rd_wr hs h
  · intro h; exact ⟨hs, by rw [← h]; exact (wr_tail _).2⟩
theorem is_no {s : ByteArray} (hs : ¬ s.size = 24) : isL s = false := decide_eq_false (fun h => hs h.1)
/-! The command of a list. -/
theorem on_same {s : ByteArray} (h : tailOk s) : onB s = (rdL s).a := by
  show (byt s 20 == 1) = (byt s 20 % 2 == 1)
  rcases h 20 (by decide) (by decide) with h | ⟨_, h⟩ <;> rw [h] <;> rfl
theorem kd_of {a : Int} (h0 : 0 ≤ a) (h6 : a ≤ 6) : kdOf a = kd a.toNat := by unfold kdOf; rw [if_pos ⟨h0, by omega⟩]
theorem ch_code (a t : Int) (s : ByteArray) : chX a t s = if (kdOf a).op ≠ 0 ∧ isL s = true ∧ alB (kdOf a) t (rdL s) = true then some (cmK (kdOf a) t (rdL s)) else none := by
  by_cases hr : 0 ≤ a ∧ a ≤ 6
  case neg =>
    have h1 : (kdOf a).op = 0 := by unfold kdOf; rw [if_neg (by omega)]; rfl
    rw [if_neg (fun h => h.1 h1)]
    unfold chX
    rw [if_neg (fun h => hr ⟨h.1.2.1, h.1.2.2.1⟩)]
  obtain ⟨h0, h6⟩ := hr
  by_cases hs : s.size = 24
  case neg =>
    rw [if_neg (fun h => by rw [is_no hs] at h; exact absurd h.2.1 (by decide))]
    unfold chX
    rw [if_neg (fun h => hs h.1.1)]
  by_cases ht : tailOk s
  case neg =>
    rw [if_neg (fun h => ht (of_decide_eq_true h.2.1).2)]
    unfold chX
    rw [if_neg (fun h => ht h.2.1)]
  have hi : isL s = true := decide_eq_true ⟨hs, ht⟩
  have ho := on_same ht
  rw [kd_of h0 h6, hi]
  unfold chX
  rw [ho, show big s 8 8 = (rdL s).s from rfl, show big s 0 8 = (rdL s).k from rfl]
  generalize rdL s = l
  obtain ⟨k, o, on⟩ := l
  have ha : a = 0 ∨ a = 1 ∨ a = 2 ∨ a = 3 ∨ a = 4 ∨ a = 5 ∨ a = 6 := by omega
  have hh : a ≠ 5 → headOk a s := fun h => ⟨hs, h0, h6, h⟩
  have h5 : a = 5 → ¬ headOk a s := fun h h' => h'.2.2.2 h
  by_cases hk : o = 0
  all_goals by_cases htt : t = 0
  all_goals rcases ha with rfl | rfl | rfl | rfl | rfl | rfl | rfl
  all_goals first
    | rw [if_neg (fun h => h5 rfl h.1), if_neg (fun h => h.1 rfl)]
    | have h1 := hh (by decide)
      cases on <;> simp [h1, ht, badB, hk, htt, kd, alB, cmK, cmO, zK]
/-! The list of a command. -/
theorem same_fields {c d : Kc} (h : sameK c d = true) : c.op = d.op ∧ c.ot = d.ot ∧ c.ig = d.ig ∧ c.ap = d.ap := by
  simp only [sameK, Bool.and_eq_true, beq_iff_eq] at h
  exact ⟨h.1.1.1.1.1.1.1.1.1.1.1.1.1, h.1.1.1.2, h.1.2, h.2⟩
theorem cm_same {c : Kc} {a : Nat} {key oth : Nat} {on : Bool} (ha : a = 0 ∨ a = 1 ∨ a = 2 ∨ a = 3 ∨ a = 4 ∨ a = 6) (h : sameK c (cmO (a : Int) c.ty key oth on) = true) : acO c = some (a : Int) ∧ lsO c = wrL (liK (kd a) c) := by
  obtain ⟨h1, h2, h3, h4⟩ := same_fields h
  clear h
  rcases ha with rfl | rfl | rfl | rfl | rfl | rfl
  all_goals cases on
  all_goals
    simp [cmO, zK] at h1 h2 h3 h4
    constructor
    · simp [acO, h1, h3]
    · simp [lsO, otO, onO, wrL, liK, kd, h1, h2, h4]
/-- Does this action's list bring the command? -/
def hitB (c : Kc) (a : Nat) : Bool :=
  match chX (a : Int) c.ty (wrL (liK (kd a) c)) with
  | none => false
  | some d => sameK c d
theorem ch_form {a : Nat} {t : Int} {s : ByteArray} {d : Kc} (h : chX (a : Int) t s = some d) : (a = 0 ∨ a = 1 ∨ a = 2 ∨ a = 3 ∨ a = 4 ∨ a = 6) ∧ d = cmO (a : Int) t (big s 0 8) (big s 8 8) (onB s) := by
  unfold chX at h
  split at h
  · rename_i hc
    obtain ⟨⟨_, h0, h6, h5⟩, _⟩ := hc
    exact ⟨by omega, (Option.some.inj h).symm⟩
  · cases h
theorem li_hit {c : Kc} {a : Nat} (h : hitB c a = true) : liX c = some ((a : Int), wrL (liK (kd a) c)) := by
  unfold hitB at h
  split at h
  · cases h
  · rename_i d hd
    obtain ⟨ha, e⟩ := ch_form hd
    rw [e] at h hd
    obtain ⟨h1, h2⟩ := cm_same ha h
    unfold liX
    rw [h1, h2]
    dsimp only
    rw [hd]
    dsimp only
    rw [if_pos h]
theorem hit_li {c : Kc} {i : Int} {s : ByteArray} (h : liX c = some (i, s)) : ∃ a : Nat, a < 7 ∧ hitB c a = true := by
  obtain ⟨rfl, d, hd, hs⟩ := li_ch h
  have hi : 0 ≤ i ∧ i ≤ 6 := by
    unfold chX at hd
    split at hd
    · rename_i hc; exact ⟨hc.1.2.1, hc.1.2.2.1⟩
    · cases hd
  obtain ⟨a, rfl⟩ : ∃ a : Nat, i = (a : Int) := ⟨i.toNat, by omega⟩
  obtain ⟨ha, e⟩ := ch_form hd
  refine ⟨a, by omega, ?_⟩
  have h2 := (cm_same ha (by rw [← e]; exact hs)).2
  unfold hitB
  rw [← h2, hd]
  exact hs
theorem li_none {c : Kc} (h : ∀ a, a < 7 → hitB c a = false) : liX c = none := by
  cases hl : liX c with
  | none => rfl
  | some p =>
    obtain ⟨a, ha, hh⟩ := hit_li (i := p.1) (s := p.2) hl
    rw [h a ha] at hh
    cases hh
end Go.Proofs.Ytdggipgieanpeaa.Pc
