/- The code's table of forms, and what it makes of a text: as plain functions; it comes to what the document says. -/
import Derived.Test.YtaachlijpgmjeaaDoorCdD
namespace Go.Proofs.YtaachlijpgmjeaaDoor
open Go.RowKit
/-- A row of the table of forms. -/
structure Fm where
  first : Nat
  size : Nat
  la : Nat
  ln : Nat
  ba : Nat
  bn : Nat
  wa : Nat
  wn : Nat
  nar : Bool
  must : Nat
  fua : Nat
  page : Nat
  acts : Nat
  typ : Nat
  emp : Nat
  lst : Nat
def zF : Fm := ⟨0, 0, 0, 0, 0, 0, 0, 0, false, 0, 0, 0, 0, 0, 0, 0⟩
def fmT : List Fm := [⟨0, 6, 0, 0, 0, 0, 0, 0, false, 0, 0, 0, 0, 0, 0, 0⟩, ⟨18, 6, 0, 0, 0, 0, 3, 2, false, 0, 0, 1, 0, 0, 0, 0⟩, ⟨37, 10, 0, 0, 0, 0, 0, 0, false, 0, 0, 0, 0, 0, 0, 0⟩, ⟨40, 10, 2, 4, 7, 2, 0, 0, false, 0, 0, 0, 0, 0, 0, 0⟩, ⟨136, 16, 2, 8, 10, 4, 0, 0, true, 0, 0, 0, 0, 0, 0, 0⟩, ⟨42, 10, 2, 4, 7, 2, 0, 0, false, 0, 8, 0, 0, 0, 0, 0⟩, ⟨138, 16, 2, 8, 10, 4, 0, 0, true, 0, 8, 0, 0, 0, 0, 0⟩, ⟨53, 10, 0, 0, 0, 0, 0, 0, false, 0, 0, 0, 0, 0, 0, 0⟩, ⟨66, 10, 0, 0, 0, 0, 7, 2, false, 0, 0, 0, 0, 0, 0, 0⟩, ⟨137, 16, 2, 8, 13, 1, 0, 0, true, 0, 0, 0, 0, 0, 0, 0⟩, ⟨147, 16, 2, 8, 10, 4, 0, 0, true, 1, 0, 0, 0, 0, 0, 0⟩, ⟨94, 10, 0, 0, 0, 0, 7, 2, false, 0, 0, 0, 3, 0, 0, 0⟩, ⟨95, 10, 0, 0, 0, 0, 5, 4, false, 0, 0, 0, 95, 22, 240, 24⟩, ⟨160, 12, 0, 0, 0, 0, 6, 4, false, 0, 0, 0, 0, 0, 0, 0⟩]
def fm (i : Nat) : Fm := fmT.getD i zF
/-- Where the form of a first byte stands. -/
def fmI (b : Int) : Option Nat := (List.range 14).find? fun i => ((fm i).first : Int) == b
/-- A number as the code reads it. -/
def nuI (s : ByteArray) (a n : Nat) : Int := IntKind.i64.wrap ((bigR s a n : Nat) : Int)
def bitN (v a : Nat) : Bool := v / 2 ^ a % 2 == 1
def readF (f : Fm) (s : ByteArray) : Ak :=
  { op := if f.acts = 0 then (f.first : Int) else ((256 * f.first + byt s 1 % 32 : Nat) : Int), lba := nuI s f.la f.ln, blk := nuI s f.ba f.bn, fu := !(byt s 1 &&& f.fua == 0),
     page := if byt s 1 &&& f.page = 0 then 0 else ((256 + byt s 2 : Nat) : Int), want := nuI s f.wa f.wn, ty := if bitN f.typ (byt s 1 % 32) = true then typN ((byt s 2 &&& (255 - f.emp) : Nat) : Int) else 0 }
def narB (n : Int) : Bool := decide (0 ≤ n ∧ n < 2147483648)
def allowF (f : Fm) (s : ByteArray) (x : Ak) : Bool :=
  if byt s 1 &&& f.must ≠ f.must then false
  else if byt s 2 &&& f.emp ≠ 0 then false
  else if f.acts ≠ 0 ∧ bitN f.acts (byt s 1 % 32) = false then false
  else if bitN f.typ (byt s 1 % 32) = true ∧ x.ty = 0 then false
  else if f.nar = true ∧ (narB x.lba && narB x.blk) = false then false
  else decide (f.lst = 0 ∨ x.want = f.lst)
/-- What the code makes of a text. -/
def codeP (s : ByteArray) : Option Ak :=
  if s.size = 0 then none
  else match fmI (byt s 0) with
    | none => none
    | some i => if s.size ≠ (fm i).size ∨ byt s ((fm i).size - 1) ≠ 0 then none else if allowF (fm i) s (readF (fm i) s) = true then some (readF (fm i) s) else none
theorem and_0 (x : Nat) : x &&& 0 = 0 := Nat.and_zero x
theorem and8 {x : Nat} (h : x < 256) : (!(x &&& 8 == 0)) = (x / 8 % 2 == 1) := (by decide +kernel : ∀ x, x < 256 → (!(x &&& 8 == 0)) = (x / 8 % 2 == 1)) x h
theorem and1 {x : Nat} (h : x < 256) : x &&& 1 = x % 2 := (by decide +kernel : ∀ x, x < 256 → x &&& 1 = x % 2) x h
theorem and240 {x : Nat} (h : x < 256) : (x &&& 240 = 0) ↔ ¬ 15 < x := (by decide +kernel : ∀ x, x < 256 → ((x &&& 240 = 0) ↔ ¬ 15 < x)) x h
theorem and15 {x : Nat} (h : x < 256) : x &&& (255 - 240) = x % 16 := (by decide +kernel : ∀ x, x < 256 → x &&& (255 - 240) = x % 16) x h
theorem bit3 {a : Nat} (h : a < 32) : bitN 3 a = decide (a ≤ 1) := (by decide +kernel : ∀ a, a < 32 → bitN 3 a = decide (a ≤ 1)) a h
theorem bit95 {a : Nat} (h : a < 32) : bitN 95 a = decide (¬ (6 < a ∨ a = 5)) := (by decide +kernel : ∀ a, a < 32 → bitN 95 a = decide (¬ (6 < a ∨ a = 5))) a h
theorem bit22 {a : Nat} (h : a < 32) : bitN 22 a = decide (a = 1 ∨ a = 2 ∨ a = 4) := (by decide +kernel : ∀ a, a < 32 → bitN 22 a = decide (a = 1 ∨ a = 2 ∨ a = 4)) a h
theorem bit0 (a : Nat) : bitN 0 a = false := by unfold bitN; rw [Nat.zero_div]; rfl
theorem nu0 (s : ByteArray) : nuI s 0 0 = 0 := by
  unfold nuI
  rw [show ((0 : Nat) : Int) = 0 from rfl, bigR_no (okB_no (by omega))]
  rfl
theorem nu_small {s : ByteArray} {a n : Nat} (h1 : 1 ≤ n) (h4 : n ≤ 4) (ha : a + n ≤ s.size) : nuI s a n = (big s a n : Int) := by
  unfold nuI
  rw [bigR_yes (okB_yes (by omega))]
  show IntKind.i64.wrap (big s a n : Int) = _
  have h := big_lt s a n
  have h2 : 256 ^ n ≤ 256 ^ 4 := Nat.pow_le_pow_right (by decide) h4
  exact IntWalk.i64_in _ (by omega)
theorem nu_eight {s : ByteArray} {a : Nat} (ha : a + 8 ≤ s.size) : (¬ 2147483648 ≤ big s a 8 → nuI s a 8 = (big s a 8 : Int)) ∧ narB (nuI s a 8) = decide (¬ 2147483648 ≤ big s a 8) := by
  have e : nuI s a 8 = IntKind.i64.wrap (big s a 8 : Int) := by
    unfold nuI
    rw [show ((8 : Nat) : Int) = (8 : Nat) from rfl, bigR_yes (okB_yes (by omega))]
    rfl
  have h := big_lt s a 8
  rw [e]
  unfold narB
  rw [IntKind.wrap_i64]
  generalize big s a 8 = b at *
  have h' : b < 18446744073709551616 := h
  refine ⟨fun hb => by omega, ?_⟩
  rw [decide_eq_decide]
  omega
theorem nar_blk {n : Nat} : narB (n : Int) = decide (¬ 2147483648 ≤ n) := by
  unfold narB
  rw [decide_eq_decide]
  omega
theorem fmI_no {b : Nat} (h : lenB b = 0) : fmI b = none := by
  cases hf : fmI (b : Int) with
  | none => rfl
  | some i =>
    have h1 := List.find?_some hf
    have h2 := List.mem_of_find?_eq_some hf
    rw [List.mem_range] at h2
    exfalso
    have hb : b = (fm i).first := by
      have : ((fm i).first : Int) = (b : Int) := by simpa using h1
      omega
    subst hb
    exact (by decide +kernel : ∀ i, i < 14 → lenB (fm i).first ≠ 0) i h2 h
theorem parse_no {s : ByteArray} (h : isB s = false) : parseS s = none := by
  unfold parseS
  rw [if_neg (by rw [h]; decide)]
theorem parse_yes {s : ByteArray} (h : isB s = true) : parseS s = ask s := by
  unfold parseS
  rw [if_pos h]
theorem isB_at {s : ByteArray} {b N : Nat} (h0 : s.size ≠ 0) (hb : byt s 0 = b) (hn : lenB b = N) (hN : N ≠ 0) : isB s = decide (¬ (s.size ≠ N ∨ byt s (N - 1) ≠ 0)) := by
  unfold isB
  rw [decide_eq_decide, lenS, if_neg h0, hb, hn]
  constructor
  · rintro ⟨_, h2, h3⟩
    rw [h2] at h3
    omega
  · intro h
    have h2 : s.size = N := by omega
    rw [h2]
    exact ⟨hN, rfl, by omega⟩
set_option maxRecDepth 10000 in
theorem cask_0 {s : ByteArray} (hb : byt s 0 = 0) (_hz : s.size = 6) : (if allowF (fm 0) s (readF (fm 0) s) = true then some (readF (fm 0) s) else none) = ask s := by
  have h1 := byt_lt s 1
  have h2 := byt_lt s 2
  have hr : readF (fm 0) s = ⟨0, 0, 0, false, 0, 0, 0⟩ := by
    unfold readF
    rw [show (if (fm 0).acts = 0 then ((fm 0).first : Int) else ((256 * (fm 0).first + byt s 1 % 32 : Nat) : Int)) = 0 from rfl,
      show nuI s (fm 0).la (fm 0).ln = 0 from nu0 s,
      show nuI s (fm 0).ba (fm 0).bn = 0 from nu0 s,
      show (!(byt s 1 &&& (fm 0).fua == 0)) = false from (show (!(byt s 1 &&& 0 == 0)) = false by rw [and_0]; rfl),
      show (if byt s 1 &&& (fm 0).page = 0 then (0 : Int) else ((256 + byt s 2 : Nat) : Int)) = 0 from (show (if byt s 1 &&& 0 = 0 then (0 : Int) else ((256 + byt s 2 : Nat) : Int)) = 0 by rw [and_0, if_pos rfl]),
      show nuI s (fm 0).wa (fm 0).wn = 0 from nu0 s,
      show (if bitN (fm 0).typ (byt s 1 % 32) = true then typN ((byt s 2 &&& (255 - (fm 0).emp) : Nat) : Int) else 0) = 0 from (show (if bitN 0 (byt s 1 % 32) = true then typN ((byt s 2 &&& (255 - 0) : Nat) : Int) else 0) = 0 by rw [bit0, if_neg (by decide)])]
  rw [hr]
  unfold allowF
  rw [show (fm 0).must = 0 from rfl, show (fm 0).emp = 0 from rfl, show (fm 0).acts = 0 from rfl, show (fm 0).typ = 0 from rfl, show (fm 0).nar = false from rfl, show (fm 0).lst = 0 from rfl]
  dsimp only
  unfold ask
  rw [hb]
  dsimp only
  rw [if_neg (show ¬ byt s 1 &&& 0 ≠ 0 by rw [and_0]; decide)]
  rw [if_neg (show ¬ byt s 2 &&& 0 ≠ 0 by rw [and_0]; decide)]
  rw [if_neg (show ¬ ((0 : Nat) ≠ 0 ∧ _) from fun h => h.1 rfl), if_neg (show ¬ (bitN 0 (byt s 1 % 32) = true ∧ _) from fun h => by rw [bit0] at h; exact absurd h.1 (by decide))]
  rw [if_neg (show ¬ (false = true ∧ _) from fun h => by cases h.1), if_pos (by exact decide_eq_true (.inl rfl))]
  rw [if_pos (by decide)]
  rfl
set_option maxRecDepth 10000 in
theorem cask_37 {s : ByteArray} (hb : byt s 0 = 37) (_hz : s.size = 10) : (if allowF (fm 2) s (readF (fm 2) s) = true then some (readF (fm 2) s) else none) = ask s := by
  have h1 := byt_lt s 1
  have h2 := byt_lt s 2
  have hr : readF (fm 2) s = ⟨37, 0, 0, false, 0, 0, 0⟩ := by
    unfold readF
    rw [show (if (fm 2).acts = 0 then ((fm 2).first : Int) else ((256 * (fm 2).first + byt s 1 % 32 : Nat) : Int)) = 37 from rfl,
      show nuI s (fm 2).la (fm 2).ln = 0 from nu0 s,
      show nuI s (fm 2).ba (fm 2).bn = 0 from nu0 s,
      show (!(byt s 1 &&& (fm 2).fua == 0)) = false from (show (!(byt s 1 &&& 0 == 0)) = false by rw [and_0]; rfl),
      show (if byt s 1 &&& (fm 2).page = 0 then (0 : Int) else ((256 + byt s 2 : Nat) : Int)) = 0 from (show (if byt s 1 &&& 0 = 0 then (0 : Int) else ((256 + byt s 2 : Nat) : Int)) = 0 by rw [and_0, if_pos rfl]),
      show nuI s (fm 2).wa (fm 2).wn = 0 from nu0 s,
      show (if bitN (fm 2).typ (byt s 1 % 32) = true then typN ((byt s 2 &&& (255 - (fm 2).emp) : Nat) : Int) else 0) = 0 from (show (if bitN 0 (byt s 1 % 32) = true then typN ((byt s 2 &&& (255 - 0) : Nat) : Int) else 0) = 0 by rw [bit0, if_neg (by decide)])]
  rw [hr]
  unfold allowF
  rw [show (fm 2).must = 0 from rfl, show (fm 2).emp = 0 from rfl, show (fm 2).acts = 0 from rfl, show (fm 2).typ = 0 from rfl, show (fm 2).nar = false from rfl, show (fm 2).lst = 0 from rfl]
  dsimp only
  unfold ask
  rw [hb]
  dsimp only
  rw [if_neg (show ¬ byt s 1 &&& 0 ≠ 0 by rw [and_0]; decide)]
  rw [if_neg (show ¬ byt s 2 &&& 0 ≠ 0 by rw [and_0]; decide)]
  rw [if_neg (show ¬ ((0 : Nat) ≠ 0 ∧ _) from fun h => h.1 rfl), if_neg (show ¬ (bitN 0 (byt s 1 % 32) = true ∧ _) from fun h => by rw [bit0] at h; exact absurd h.1 (by decide))]
  rw [if_neg (show ¬ (false = true ∧ _) from fun h => by cases h.1), if_pos (by exact decide_eq_true (.inl rfl))]
  rw [if_pos (by decide)]
  rfl
set_option maxRecDepth 10000 in
theorem cask_53 {s : ByteArray} (hb : byt s 0 = 53) (_hz : s.size = 10) : (if allowF (fm 7) s (readF (fm 7) s) = true then some (readF (fm 7) s) else none) = ask s := by
  have h1 := byt_lt s 1
  have h2 := byt_lt s 2
  have hr : readF (fm 7) s = ⟨53, 0, 0, false, 0, 0, 0⟩ := by
    unfold readF
    rw [show (if (fm 7).acts = 0 then ((fm 7).first : Int) else ((256 * (fm 7).first + byt s 1 % 32 : Nat) : Int)) = 53 from rfl,
      show nuI s (fm 7).la (fm 7).ln = 0 from nu0 s,
      show nuI s (fm 7).ba (fm 7).bn = 0 from nu0 s,
      show (!(byt s 1 &&& (fm 7).fua == 0)) = false from (show (!(byt s 1 &&& 0 == 0)) = false by rw [and_0]; rfl),
      show (if byt s 1 &&& (fm 7).page = 0 then (0 : Int) else ((256 + byt s 2 : Nat) : Int)) = 0 from (show (if byt s 1 &&& 0 = 0 then (0 : Int) else ((256 + byt s 2 : Nat) : Int)) = 0 by rw [and_0, if_pos rfl]),
      show nuI s (fm 7).wa (fm 7).wn = 0 from nu0 s,
      show (if bitN (fm 7).typ (byt s 1 % 32) = true then typN ((byt s 2 &&& (255 - (fm 7).emp) : Nat) : Int) else 0) = 0 from (show (if bitN 0 (byt s 1 % 32) = true then typN ((byt s 2 &&& (255 - 0) : Nat) : Int) else 0) = 0 by rw [bit0, if_neg (by decide)])]
  rw [hr]
  unfold allowF
  rw [show (fm 7).must = 0 from rfl, show (fm 7).emp = 0 from rfl, show (fm 7).acts = 0 from rfl, show (fm 7).typ = 0 from rfl, show (fm 7).nar = false from rfl, show (fm 7).lst = 0 from rfl]
  dsimp only
  unfold ask
  rw [hb]
  dsimp only
  rw [if_neg (show ¬ byt s 1 &&& 0 ≠ 0 by rw [and_0]; decide)]
  rw [if_neg (show ¬ byt s 2 &&& 0 ≠ 0 by rw [and_0]; decide)]
  rw [if_neg (show ¬ ((0 : Nat) ≠ 0 ∧ _) from fun h => h.1 rfl), if_neg (show ¬ (bitN 0 (byt s 1 % 32) = true ∧ _) from fun h => by rw [bit0] at h; exact absurd h.1 (by decide))]
  rw [if_neg (show ¬ (false = true ∧ _) from fun h => by cases h.1), if_pos (by exact decide_eq_true (.inl rfl))]
  rw [if_pos (by decide)]
  rfl
set_option maxRecDepth 10000 in
theorem cask_66 {s : ByteArray} (hb : byt s 0 = 66) (hz : s.size = 10) : (if allowF (fm 8) s (readF (fm 8) s) = true then some (readF (fm 8) s) else none) = ask s := by
  have h1 := byt_lt s 1
  have h2 := byt_lt s 2
  have hr : readF (fm 8) s = ⟨66, 0, 0, false, 0, nuI s 7 2, 0⟩ := by
    unfold readF
    rw [show (if (fm 8).acts = 0 then ((fm 8).first : Int) else ((256 * (fm 8).first + byt s 1 % 32 : Nat) : Int)) = 66 from rfl,
      show nuI s (fm 8).la (fm 8).ln = 0 from nu0 s,
      show nuI s (fm 8).ba (fm 8).bn = 0 from nu0 s,
      show (!(byt s 1 &&& (fm 8).fua == 0)) = false from (show (!(byt s 1 &&& 0 == 0)) = false by rw [and_0]; rfl),
      show (if byt s 1 &&& (fm 8).page = 0 then (0 : Int) else ((256 + byt s 2 : Nat) : Int)) = 0 from (show (if byt s 1 &&& 0 = 0 then (0 : Int) else ((256 + byt s 2 : Nat) : Int)) = 0 by rw [and_0, if_pos rfl]),
      show nuI s (fm 8).wa (fm 8).wn = nuI s 7 2 from rfl,
      show (if bitN (fm 8).typ (byt s 1 % 32) = true then typN ((byt s 2 &&& (255 - (fm 8).emp) : Nat) : Int) else 0) = 0 from (show (if bitN 0 (byt s 1 % 32) = true then typN ((byt s 2 &&& (255 - 0) : Nat) : Int) else 0) = 0 by rw [bit0, if_neg (by decide)])]
  rw [hr]
  unfold allowF
  rw [show (fm 8).must = 0 from rfl, show (fm 8).emp = 0 from rfl, show (fm 8).acts = 0 from rfl, show (fm 8).typ = 0 from rfl, show (fm 8).nar = false from rfl, show (fm 8).lst = 0 from rfl]
  dsimp only
  unfold ask
  rw [hb]
  dsimp only
  rw [if_neg (show ¬ byt s 1 &&& 0 ≠ 0 by rw [and_0]; decide)]
  rw [if_neg (show ¬ byt s 2 &&& 0 ≠ 0 by rw [and_0]; decide)]
  rw [if_neg (show ¬ ((0 : Nat) ≠ 0 ∧ _) from fun h => h.1 rfl), if_neg (show ¬ (bitN 0 (byt s 1 % 32) = true ∧ _) from fun h => by rw [bit0] at h; exact absurd h.1 (by decide))]
  rw [if_neg (show ¬ (false = true ∧ _) from fun h => by cases h.1), if_pos (by exact decide_eq_true (.inl rfl))]
  rw [if_neg (by decide), if_neg (by decide), if_neg (by decide), if_neg (by decide), if_neg (by decide), if_pos rfl, nu_small (by decide) (by decide) (by omega)]
  rfl
set_option maxRecDepth 10000 in
theorem cask_160 {s : ByteArray} (hb : byt s 0 = 160) (hz : s.size = 12) : (if allowF (fm 13) s (readF (fm 13) s) = true then some (readF (fm 13) s) else none) = ask s := by
  have h1 := byt_lt s 1
  have h2 := byt_lt s 2
  have hr : readF (fm 13) s = ⟨160, 0, 0, false, 0, nuI s 6 4, 0⟩ := by
    unfold readF
    rw [show (if (fm 13).acts = 0 then ((fm 13).first : Int) else ((256 * (fm 13).first + byt s 1 % 32 : Nat) : Int)) = 160 from rfl,
      show nuI s (fm 13).la (fm 13).ln = 0 from nu0 s,
      show nuI s (fm 13).ba (fm 13).bn = 0 from nu0 s,
      show (!(byt s 1 &&& (fm 13).fua == 0)) = false from (show (!(byt s 1 &&& 0 == 0)) = false by rw [and_0]; rfl),
      show (if byt s 1 &&& (fm 13).page = 0 then (0 : Int) else ((256 + byt s 2 : Nat) : Int)) = 0 from (show (if byt s 1 &&& 0 = 0 then (0 : Int) else ((256 + byt s 2 : Nat) : Int)) = 0 by rw [and_0, if_pos rfl]),
      show nuI s (fm 13).wa (fm 13).wn = nuI s 6 4 from rfl,
      show (if bitN (fm 13).typ (byt s 1 % 32) = true then typN ((byt s 2 &&& (255 - (fm 13).emp) : Nat) : Int) else 0) = 0 from (show (if bitN 0 (byt s 1 % 32) = true then typN ((byt s 2 &&& (255 - 0) : Nat) : Int) else 0) = 0 by rw [bit0, if_neg (by decide)])]
  rw [hr]
  unfold allowF
  rw [show (fm 13).must = 0 from rfl, show (fm 13).emp = 0 from rfl, show (fm 13).acts = 0 from rfl, show (fm 13).typ = 0 from rfl, show (fm 13).nar = false from rfl, show (fm 13).lst = 0 from rfl]
  dsimp only
  unfold ask
  rw [hb]
  dsimp only
  rw [if_neg (show ¬ byt s 1 &&& 0 ≠ 0 by rw [and_0]; decide)]
  rw [if_neg (show ¬ byt s 2 &&& 0 ≠ 0 by rw [and_0]; decide)]
  rw [if_neg (show ¬ ((0 : Nat) ≠ 0 ∧ _) from fun h => h.1 rfl), if_neg (show ¬ (bitN 0 (byt s 1 % 32) = true ∧ _) from fun h => by rw [bit0] at h; exact absurd h.1 (by decide))]
  rw [if_neg (show ¬ (false = true ∧ _) from fun h => by cases h.1), if_pos (by exact decide_eq_true (.inl rfl))]
  rw [if_neg (by decide), if_neg (by decide), if_neg (by decide), if_neg (by decide), if_neg (by decide), if_neg (by decide), if_pos rfl, nu_small (by decide) (by decide) (by omega)]
  rfl
set_option maxRecDepth 10000 in
theorem cask_40 {s : ByteArray} (hb : byt s 0 = 40) (hz : s.size = 10) : (if allowF (fm 3) s (readF (fm 3) s) = true then some (readF (fm 3) s) else none) = ask s := by
  have h1 := byt_lt s 1
  have h2 := byt_lt s 2
  have hr : readF (fm 3) s = ⟨40, nuI s 2 4, nuI s 7 2, false, 0, 0, 0⟩ := by
    unfold readF
    rw [show (if (fm 3).acts = 0 then ((fm 3).first : Int) else ((256 * (fm 3).first + byt s 1 % 32 : Nat) : Int)) = 40 from rfl,
      show nuI s (fm 3).la (fm 3).ln = nuI s 2 4 from rfl,
      show nuI s (fm 3).ba (fm 3).bn = nuI s 7 2 from rfl,
      show (!(byt s 1 &&& (fm 3).fua == 0)) = false from (show (!(byt s 1 &&& 0 == 0)) = false by rw [and_0]; rfl),
      show (if byt s 1 &&& (fm 3).page = 0 then (0 : Int) else ((256 + byt s 2 : Nat) : Int)) = 0 from (show (if byt s 1 &&& 0 = 0 then (0 : Int) else ((256 + byt s 2 : Nat) : Int)) = 0 by rw [and_0, if_pos rfl]),
      show nuI s (fm 3).wa (fm 3).wn = 0 from nu0 s,
      show (if bitN (fm 3).typ (byt s 1 % 32) = true then typN ((byt s 2 &&& (255 - (fm 3).emp) : Nat) : Int) else 0) = 0 from (show (if bitN 0 (byt s 1 % 32) = true then typN ((byt s 2 &&& (255 - 0) : Nat) : Int) else 0) = 0 by rw [bit0, if_neg (by decide)])]
  rw [hr]
  unfold allowF
  rw [show (fm 3).must = 0 from rfl, show (fm 3).emp = 0 from rfl, show (fm 3).acts = 0 from rfl, show (fm 3).typ = 0 from rfl, show (fm 3).nar = false from rfl, show (fm 3).lst = 0 from rfl]
  dsimp only
  unfold ask
  rw [hb]
  dsimp only
  rw [if_neg (show ¬ byt s 1 &&& 0 ≠ 0 by rw [and_0]; decide)]
  rw [if_neg (show ¬ byt s 2 &&& 0 ≠ 0 by rw [and_0]; decide)]
  rw [if_neg (show ¬ ((0 : Nat) ≠ 0 ∧ _) from fun h => h.1 rfl), if_neg (show ¬ (bitN 0 (byt s 1 % 32) = true ∧ _) from fun h => by rw [bit0] at h; exact absurd h.1 (by decide))]
  rw [if_neg (show ¬ (false = true ∧ _) from fun h => by cases h.1), if_pos (by exact decide_eq_true (.inl rfl))]
  rw [if_neg (by decide), if_neg (by decide), if_pos (by decide), nu_small (by decide) (by decide) (by omega), nu_small (by decide) (by decide) (by omega)]
  rfl
set_option maxRecDepth 10000 in
theorem cask_42 {s : ByteArray} (hb : byt s 0 = 42) (hz : s.size = 10) : (if allowF (fm 5) s (readF (fm 5) s) = true then some (readF (fm 5) s) else none) = ask s := by
  have h1 := byt_lt s 1
  have h2 := byt_lt s 2
  have hr : readF (fm 5) s = ⟨42, nuI s 2 4, nuI s 7 2, (byt s 1 / 8 % 2 == 1), 0, 0, 0⟩ := by
    unfold readF
    rw [show (if (fm 5).acts = 0 then ((fm 5).first : Int) else ((256 * (fm 5).first + byt s 1 % 32 : Nat) : Int)) = 42 from rfl,
      show nuI s (fm 5).la (fm 5).ln = nuI s 2 4 from rfl,
      show nuI s (fm 5).ba (fm 5).bn = nuI s 7 2 from rfl,
      show (!(byt s 1 &&& (fm 5).fua == 0)) = (byt s 1 / 8 % 2 == 1) from and8 h1,
      show (if byt s 1 &&& (fm 5).page = 0 then (0 : Int) else ((256 + byt s 2 : Nat) : Int)) = 0 from (show (if byt s 1 &&& 0 = 0 then (0 : Int) else ((256 + byt s 2 : Nat) : Int)) = 0 by rw [and_0, if_pos rfl]),
      show nuI s (fm 5).wa (fm 5).wn = 0 from nu0 s,
      show (if bitN (fm 5).typ (byt s 1 % 32) = true then typN ((byt s 2 &&& (255 - (fm 5).emp) : Nat) : Int) else 0) = 0 from (show (if bitN 0 (byt s 1 % 32) = true then typN ((byt s 2 &&& (255 - 0) : Nat) : Int) else 0) = 0 by rw [bit0, if_neg (by decide)])]
  rw [hr]
  unfold allowF
  rw [show (fm 5).must = 0 from rfl, show (fm 5).emp = 0 from rfl, show (fm 5).acts = 0 from rfl, show (fm 5).typ = 0 from rfl, show (fm 5).nar = false from rfl, show (fm 5).lst = 0 from rfl]
  dsimp only
  unfold ask
  rw [hb]
  dsimp only
  rw [if_neg (show ¬ byt s 1 &&& 0 ≠ 0 by rw [and_0]; decide)]
  rw [if_neg (show ¬ byt s 2 &&& 0 ≠ 0 by rw [and_0]; decide)]
  rw [if_neg (show ¬ ((0 : Nat) ≠ 0 ∧ _) from fun h => h.1 rfl), if_neg (show ¬ (bitN 0 (byt s 1 % 32) = true ∧ _) from fun h => by rw [bit0] at h; exact absurd h.1 (by decide))]
  rw [if_neg (show ¬ (false = true ∧ _) from fun h => by cases h.1), if_pos (by exact decide_eq_true (.inl rfl))]
  rw [if_neg (by decide), if_neg (by decide), if_pos (by decide), nu_small (by decide) (by decide) (by omega), nu_small (by decide) (by decide) (by omega)]
  rfl
set_option maxRecDepth 10000 in
theorem cask_18 {s : ByteArray} (hb : byt s 0 = 18) (hz : s.size = 6) : (if allowF (fm 1) s (readF (fm 1) s) = true then some (readF (fm 1) s) else none) = ask s := by
  have h1 := byt_lt s 1
  have h2 := byt_lt s 2
  have hr : readF (fm 1) s = ⟨18, 0, 0, false, (if byt s 1 % 2 = 0 then 0 else ((256 + byt s 2 : Nat) : Int)), nuI s 3 2, 0⟩ := by
    unfold readF
    rw [show (if (fm 1).acts = 0 then ((fm 1).first : Int) else ((256 * (fm 1).first + byt s 1 % 32 : Nat) : Int)) = 18 from rfl,
      show nuI s (fm 1).la (fm 1).ln = 0 from nu0 s,
      show nuI s (fm 1).ba (fm 1).bn = 0 from nu0 s,
      show (!(byt s 1 &&& (fm 1).fua == 0)) = false from (show (!(byt s 1 &&& 0 == 0)) = false by rw [and_0]; rfl),
      show (if byt s 1 &&& (fm 1).page = 0 then (0 : Int) else ((256 + byt s 2 : Nat) : Int)) = (if byt s 1 % 2 = 0 then 0 else ((256 + byt s 2 : Nat) : Int)) from (show (if byt s 1 &&& 1 = 0 then (0 : Int) else ((256 + byt s 2 : Nat) : Int)) = _ by rw [and1 h1]),
      show nuI s (fm 1).wa (fm 1).wn = nuI s 3 2 from rfl,
      show (if bitN (fm 1).typ (byt s 1 % 32) = true then typN ((byt s 2 &&& (255 - (fm 1).emp) : Nat) : Int) else 0) = 0 from (show (if bitN 0 (byt s 1 % 32) = true then typN ((byt s 2 &&& (255 - 0) : Nat) : Int) else 0) = 0 by rw [bit0, if_neg (by decide)])]
  rw [hr]
  unfold allowF
  rw [show (fm 1).must = 0 from rfl, show (fm 1).emp = 0 from rfl, show (fm 1).acts = 0 from rfl, show (fm 1).typ = 0 from rfl, show (fm 1).nar = false from rfl, show (fm 1).lst = 0 from rfl]
  dsimp only
  unfold ask
  rw [hb]
  dsimp only
  rw [if_neg (show ¬ byt s 1 &&& 0 ≠ 0 by rw [and_0]; decide)]
  rw [if_neg (show ¬ byt s 2 &&& 0 ≠ 0 by rw [and_0]; decide)]
  rw [if_neg (show ¬ ((0 : Nat) ≠ 0 ∧ _) from fun h => h.1 rfl), if_neg (show ¬ (bitN 0 (byt s 1 % 32) = true ∧ _) from fun h => by rw [bit0] at h; exact absurd h.1 (by decide))]
  rw [if_neg (show ¬ (false = true ∧ _) from fun h => by cases h.1), if_pos (by exact decide_eq_true (.inl rfl))]
  rw [if_neg (show ¬ (18 = 0 ∨ 18 = 37 ∨ 18 = 53) by decide), if_pos (show 18 = 18 from rfl), nu_small (by decide) (by decide) (by omega)]
  have e : byt s 1 % 2 = 0 ∨ byt s 1 % 2 = 1 := by omega
  rcases e with e | e <;> rw [e] <;> rfl
set_option maxRecDepth 10000 in
theorem cask_136 {s : ByteArray} (hb : byt s 0 = 136) (hz : s.size = 16) : (if allowF (fm 4) s (readF (fm 4) s) = true then some (readF (fm 4) s) else none) = ask s := by
  have h1 := byt_lt s 1
  have h2 := byt_lt s 2
  have hr : readF (fm 4) s = ⟨136, nuI s 2 8, nuI s 10 4, false, 0, 0, 0⟩ := by
    unfold readF
    rw [show (if (fm 4).acts = 0 then ((fm 4).first : Int) else ((256 * (fm 4).first + byt s 1 % 32 : Nat) : Int)) = 136 from rfl,
      show nuI s (fm 4).la (fm 4).ln = nuI s 2 8 from rfl,
      show nuI s (fm 4).ba (fm 4).bn = nuI s 10 4 from rfl,
      show (!(byt s 1 &&& (fm 4).fua == 0)) = false from (show (!(byt s 1 &&& 0 == 0)) = false by rw [and_0]; rfl),
      show (if byt s 1 &&& (fm 4).page = 0 then (0 : Int) else ((256 + byt s 2 : Nat) : Int)) = 0 from (show (if byt s 1 &&& 0 = 0 then (0 : Int) else ((256 + byt s 2 : Nat) : Int)) = 0 by rw [and_0, if_pos rfl]),
      show nuI s (fm 4).wa (fm 4).wn = 0 from nu0 s,
      show (if bitN (fm 4).typ (byt s 1 % 32) = true then typN ((byt s 2 &&& (255 - (fm 4).emp) : Nat) : Int) else 0) = 0 from (show (if bitN 0 (byt s 1 % 32) = true then typN ((byt s 2 &&& (255 - 0) : Nat) : Int) else 0) = 0 by rw [bit0, if_neg (by decide)])]
  rw [hr]
  unfold allowF
  rw [show (fm 4).must = 0 from rfl, show (fm 4).emp = 0 from rfl, show (fm 4).acts = 0 from rfl, show (fm 4).typ = 0 from rfl, show (fm 4).nar = true from rfl, show (fm 4).lst = 0 from rfl]
  dsimp only
  unfold ask
  rw [hb]
  dsimp only
  rw [if_neg (show ¬ byt s 1 &&& 0 ≠ 0 by rw [and_0]; decide)]
  rw [if_neg (show ¬ byt s 2 &&& 0 ≠ 0 by rw [and_0]; decide)]
  rw [if_neg (show ¬ ((0 : Nat) ≠ 0 ∧ _) from fun h => h.1 rfl), if_neg (show ¬ (bitN 0 (byt s 1 % 32) = true ∧ _) from fun h => by rw [bit0] at h; exact absurd h.1 (by decide))]
  rw [nu_small (a := 10) (by decide) (by decide) (by omega), (nu_eight (a := 2) (by omega)).2, nar_blk]
  rw [if_neg (show ¬ (136 = 0 ∨ 136 = 37 ∨ 136 = 53) by decide), if_neg (show ¬ (136 = 18) by decide), if_neg (show ¬ (136 = 40 ∨ 136 = 42) by decide), if_pos (show 136 = 136 ∨ 136 = 138 ∨ 136 = 147 by decide), if_neg (show ¬ (136 = 147 ∧ byt s 1 % 2 = 0) from fun h => absurd h.1 (by decide))]
  by_cases c1 : 2147483648 ≤ big s 2 8
  · rw [if_pos (show true = true ∧ (decide (¬ 2147483648 ≤ big s 2 8) && decide (¬ 2147483648 ≤ big s 10 4)) = false by simp [c1]), if_neg (show ¬ false = true by decide), if_pos (.inl c1)]
  · by_cases c2 : 2147483648 ≤ big s 10 4
    · rw [if_pos (show true = true ∧ (decide (¬ 2147483648 ≤ big s 2 8) && decide (¬ 2147483648 ≤ big s 10 4)) = false by simp [c2]), if_neg (show ¬ false = true by decide), if_pos (.inr c2)]
    · rw [if_neg (show ¬ (true = true ∧ (decide (¬ 2147483648 ≤ big s 2 8) && decide (¬ 2147483648 ≤ big s 10 4)) = false) by simp [c1, c2]), if_pos (by exact decide_eq_true (.inl rfl)), if_neg (by omega), (nu_eight (a := 2) (by omega)).1 c1]
      rfl
set_option maxRecDepth 10000 in
theorem cask_138 {s : ByteArray} (hb : byt s 0 = 138) (hz : s.size = 16) : (if allowF (fm 6) s (readF (fm 6) s) = true then some (readF (fm 6) s) else none) = ask s := by
  have h1 := byt_lt s 1
  have h2 := byt_lt s 2
  have hr : readF (fm 6) s = ⟨138, nuI s 2 8, nuI s 10 4, (byt s 1 / 8 % 2 == 1), 0, 0, 0⟩ := by
    unfold readF
    rw [show (if (fm 6).acts = 0 then ((fm 6).first : Int) else ((256 * (fm 6).first + byt s 1 % 32 : Nat) : Int)) = 138 from rfl,
      show nuI s (fm 6).la (fm 6).ln = nuI s 2 8 from rfl,
      show nuI s (fm 6).ba (fm 6).bn = nuI s 10 4 from rfl,
      show (!(byt s 1 &&& (fm 6).fua == 0)) = (byt s 1 / 8 % 2 == 1) from and8 h1,
      show (if byt s 1 &&& (fm 6).page = 0 then (0 : Int) else ((256 + byt s 2 : Nat) : Int)) = 0 from (show (if byt s 1 &&& 0 = 0 then (0 : Int) else ((256 + byt s 2 : Nat) : Int)) = 0 by rw [and_0, if_pos rfl]),
      show nuI s (fm 6).wa (fm 6).wn = 0 from nu0 s,
      show (if bitN (fm 6).typ (byt s 1 % 32) = true then typN ((byt s 2 &&& (255 - (fm 6).emp) : Nat) : Int) else 0) = 0 from (show (if bitN 0 (byt s 1 % 32) = true then typN ((byt s 2 &&& (255 - 0) : Nat) : Int) else 0) = 0 by rw [bit0, if_neg (by decide)])]
  rw [hr]
  unfold allowF
  rw [show (fm 6).must = 0 from rfl, show (fm 6).emp = 0 from rfl, show (fm 6).acts = 0 from rfl, show (fm 6).typ = 0 from rfl, show (fm 6).nar = true from rfl, show (fm 6).lst = 0 from rfl]
  dsimp only
  unfold ask
  rw [hb]
  dsimp only
  rw [if_neg (show ¬ byt s 1 &&& 0 ≠ 0 by rw [and_0]; decide)]
  rw [if_neg (show ¬ byt s 2 &&& 0 ≠ 0 by rw [and_0]; decide)]
  rw [if_neg (show ¬ ((0 : Nat) ≠ 0 ∧ _) from fun h => h.1 rfl), if_neg (show ¬ (bitN 0 (byt s 1 % 32) = true ∧ _) from fun h => by rw [bit0] at h; exact absurd h.1 (by decide))]
  rw [nu_small (a := 10) (by decide) (by decide) (by omega), (nu_eight (a := 2) (by omega)).2, nar_blk]
  rw [if_neg (show ¬ (138 = 0 ∨ 138 = 37 ∨ 138 = 53) by decide), if_neg (show ¬ (138 = 18) by decide), if_neg (show ¬ (138 = 40 ∨ 138 = 42) by decide), if_pos (show 138 = 136 ∨ 138 = 138 ∨ 138 = 147 by decide), if_neg (show ¬ (138 = 147 ∧ byt s 1 % 2 = 0) from fun h => absurd h.1 (by decide))]
  by_cases c1 : 2147483648 ≤ big s 2 8
  · rw [if_pos (show true = true ∧ (decide (¬ 2147483648 ≤ big s 2 8) && decide (¬ 2147483648 ≤ big s 10 4)) = false by simp [c1]), if_neg (show ¬ false = true by decide), if_pos (.inl c1)]
  · by_cases c2 : 2147483648 ≤ big s 10 4
    · rw [if_pos (show true = true ∧ (decide (¬ 2147483648 ≤ big s 2 8) && decide (¬ 2147483648 ≤ big s 10 4)) = false by simp [c2]), if_neg (show ¬ false = true by decide), if_pos (.inr c2)]
    · rw [if_neg (show ¬ (true = true ∧ (decide (¬ 2147483648 ≤ big s 2 8) && decide (¬ 2147483648 ≤ big s 10 4)) = false) by simp [c1, c2]), if_pos (by exact decide_eq_true (.inl rfl)), if_neg (by omega), (nu_eight (a := 2) (by omega)).1 c1]
      rfl
set_option maxRecDepth 10000 in
theorem cask_147 {s : ByteArray} (hb : byt s 0 = 147) (hz : s.size = 16) : (if allowF (fm 10) s (readF (fm 10) s) = true then some (readF (fm 10) s) else none) = ask s := by
  have h1 := byt_lt s 1
  have h2 := byt_lt s 2
  have hr : readF (fm 10) s = ⟨147, nuI s 2 8, nuI s 10 4, false, 0, 0, 0⟩ := by
    unfold readF
    rw [show (if (fm 10).acts = 0 then ((fm 10).first : Int) else ((256 * (fm 10).first + byt s 1 % 32 : Nat) : Int)) = 147 from rfl,
      show nuI s (fm 10).la (fm 10).ln = nuI s 2 8 from rfl,
      show nuI s (fm 10).ba (fm 10).bn = nuI s 10 4 from rfl,
      show (!(byt s 1 &&& (fm 10).fua == 0)) = false from (show (!(byt s 1 &&& 0 == 0)) = false by rw [and_0]; rfl),
      show (if byt s 1 &&& (fm 10).page = 0 then (0 : Int) else ((256 + byt s 2 : Nat) : Int)) = 0 from (show (if byt s 1 &&& 0 = 0 then (0 : Int) else ((256 + byt s 2 : Nat) : Int)) = 0 by rw [and_0, if_pos rfl]),
      show nuI s (fm 10).wa (fm 10).wn = 0 from nu0 s,
      show (if bitN (fm 10).typ (byt s 1 % 32) = true then typN ((byt s 2 &&& (255 - (fm 10).emp) : Nat) : Int) else 0) = 0 from (show (if bitN 0 (byt s 1 % 32) = true then typN ((byt s 2 &&& (255 - 0) : Nat) : Int) else 0) = 0 by rw [bit0, if_neg (by decide)])]
  rw [hr]
  unfold allowF
  rw [show (fm 10).must = 1 from rfl, show (fm 10).emp = 0 from rfl, show (fm 10).acts = 0 from rfl, show (fm 10).typ = 0 from rfl, show (fm 10).nar = true from rfl, show (fm 10).lst = 0 from rfl]
  dsimp only
  unfold ask
  rw [hb]
  dsimp only
  rw [nu_small (a := 10) (by decide) (by decide) (by omega), (nu_eight (a := 2) (by omega)).2, nar_blk, and1 h1, and_0, bit0]
  rw [if_neg (show ¬ (147 = 0 ∨ 147 = 37 ∨ 147 = 53) by decide), if_neg (show ¬ 147 = 18 by decide), if_neg (show ¬ (147 = 40 ∨ 147 = 42) by decide), if_pos (show 147 = 136 ∨ 147 = 138 ∨ 147 = 147 by decide)]
  have e : byt s 1 % 2 = 0 ∨ byt s 1 % 2 = 1 := by omega
  rcases e with e | e
  · rw [if_pos (show byt s 1 % 2 ≠ 1 by omega), if_neg (show ¬ false = true by decide), if_pos ⟨rfl, e⟩]
  · rw [if_neg (show ¬ byt s 1 % 2 ≠ 1 by omega), if_neg (show ¬ ((0 : Nat) ≠ 0) by decide), if_neg (show ¬ ((0 : Nat) ≠ 0 ∧ _) from fun h => h.1 rfl), if_neg (show ¬ (false = true ∧ _) from fun h => by cases h.1), if_neg (show ¬ (147 = 147 ∧ byt s 1 % 2 = 0) by omega)]
    by_cases c1 : 2147483648 ≤ big s 2 8
    · rw [if_pos (show true = true ∧ (decide (¬ 2147483648 ≤ big s 2 8) && decide (¬ 2147483648 ≤ big s 10 4)) = false by simp [c1]), if_neg (show ¬ false = true by decide), if_pos (.inl c1)]
    · by_cases c2 : 2147483648 ≤ big s 10 4
      · rw [if_pos (show true = true ∧ (decide (¬ 2147483648 ≤ big s 2 8) && decide (¬ 2147483648 ≤ big s 10 4)) = false by simp [c2]), if_neg (show ¬ false = true by decide), if_pos (.inr c2)]
      · rw [if_neg (show ¬ (true = true ∧ (decide (¬ 2147483648 ≤ big s 2 8) && decide (¬ 2147483648 ≤ big s 10 4)) = false) by simp [c1, c2]), if_pos (by exact decide_eq_true (.inl rfl)), if_neg (by omega), (nu_eight (a := 2) (by omega)).1 c1]
        rfl
set_option maxRecDepth 10000 in
theorem cask_137 {s : ByteArray} (hb : byt s 0 = 137) (hz : s.size = 16) : (if allowF (fm 9) s (readF (fm 9) s) = true then some (readF (fm 9) s) else none) = ask s := by
  have h1 := byt_lt s 1
  have h2 := byt_lt s 2
  have hr : readF (fm 9) s = ⟨137, nuI s 2 8, nuI s 13 1, false, 0, 0, 0⟩ := by
    unfold readF
    rw [show (if (fm 9).acts = 0 then ((fm 9).first : Int) else ((256 * (fm 9).first + byt s 1 % 32 : Nat) : Int)) = 137 from rfl,
      show nuI s (fm 9).la (fm 9).ln = nuI s 2 8 from rfl,
      show nuI s (fm 9).ba (fm 9).bn = nuI s 13 1 from rfl,
      show (!(byt s 1 &&& (fm 9).fua == 0)) = false from (show (!(byt s 1 &&& 0 == 0)) = false by rw [and_0]; rfl),
      show (if byt s 1 &&& (fm 9).page = 0 then (0 : Int) else ((256 + byt s 2 : Nat) : Int)) = 0 from (show (if byt s 1 &&& 0 = 0 then (0 : Int) else ((256 + byt s 2 : Nat) : Int)) = 0 by rw [and_0, if_pos rfl]),
      show nuI s (fm 9).wa (fm 9).wn = 0 from nu0 s,
      show (if bitN (fm 9).typ (byt s 1 % 32) = true then typN ((byt s 2 &&& (255 - (fm 9).emp) : Nat) : Int) else 0) = 0 from (show (if bitN 0 (byt s 1 % 32) = true then typN ((byt s 2 &&& (255 - 0) : Nat) : Int) else 0) = 0 by rw [bit0, if_neg (by decide)])]
  rw [hr]
  unfold allowF
  rw [show (fm 9).must = 0 from rfl, show (fm 9).emp = 0 from rfl, show (fm 9).acts = 0 from rfl, show (fm 9).typ = 0 from rfl, show (fm 9).nar = true from rfl, show (fm 9).lst = 0 from rfl]
  dsimp only
  unfold ask
  rw [hb]
  dsimp only
  rw [if_neg (show ¬ byt s 1 &&& 0 ≠ 0 by rw [and_0]; decide)]
  rw [if_neg (show ¬ byt s 2 &&& 0 ≠ 0 by rw [and_0]; decide)]
  rw [if_neg (show ¬ ((0 : Nat) ≠ 0 ∧ _) from fun h => h.1 rfl), if_neg (show ¬ (bitN 0 (byt s 1 % 32) = true ∧ _) from fun h => by rw [bit0] at h; exact absurd h.1 (by decide))]
  rw [nu_small (a := 13) (by decide) (by decide) (by omega), (nu_eight (a := 2) (by omega)).2, nar_blk, big_one]
  rw [if_neg (show ¬ (137 = 0 ∨ 137 = 37 ∨ 137 = 53) by decide), if_neg (show ¬ (137 = 18) by decide), if_neg (show ¬ (137 = 40 ∨ 137 = 42) by decide), if_neg (show ¬ (137 = 136 ∨ 137 = 138 ∨ 137 = 147) by decide), if_pos (show 137 = 137 by decide)]
  have h13 := byt_lt s 13
  have c2 : ¬ 2147483648 ≤ byt s 13 := by omega
  by_cases c1 : 2147483648 ≤ big s 2 8
  · rw [if_pos (show true = true ∧ (decide (¬ 2147483648 ≤ big s 2 8) && decide (¬ 2147483648 ≤ byt s 13)) = false by simp [c1]), if_neg (show ¬ false = true by decide), if_pos c1]
  · rw [if_neg (show ¬ (true = true ∧ (decide (¬ 2147483648 ≤ big s 2 8) && decide (¬ 2147483648 ≤ byt s 13)) = false) by simp [c1, c2]), if_pos (by exact decide_eq_true (.inl rfl)), if_neg c1, (nu_eight (a := 2) (by omega)).1 c1]
    rfl
set_option maxRecDepth 10000 in
theorem cask_94 {s : ByteArray} (hb : byt s 0 = 94) (hz : s.size = 10) : (if allowF (fm 11) s (readF (fm 11) s) = true then some (readF (fm 11) s) else none) = ask s := by
  have h1 := byt_lt s 1
  have h2 := byt_lt s 2
  have hr : readF (fm 11) s = ⟨((256 * 94 + byt s 1 % 32 : Nat) : Int), 0, 0, false, 0, nuI s 7 2, 0⟩ := by
    unfold readF
    rw [show (if (fm 11).acts = 0 then ((fm 11).first : Int) else ((256 * (fm 11).first + byt s 1 % 32 : Nat) : Int)) = ((256 * 94 + byt s 1 % 32 : Nat) : Int) from rfl,
      show nuI s (fm 11).la (fm 11).ln = 0 from nu0 s,
      show nuI s (fm 11).ba (fm 11).bn = 0 from nu0 s,
      show (!(byt s 1 &&& (fm 11).fua == 0)) = false from (show (!(byt s 1 &&& 0 == 0)) = false by rw [and_0]; rfl),
      show (if byt s 1 &&& (fm 11).page = 0 then (0 : Int) else ((256 + byt s 2 : Nat) : Int)) = 0 from (show (if byt s 1 &&& 0 = 0 then (0 : Int) else ((256 + byt s 2 : Nat) : Int)) = 0 by rw [and_0, if_pos rfl]),
      show nuI s (fm 11).wa (fm 11).wn = nuI s 7 2 from rfl,
      show (if bitN (fm 11).typ (byt s 1 % 32) = true then typN ((byt s 2 &&& (255 - (fm 11).emp) : Nat) : Int) else 0) = 0 from (show (if bitN 0 (byt s 1 % 32) = true then typN ((byt s 2 &&& (255 - 0) : Nat) : Int) else 0) = 0 by rw [bit0, if_neg (by decide)])]
  rw [hr]
  unfold allowF
  rw [show (fm 11).must = 0 from rfl, show (fm 11).emp = 0 from rfl, show (fm 11).acts = 3 from rfl, show (fm 11).typ = 0 from rfl, show (fm 11).nar = false from rfl, show (fm 11).lst = 0 from rfl]
  dsimp only
  unfold ask
  rw [hb]
  dsimp only
  rw [if_neg (show ¬ byt s 1 &&& 0 ≠ 0 by rw [and_0]; decide)]
  rw [if_neg (show ¬ byt s 2 &&& 0 ≠ 0 by rw [and_0]; decide)]
  rw [nu_small (by decide) (by decide) (by omega), bit3 (by omega), bit0]
  rw [if_neg (show ¬ (94 = 0 ∨ 94 = 37 ∨ 94 = 53) by decide), if_neg (show ¬ 94 = 18 by decide), if_neg (show ¬ (94 = 40 ∨ 94 = 42) by decide), if_neg (show ¬ (94 = 136 ∨ 94 = 138 ∨ 94 = 147) by decide), if_neg (show ¬ 94 = 137 by decide), if_neg (show ¬ 94 = 66 by decide), if_neg (show ¬ 94 = 160 by decide), if_pos (show 94 = 94 from rfl)]
  by_cases c1 : 1 < byt s 1 % 32
  · rw [if_pos (show (3 : Nat) ≠ 0 ∧ decide (byt s 1 % 32 ≤ 1) = false from ⟨by decide, decide_eq_false (by omega)⟩), if_neg (show ¬ false = true by decide), if_pos c1]
  · rw [if_neg (show ¬ ((3 : Nat) ≠ 0 ∧ decide (byt s 1 % 32 ≤ 1) = false) from fun h => absurd (of_decide_eq_false h.2) (by omega)), if_neg (show ¬ (false = true ∧ _) from fun h => by cases h.1), if_neg (show ¬ (false = true ∧ _) from fun h => by cases h.1), if_pos (show decide ((0 : Nat) = 0 ∨ _) = true from decide_eq_true (.inl rfl)), if_neg c1]
    rfl
set_option maxRecDepth 10000 in
theorem cask_95 {s : ByteArray} (hb : byt s 0 = 95) (hz : s.size = 10) : (if allowF (fm 12) s (readF (fm 12) s) = true then some (readF (fm 12) s) else none) = ask s := by
  have h1 := byt_lt s 1
  have h2 := byt_lt s 2
  have hr : readF (fm 12) s = ⟨((256 * 95 + byt s 1 % 32 : Nat) : Int), 0, 0, false, 0, nuI s 5 4, (if byt s 1 % 32 = 1 ∨ byt s 1 % 32 = 2 ∨ byt s 1 % 32 = 4 then typN ((byt s 2 % 16 : Nat) : Int) else 0)⟩ := by
    unfold readF
    rw [show (if (fm 12).acts = 0 then ((fm 12).first : Int) else ((256 * (fm 12).first + byt s 1 % 32 : Nat) : Int)) = ((256 * 95 + byt s 1 % 32 : Nat) : Int) from rfl,
      show nuI s (fm 12).la (fm 12).ln = 0 from nu0 s,
      show nuI s (fm 12).ba (fm 12).bn = 0 from nu0 s,
      show (!(byt s 1 &&& (fm 12).fua == 0)) = false from (show (!(byt s 1 &&& 0 == 0)) = false by rw [and_0]; rfl),
      show (if byt s 1 &&& (fm 12).page = 0 then (0 : Int) else ((256 + byt s 2 : Nat) : Int)) = 0 from (show (if byt s 1 &&& 0 = 0 then (0 : Int) else ((256 + byt s 2 : Nat) : Int)) = 0 by rw [and_0, if_pos rfl]),
      show nuI s (fm 12).wa (fm 12).wn = nuI s 5 4 from rfl,
      show (if bitN (fm 12).typ (byt s 1 % 32) = true then typN ((byt s 2 &&& (255 - (fm 12).emp) : Nat) : Int) else 0) = (if byt s 1 % 32 = 1 ∨ byt s 1 % 32 = 2 ∨ byt s 1 % 32 = 4 then typN ((byt s 2 % 16 : Nat) : Int) else 0) from (show (if bitN 22 (byt s 1 % 32) = true then typN ((byt s 2 &&& (255 - 240) : Nat) : Int) else 0) = _ by rw [bit22 (by omega), and15 h2]; simp only [decide_eq_true_eq])]
  rw [hr]
  unfold allowF
  rw [show (fm 12).must = 0 from rfl, show (fm 12).emp = 240 from rfl, show (fm 12).acts = 95 from rfl, show (fm 12).typ = 22 from rfl, show (fm 12).nar = false from rfl, show (fm 12).lst = 24 from rfl]
  dsimp only
  unfold ask
  rw [hb]
  dsimp only
  rw [if_neg (show ¬ byt s 1 &&& 0 ≠ 0 by rw [and_0]; decide)]
  rw [nu_small (by decide) (by decide) (by omega), bit95 (by omega), bit22 (by omega)]
  rw [if_neg (show ¬ (95 = 0 ∨ 95 = 37 ∨ 95 = 53) by decide), if_neg (show ¬ 95 = 18 by decide), if_neg (show ¬ (95 = 40 ∨ 95 = 42) by decide), if_neg (show ¬ (95 = 136 ∨ 95 = 138 ∨ 95 = 147) by decide), if_neg (show ¬ 95 = 137 by decide), if_neg (show ¬ 95 = 66 by decide), if_neg (show ¬ 95 = 160 by decide), if_neg (show ¬ 95 = 94 by decide)]
  generalize byt s 1 % 32 = a
  generalize hx : byt s 2 = x at *
  generalize hg : big s 5 4 = g
  by_cases c1 : 15 < x
  · rw [if_pos (show x &&& 240 ≠ 0 from fun h => absurd c1 ((and240 h2).1 h)), if_neg (show ¬ false = true by decide), if_pos (by omega)]
  · rw [if_neg (show ¬ (x &&& 240 ≠ 0) from fun h => h ((and240 h2).2 c1)), show x % 16 = x by omega]
    by_cases c2 : 6 < a ∨ a = 5
    · rw [if_pos (show (95 : Nat) ≠ 0 ∧ decide (¬ (6 < a ∨ a = 5)) = false from ⟨by decide, decide_eq_false (fun h => h c2)⟩), if_neg (show ¬ false = true by decide), if_pos (by omega)]
    · rw [if_neg (show ¬ ((95 : Nat) ≠ 0 ∧ decide (¬ (6 < a ∨ a = 5)) = false) from fun h => of_decide_eq_false h.2 c2)]
      by_cases c3 : g = 24
      · subst c3
        rw [if_neg (show ¬ ((24 : Nat) ≠ 24 ∨ 15 < x ∨ 6 < a ∨ a = 5) by omega)]
        by_cases c4 : a = 1 ∨ a = 2 ∨ a = 4
        · rw [if_pos c4, if_pos c4]
          by_cases c5 : typN (x : Int) = 0
          · rw [if_pos (show decide (a = 1 ∨ a = 2 ∨ a = 4) = true ∧ typN (x : Int) = 0 from ⟨decide_eq_true c4, c5⟩), if_neg (show ¬ false = true by decide), if_pos c5]
          · rw [if_neg (show ¬ (decide (a = 1 ∨ a = 2 ∨ a = 4) = true ∧ typN (x : Int) = 0) from fun h => c5 h.2), if_neg (show ¬ (false = true ∧ _) from fun h => by cases h.1), if_pos (show decide ((24 : Nat) = 0 ∨ ((24 : Nat) : Int) = ((24 : Nat) : Int)) = true from decide_eq_true (.inr rfl)), if_neg c5]
            rfl
        · rw [if_neg c4, if_neg c4, if_neg (show ¬ (decide (a = 1 ∨ a = 2 ∨ a = 4) = true ∧ (0 : Int) = 0) from fun h => c4 (of_decide_eq_true h.1)), if_neg (show ¬ (false = true ∧ _) from fun h => by cases h.1), if_pos (show decide ((24 : Nat) = 0 ∨ ((24 : Nat) : Int) = ((24 : Nat) : Int)) = true from decide_eq_true (.inr rfl))]
          rfl
      · rw [if_pos (show g ≠ 24 ∨ 15 < x ∨ 6 < a ∨ a = 5 by omega)]
        have hn : ¬ (decide ((24 : Nat) = 0 ∨ (g : Int) = (24 : Nat)) = true) := fun h => by have := of_decide_eq_true h; omega
        by_cases c4 : decide (a = 1 ∨ a = 2 ∨ a = 4) = true ∧ (if a = 1 ∨ a = 2 ∨ a = 4 then typN (x : Int) else 0) = 0
        · rw [if_pos c4, if_neg (show ¬ false = true by decide)]
        · rw [if_neg c4, if_neg (show ¬ (false = true ∧ _) from fun h => by cases h.1), if_neg hn]
theorem parse_code (s : ByteArray) : codeP s = parseS s := by
  unfold codeP
  by_cases h0 : s.size = 0
  · rw [if_pos h0, parse_no (by unfold isB lenS; rw [if_pos h0]; exact decide_eq_false (fun h => h.1 rfl))]
  · rw [if_neg h0]
    by_cases hl : lenB (byt s 0) = 0
    · rw [fmI_no hl, parse_no (by unfold isB lenS; rw [if_neg h0]; exact decide_eq_false (fun h => h.1 hl))]
    · have hb : byt s 0 = 0 ∨ byt s 0 = 37 ∨ byt s 0 = 53 ∨ byt s 0 = 66 ∨ byt s 0 = 160 ∨ byt s 0 = 40 ∨ byt s 0 = 42 ∨ byt s 0 = 18 ∨ byt s 0 = 136 ∨ byt s 0 = 138 ∨ byt s 0 = 147 ∨ byt s 0 = 137 ∨ byt s 0 = 94 ∨ byt s 0 = 95 := by
        by_cases hn : byt s 0 < 256
        · exact (by decide +kernel : ∀ b, b < 256 → lenB b ≠ 0 → (b = 0 ∨ b = 37 ∨ b = 53 ∨ b = 66 ∨ b = 160 ∨ b = 40 ∨ b = 42 ∨ b = 18 ∨ b = 136 ∨ b = 138 ∨ b = 147 ∨ b = 137 ∨ b = 94 ∨ b = 95)) _ hn hl
        · exact absurd (byt_lt s 0) hn
      rcases hb with hb | hb | hb | hb | hb | hb | hb | hb | hb | hb | hb | hb | hb | hb
      · rw [show fmI (byt s 0 : Int) = some 0 by rw [hb]; decide +kernel]
        show (if s.size ≠ 6 ∨ byt s 5 ≠ 0 then none else _) = _
        have hi := isB_at (N := 6) h0 hb rfl (by decide)
        by_cases hc : s.size ≠ 6 ∨ byt s 5 ≠ 0
        · rw [if_pos hc, parse_no (hi.trans (decide_eq_false (fun h => h hc)))]
        · rw [if_neg hc, parse_yes (hi.trans (decide_eq_true hc))]
          exact cask_0 hb (by omega)
      · rw [show fmI (byt s 0 : Int) = some 2 by rw [hb]; decide +kernel]
        show (if s.size ≠ 10 ∨ byt s 9 ≠ 0 then none else _) = _
        have hi := isB_at (N := 10) h0 hb rfl (by decide)
        by_cases hc : s.size ≠ 10 ∨ byt s 9 ≠ 0
        · rw [if_pos hc, parse_no (hi.trans (decide_eq_false (fun h => h hc)))]
        · rw [if_neg hc, parse_yes (hi.trans (decide_eq_true hc))]
          exact cask_37 hb (by omega)
      · rw [show fmI (byt s 0 : Int) = some 7 by rw [hb]; decide +kernel]
        show (if s.size ≠ 10 ∨ byt s 9 ≠ 0 then none else _) = _
        have hi := isB_at (N := 10) h0 hb rfl (by decide)
        by_cases hc : s.size ≠ 10 ∨ byt s 9 ≠ 0
        · rw [if_pos hc, parse_no (hi.trans (decide_eq_false (fun h => h hc)))]
        · rw [if_neg hc, parse_yes (hi.trans (decide_eq_true hc))]
          exact cask_53 hb (by omega)
      · rw [show fmI (byt s 0 : Int) = some 8 by rw [hb]; decide +kernel]
        show (if s.size ≠ 10 ∨ byt s 9 ≠ 0 then none else _) = _
        have hi := isB_at (N := 10) h0 hb rfl (by decide)
        by_cases hc : s.size ≠ 10 ∨ byt s 9 ≠ 0
        · rw [if_pos hc, parse_no (hi.trans (decide_eq_false (fun h => h hc)))]
        · rw [if_neg hc, parse_yes (hi.trans (decide_eq_true hc))]
          exact cask_66 hb (by omega)
      · rw [show fmI (byt s 0 : Int) = some 13 by rw [hb]; decide +kernel]
        show (if s.size ≠ 12 ∨ byt s 11 ≠ 0 then none else _) = _
        have hi := isB_at (N := 12) h0 hb rfl (by decide)
        by_cases hc : s.size ≠ 12 ∨ byt s 11 ≠ 0
        · rw [if_pos hc, parse_no (hi.trans (decide_eq_false (fun h => h hc)))]
        · rw [if_neg hc, parse_yes (hi.trans (decide_eq_true hc))]
          exact cask_160 hb (by omega)
      · rw [show fmI (byt s 0 : Int) = some 3 by rw [hb]; decide +kernel]
        show (if s.size ≠ 10 ∨ byt s 9 ≠ 0 then none else _) = _
        have hi := isB_at (N := 10) h0 hb rfl (by decide)
        by_cases hc : s.size ≠ 10 ∨ byt s 9 ≠ 0
        · rw [if_pos hc, parse_no (hi.trans (decide_eq_false (fun h => h hc)))]
        · rw [if_neg hc, parse_yes (hi.trans (decide_eq_true hc))]
          exact cask_40 hb (by omega)
      · rw [show fmI (byt s 0 : Int) = some 5 by rw [hb]; decide +kernel]
        show (if s.size ≠ 10 ∨ byt s 9 ≠ 0 then none else _) = _
        have hi := isB_at (N := 10) h0 hb rfl (by decide)
        by_cases hc : s.size ≠ 10 ∨ byt s 9 ≠ 0
        · rw [if_pos hc, parse_no (hi.trans (decide_eq_false (fun h => h hc)))]
        · rw [if_neg hc, parse_yes (hi.trans (decide_eq_true hc))]
          exact cask_42 hb (by omega)
      · rw [show fmI (byt s 0 : Int) = some 1 by rw [hb]; decide +kernel]
        show (if s.size ≠ 6 ∨ byt s 5 ≠ 0 then none else _) = _
        have hi := isB_at (N := 6) h0 hb rfl (by decide)
        by_cases hc : s.size ≠ 6 ∨ byt s 5 ≠ 0
        · rw [if_pos hc, parse_no (hi.trans (decide_eq_false (fun h => h hc)))]
        · rw [if_neg hc, parse_yes (hi.trans (decide_eq_true hc))]
          exact cask_18 hb (by omega)
      · rw [show fmI (byt s 0 : Int) = some 4 by rw [hb]; decide +kernel]
        show (if s.size ≠ 16 ∨ byt s 15 ≠ 0 then none else _) = _
        have hi := isB_at (N := 16) h0 hb rfl (by decide)
        by_cases hc : s.size ≠ 16 ∨ byt s 15 ≠ 0
        · rw [if_pos hc, parse_no (hi.trans (decide_eq_false (fun h => h hc)))]
        · rw [if_neg hc, parse_yes (hi.trans (decide_eq_true hc))]
          exact cask_136 hb (by omega)
      · rw [show fmI (byt s 0 : Int) = some 6 by rw [hb]; decide +kernel]
        show (if s.size ≠ 16 ∨ byt s 15 ≠ 0 then none else _) = _
        have hi := isB_at (N := 16) h0 hb rfl (by decide)
        by_cases hc : s.size ≠ 16 ∨ byt s 15 ≠ 0
        · rw [if_pos hc, parse_no (hi.trans (decide_eq_false (fun h => h hc)))]
        · rw [if_neg hc, parse_yes (hi.trans (decide_eq_true hc))]
          exact cask_138 hb (by omega)
      · rw [show fmI (byt s 0 : Int) = some 10 by rw [hb]; decide +kernel]
        show (if s.size ≠ 16 ∨ byt s 15 ≠ 0 then none else _) = _
        have hi := isB_at (N := 16) h0 hb rfl (by decide)
        by_cases hc : s.size ≠ 16 ∨ byt s 15 ≠ 0
        · rw [if_pos hc, parse_no (hi.trans (decide_eq_false (fun h => h hc)))]
        · rw [if_neg hc, parse_yes (hi.trans (decide_eq_true hc))]
          exact cask_147 hb (by omega)
      · rw [show fmI (byt s 0 : Int) = some 9 by rw [hb]; decide +kernel]
        show (if s.size ≠ 16 ∨ byt s 15 ≠ 0 then none else _) = _
        have hi := isB_at (N := 16) h0 hb rfl (by decide)
        by_cases hc : s.size ≠ 16 ∨ byt s 15 ≠ 0
        · rw [if_pos hc, parse_no (hi.trans (decide_eq_false (fun h => h hc)))]
        · rw [if_neg hc, parse_yes (hi.trans (decide_eq_true hc))]
          exact cask_137 hb (by omega)
      · rw [show fmI (byt s 0 : Int) = some 11 by rw [hb]; decide +kernel]
        show (if s.size ≠ 10 ∨ byt s 9 ≠ 0 then none else _) = _
        have hi := isB_at (N := 10) h0 hb rfl (by decide)
        by_cases hc : s.size ≠ 10 ∨ byt s 9 ≠ 0
        · rw [if_pos hc, parse_no (hi.trans (decide_eq_false (fun h => h hc)))]
        · rw [if_neg hc, parse_yes (hi.trans (decide_eq_true hc))]
          exact cask_94 hb (by omega)
      · rw [show fmI (byt s 0 : Int) = some 12 by rw [hb]; decide +kernel]
        show (if s.size ≠ 10 ∨ byt s 9 ≠ 0 then none else _) = _
        have hi := isB_at (N := 10) h0 hb rfl (by decide)
        by_cases hc : s.size ≠ 10 ∨ byt s 9 ≠ 0
        · rw [if_pos hc, parse_no (hi.trans (decide_eq_false (fun h => h hc)))]
        · rw [if_neg hc, parse_yes (hi.trans (decide_eq_true hc))]
          exact cask_95 hb (by omega)
end Go.Proofs.YtaachlijpgmjeaaDoor
