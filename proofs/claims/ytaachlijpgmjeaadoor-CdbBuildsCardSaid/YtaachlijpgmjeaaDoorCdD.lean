/- Built and parsed; cut off, or with another byte; the two forms. -/
import Derived.Test.YtaachlijpgmjeaaDoorCdC
namespace Go.Proofs.YtaachlijpgmjeaaDoor
open Go.RowKit
/-- Are two alike? -/
def sameA (a b : Ak) : Bool := a.op == b.op && a.lba == b.lba && a.blk == b.blk && a.fu == b.fu && a.page == b.page && a.want == b.want && a.ty == b.ty
theorem sameA_iff {a b : Ak} : sameA a b = true ↔ a = b := by
  unfold sameA
  simp only [Bool.and_eq_true, beq_iff_eq]
  constructor
  · rintro ⟨⟨⟨⟨⟨⟨h1, h2⟩, h3⟩, h4⟩, h5⟩, h6⟩, h7⟩
    cases a; cases b
    dsimp only at h1 h2 h3 h4 h5 h6 h7
    rw [h1, h2, h3, h4, h5, h6, h7]
  · rintro rfl
    exact ⟨⟨⟨⟨⟨⟨rfl, rfl⟩, rfl⟩, rfl⟩, rfl⟩, rfl⟩, rfl⟩
/-- The bounds that the document's Build asks first. -/
def guardA (x : Ak) : Bool := decide (0 ≤ firstA x ∧ firstA x ≤ 255 ∧ 0 ≤ x.lba ∧ 0 ≤ x.blk ∧ 0 ≤ x.want ∧ 0 ≤ x.page ∧ x.lba < 1099511627776 ∧ x.blk < 1099511627776 ∧ x.want < 1099511627776 ∧ x.page < 1099511627776)
/-- Does what is made for x ask for x? -/
def okP (x : Ak) : Bool := match parseS (makeS x) with
  | some y => sameA x y
  | none => false
theorem okP_iff {x : Ak} : okP x = true ↔ parseS (makeS x) = some x := by
  unfold okP
  cases h : parseS (makeS x) with
  | none => exact ⟨(fun h => by cases h), (fun h => by cases h)⟩
  | some y =>
    constructor
    · intro h2
      have e : x = y := sameA_iff.1 h2
      rw [e]
    · intro h2
      exact sameA_iff.2 (Option.some.inj h2).symm
/-- The block that asks for something, if there is one. -/
def buildS (x : Ak) : Option ByteArray := if guardA x = true ∧ lenB (firstA x).toNat ≠ 0 ∧ okP x = true then some (makeS x) else none
theorem lenB_small {b : Nat} (h : lenB b ≠ 0) : b ≤ 255 := by
  unfold lenB at h
  by_cases h1 : b = 0 ∨ b = 18
  · omega
  rw [if_neg h1] at h
  by_cases h2 : b = 37 ∨ b = 40 ∨ b = 42 ∨ b = 53 ∨ b = 66 ∨ b = 94 ∨ b = 95
  · omega
  rw [if_neg h2] at h
  by_cases h3 : b = 160
  · omega
  rw [if_neg h3] at h
  by_cases h4 : b = 136 ∨ b = 137 ∨ b = 138 ∨ b = 147
  · omega
  rw [if_neg h4] at h
  exact absurd rfl h
theorem lenB_most (b : Nat) : lenB b ≤ 16 := by
  unfold lenB
  by_cases h1 : b = 0 ∨ b = 18
  · rw [if_pos h1]; decide
  rw [if_neg h1]
  by_cases h2 : b = 37 ∨ b = 40 ∨ b = 42 ∨ b = 53 ∨ b = 66 ∨ b = 94 ∨ b = 95
  · rw [if_pos h2]; decide
  rw [if_neg h2]
  by_cases h3 : b = 160
  · rw [if_pos h3]; decide
  rw [if_neg h3]
  by_cases h4 : b = 136 ∨ b = 137 ∨ b = 138 ∨ b = 147
  · rw [if_pos h4]; decide
  rw [if_neg h4]; decide
theorem lenB_least {b : Nat} (h : lenB b ≠ 0) : 6 ≤ lenB b := by
  unfold lenB at h ⊢
  by_cases h1 : b = 0 ∨ b = 18
  · rw [if_pos h1]; decide
  rw [if_neg h1] at h ⊢
  by_cases h2 : b = 37 ∨ b = 40 ∨ b = 42 ∨ b = 53 ∨ b = 66 ∨ b = 94 ∨ b = 95
  · rw [if_pos h2]; decide
  rw [if_neg h2] at h ⊢
  by_cases h3 : b = 160
  · rw [if_pos h3]; decide
  rw [if_neg h3] at h ⊢
  by_cases h4 : b = 136 ∨ b = 137 ∨ b = 138 ∨ b = 147
  · rw [if_pos h4]; decide
  rw [if_neg h4] at h
  exact absurd rfl h
theorem okA_guard {y : Ak} (h : OkA y) : guardA y = true := by
  refine decide_eq_true ?_
  cases h <;> unfold firstA zA <;> dsimp only
  case bare b h => rw [if_neg (by omega)]; omega
  case inq p w hp hw => rw [if_neg (by decide)]; omega
  case inq0 w hw => rw [if_neg (by decide)]; omega
  case ten b l k f h hl hk hf => rw [if_neg (by omega)]; omega
  case six b l k f h hl hk hf => rw [if_neg (by omega)]; omega
  case cmp l k hl hk => rw [if_neg (by decide)]; omega
  case unm w hw => rw [if_neg (by decide)]; omega
  case lun w hw => rw [if_neg (by decide)]; omega
  case rin a w ha hw => rw [if_pos (by omega)]; omega
  case rout a ha => rw [if_pos (by omega)]; omega
  case rty a t ha ht => rw [if_pos (by omega)]; omega
theorem parse_blk {s : ByteArray} {y : Ak} (h : parseS s = some y) : isB s = true ∧ ask s = some y := by
  unfold parseS at h
  by_cases hb : isB s = true
  · rw [if_pos hb] at h; exact ⟨hb, h⟩
  · rw [if_neg hb] at h; cases h
theorem parse_ok {s : ByteArray} {y : Ak} (h : parseS s = some y) : OkA y ∧ lenB (firstA y).toNat = s.size := by
  obtain ⟨h1, h2⟩ := parse_blk h
  exact ask_ok h1 h2
theorem blk_len {s : ByteArray} (h : isB s = true) : lenS s = s.size ∧ 6 ≤ s.size ∧ s.size ≤ 16 ∧ lenB (byt s 0) = s.size ∧ byt s (s.size - 1) = 0 := by
  obtain ⟨h1, h2, h3⟩ := of_decide_eq_true h
  have hz : s.size ≠ 0 := by intro e; unfold lenS at h1; rw [if_pos e] at h1; exact h1 rfl
  have hl : lenS s = lenB (byt s 0) := by unfold lenS; rw [if_neg hz]
  have := lenB_least (b := byt s 0) (by rw [← hl]; exact h1)
  have := lenB_most (byt s 0)
  exact ⟨h2.symm, by omega, by omega, by omega, h3⟩
theorem build_iff {x : Ak} {s : ByteArray} : buildS x = some s ↔ OkA x ∧ s = makeS x := by
  unfold buildS
  constructor
  · intro h
    by_cases hc : guardA x = true ∧ lenB (firstA x).toNat ≠ 0 ∧ okP x = true
    · rw [if_pos hc] at h
      exact ⟨(parse_ok (okP_iff.1 hc.2.2)).1, (Option.some.inj h).symm⟩
    · rw [if_neg hc] at h; cases h
  · rintro ⟨h, rfl⟩
    obtain ⟨h1, h2⟩ := make_ok h
    obtain ⟨b1, _⟩ := parse_blk h1
    rw [if_pos ⟨okA_guard h, by rw [← h2]; have := (blk_len b1).2.1; omega, okP_iff.2 h1⟩]
/-- What is built asks what it was built for. -/
theorem build_parse {x : Ak} {s : ByteArray} (h : buildS x = some s) : parseS s = some x ∧ lenS s = s.size := by
  obtain ⟨h1, rfl⟩ := build_iff.1 h
  obtain ⟨h2, _⟩ := make_ok h1
  exact ⟨h2, (blk_len (parse_blk h2).1).1⟩
/-- What was parsed is built anew, and asks the same. -/
theorem parse_build {s : ByteArray} {y : Ak} (h : parseS s = some y) : ∃ t, buildS y = some t ∧ parseS t = some y ∧ t.size = s.size := by
  obtain ⟨h1, h2⟩ := parse_ok h
  obtain ⟨h3, h4⟩ := make_ok h1
  exact ⟨makeS y, build_iff.2 ⟨h1, rfl⟩, h3, h4.trans h2⟩
theorem isB_no {s : ByteArray} (h : s.size ≠ lenS s ∨ lenS s = 0) : parseS s = none := by
  unfold parseS
  rw [if_neg]
  intro hb
  obtain ⟨h1, h2, _⟩ := of_decide_eq_true hb
  rcases h with h | h
  · exact h h2
  · exact h1 h
/-- A block that is cut off is none. -/
theorem cut_none {s : ByteArray} (hb : isB s = true) {k : Nat} (hk : k < s.size) (t : ByteArray) (ht : t.size = k) (hs : ∀ i, i < k → byt t i = byt s i) : parseS t = none := by
  obtain ⟨h1, h2, h3, h4, h5⟩ := blk_len hb
  refine isB_no ?_
  unfold lenS
  by_cases h0 : t.size = 0
  · rw [if_pos h0]; exact .inr rfl
  · rw [if_neg h0, hs 0 (by omega), h4]; exact .inl (by omega)
/-- With a byte more, too. -/
theorem more_none {s : ByteArray} (hb : isB s = true) (t : ByteArray) (ht : t.size = s.size + 1) (hs : byt t 0 = byt s 0) : parseS t = none := by
  obtain ⟨h1, h2, h3, h4, h5⟩ := blk_len hb
  refine isB_no ?_
  unfold lenS
  rw [if_neg (by omega), hs, h4]
  exact .inl (by omega)
/-- With another last byte, too. -/
theorem last_iff {s : ByteArray} {y : Ak} (h : parseS s = some y) (t : ByteArray) (ht : t.size = s.size) (hs : ∀ i, i < s.size - 1 → byt t i = byt s i) : ((parseS t).isSome = true) ↔ byt t (s.size - 1) = 0 := by
  obtain ⟨hb, _⟩ := parse_blk h
  obtain ⟨h1, h2, h3, h4, h5⟩ := blk_len hb
  constructor
  · intro hp
    obtain ⟨z, hz⟩ := Option.isSome_iff_exists.1 hp
    have := (blk_len (parse_blk hz).1).2.2.2.2
    rw [ht] at this
    exact this
  · intro h0
    have e : t = s := bytes_of ht fun i hi => by
      by_cases hl : i < s.size - 1
      · exact hs i hl
      · rw [show i = s.size - 1 by omega, h0, h5]
    rw [e, h]; rfl
/-- A read and a write by ten bytes and by sixteen. -/
theorem form_ten {b l k : Nat} {f : Bool} (h : b = 40 ∨ b = 42) (hl : l < 2147483648) (hk : k < 65536) (hf : f = true → b = 42) : ∃ s, buildS { zA with op := (b : Int), lba := (l : Int), blk := (k : Int), fu := f } = some s ∧ s.size = 10 ∧ parseS s = some { zA with op := (b : Int), lba := (l : Int), blk := (k : Int), fu := f } := by
  have ho := OkA.ten b l k f h (by omega) hk hf
  obtain ⟨h1, h2⟩ := make_ok ho
  refine ⟨_, build_iff.2 ⟨ho, rfl⟩, h2.trans ?_, h1⟩
  rcases h with rfl | rfl <;> rfl
theorem form_six {b l k : Nat} {f : Bool} (h : b = 136 ∨ b = 138) (hl : l < 2147483648) (hk : k < 65536) (hf : f = true → b = 138) : ∃ s, buildS { zA with op := (b : Int), lba := (l : Int), blk := (k : Int), fu := f } = some s ∧ s.size = 16 ∧ parseS s = some { zA with op := (b : Int), lba := (l : Int), blk := (k : Int), fu := f } := by
  have ho := OkA.six b l k f (by omega) hl (by omega) hf
  obtain ⟨h1, h2⟩ := make_ok ho
  refine ⟨_, build_iff.2 ⟨ho, rfl⟩, h2.trans ?_, h1⟩
  rcases h with rfl | rfl <;> rfl
end Go.Proofs.YtaachlijpgmjeaaDoor
