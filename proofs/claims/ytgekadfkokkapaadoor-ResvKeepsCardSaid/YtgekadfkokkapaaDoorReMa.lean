/- What good tables are, apart from any world; what a change makes of them. -/
import Derived.Test.YtgekadfkokkapaaDoorReV
import Derived.Test.YtgekadfkokkapaaDoorReP
import Derived.Test.YtgekadfkokkapaaDoorReQ
import Derived.Test.YtgekadfkokkapaaDoorReR
import Derived.Test.YtgekadfkokkapaaDoorReS
namespace Go.Proofs.YtgekadfkokkapaaDoor
open Go.RowKit
theorem ba_ext {a b : ByteArray} (h : a.toList = b.toList) : a = b := by
  rw [ByteArray.toList_eq, ByteArray.toList_eq] at h
  exact ByteArray.ext (Array.toList_inj.1 h)
theorem eqS_iff {a b : ByteArray} : eqS a b = true ↔ a = b := by
  unfold eqS
  rw [beq_iff_eq]
  exact ⟨ba_ext, fun h => by rw [h]⟩
theorem eqS_no {a b : ByteArray} : eqS a b = false ↔ a ≠ b := by
  rw [← Bool.not_eq_true, eqS_iff]
theorem eqS_self (a : ByteArray) : eqS a a = true := eqS_iff.2 rfl
theorem mt_iff {a : ByteArray} : a.toList.isEmpty = true ↔ a = ⟨#[]⟩ := by
  rw [List.isEmpty_iff]
  constructor
  · intro h; exact ba_ext (h.trans (by rw [ByteArray.toList_eq]))
  · rintro rfl; rw [ByteArray.toList_eq]
theorem name_size {s : ByteArray} (h : nameB s = true) : 1 ≤ s.size ∧ s.size ≤ 64 := by
  have := of_decide_eq_true h
  exact ⟨this.1, this.2.1⟩
theorem name_ne {s : ByteArray} (h : nameB s = true) : s ≠ ⟨#[]⟩ := by
  rintro rfl
  have := (name_size h).1
  exact absurd this (by decide)
theorem regB_iff {l : List Rg} {h : ByteArray} : regB l h = true ↔ ∃ x ∈ l, x.h = h := by
  unfold regB
  rw [List.any_eq_true]
  exact ⟨fun ⟨x, hx, he⟩ => ⟨x, hx, eqS_iff.1 he⟩, fun ⟨x, hx, he⟩ => ⟨x, hx, eqS_iff.2 he⟩⟩
theorem regB_no {l : List Rg} {h : ByteArray} : regB l h = false ↔ ∀ x ∈ l, x.h ≠ h := by
  rw [← Bool.not_eq_true, regB_iff]
  exact ⟨fun hn x hx he => hn ⟨x, hx, he⟩, fun hn ⟨x, hx, he⟩ => hn x hx he⟩
/-- Each host stands once. -/
abbrev Once (l : List Rg) : Prop := l.Pairwise fun a b => a.h ≠ b.h
/-- Registrations that are good. -/
structure RegsP (l : List Rg) : Prop where
  len : l.length ≤ 16
  nm : ∀ x ∈ l, nameB x.h = true
  ky : ∀ x ∈ l, x.k ≠ 0
  un : Once l
def HoldP (t : Tl) : Prop := (t.ty = 0 ∧ t.ho = ⟨#[]⟩) ∨ ((t.ty = 5 ∨ t.ty = 6) ∧ t.ho = ⟨#[]⟩ ∧ 0 < t.rs.length) ∨ ((1 ≤ t.ty ∧ t.ty ≤ 4) ∧ regB t.rs t.ho = true)
theorem okTo_iff {l : List Rg} : ∀ n, okTo l n = true ↔ ∀ k, k < n → okAt l k = true
  | 0 => ⟨fun _ k hk => absurd hk (Nat.not_lt_zero _), fun _ => rfl⟩
  | n + 1 => by
    show (okTo l n && okAt l n) = true ↔ _
    rw [Bool.and_eq_true, okTo_iff n]
    constructor
    · rintro ⟨h1, h2⟩ k hk
      by_cases e : k = n
      · rw [e]; exact h2
      · exact h1 k (by omega)
    · intro h; exact ⟨fun k hk => h k (by omega), h n (by omega)⟩
theorem okAt_iff {l : List Rg} {k : Nat} {x : Rg} (hx : l[k]? = some x) : okAt l k = true ↔ x.k ≠ 0 ∧ nameB x.h = true ∧ regB (l.take k) x.h = false := by
  unfold okAt
  rw [hx]
  simp only [Bool.and_eq_true, bne_iff_ne, Bool.not_eq_true', and_assoc]
theorem regsB_iff {l : List Rg} : regsB l = true ↔ RegsP l := by
  unfold regsB
  rw [Bool.and_eq_true, decide_eq_true_eq, okTo_iff]
  constructor
  · rintro ⟨h1, h2⟩
    have hk : ∀ (k : Nat) (hk : k < l.length), l[k].k ≠ 0 ∧ nameB l[k].h = true ∧ regB (l.take k) l[k].h = false := fun k hk => (okAt_iff (List.getElem?_eq_getElem hk)).1 (h2 k hk)
    refine ⟨h1, fun x hx => ?_, fun x hx => ?_, ?_⟩
    · obtain ⟨k, hkl, rfl⟩ := List.getElem_of_mem hx; exact (hk k hkl).2.1
    · obtain ⟨k, hkl, rfl⟩ := List.getElem_of_mem hx; exact (hk k hkl).1
    · refine List.pairwise_iff_getElem.2 ?_
      intro i j hi hj hij
      exact regB_no.1 (hk j hj).2.2 l[i] (by rw [List.mem_take_iff_getElem]; exact ⟨i, by omega, rfl⟩)
  · rintro ⟨h1, h2, h3, h4⟩
    refine ⟨h1, fun k hk => (okAt_iff (List.getElem?_eq_getElem hk)).2 ⟨h3 _ (List.getElem_mem hk), h2 _ (List.getElem_mem hk), regB_no.2 fun x hx => ?_⟩⟩
    obtain ⟨i, hi, rfl⟩ := List.mem_take_iff_getElem.1 hx
    exact (List.pairwise_iff_getElem.1 h4) i k (by omega) hk (by omega)
theorem sh_iff {n : Int} : shB n = true ↔ n = 5 ∨ n = 6 := decide_eq_true_iff
theorem type_iff {n : Int} : typeB n = true ↔ 0 < n ∧ n < 7 := decide_eq_true_iff
theorem holdB_iff {t : Tl} : holdB t = true ↔ HoldP t := by
  unfold holdB HoldP
  by_cases h0 : t.ty = 0
  · rw [if_pos h0, mt_iff]
    constructor
    · intro h; exact .inl ⟨h0, h⟩
    · rintro (⟨_, h⟩ | ⟨h, _⟩ | ⟨h, _⟩)
      · exact h
      · omega
      · omega
  · rw [if_neg h0]
    by_cases h1 : shB t.ty = true
    · have h1' := sh_iff.1 h1
      rw [if_pos h1, Bool.and_eq_true, mt_iff, decide_eq_true_eq]
      constructor
      · intro h; exact .inr (.inl ⟨h1', h⟩)
      · rintro (⟨h, _⟩ | ⟨_, h⟩ | ⟨h, _⟩)
        · omega
        · exact h
        · omega
    · have h1' : ¬ (t.ty = 5 ∨ t.ty = 6) := fun h => h1 (sh_iff.2 h)
      rw [if_neg h1, Bool.and_eq_true, type_iff]
      constructor
      · rintro ⟨h, hr⟩; exact .inr (.inr ⟨by omega, hr⟩)
      · rintro (⟨h, _⟩ | ⟨h, _⟩ | ⟨h, hr⟩)
        · omega
        · exact absurd h h1'
        · exact ⟨by omega, hr⟩
/-- A good table. -/
structure GoodP (t : Tl) : Prop extends RegsP t.rs where
  hold : HoldP t
theorem goodB_iff {t : Tl} : goodB t = true ↔ GoodP t := by
  unfold goodB
  rw [Bool.and_eq_true, regsB_iff, holdB_iff]
  exact ⟨fun ⟨a, b⟩ => ⟨a, b⟩, fun ⟨a, b⟩ => ⟨a, b⟩⟩
theorem RegsP.sub {l l' : List Rg} (h : RegsP l) (hs : l'.Sublist l) : RegsP l' :=
  ⟨Nat.le_trans hs.length_le h.len, fun x hx => h.nm x (hs.subset hx), fun x hx => h.ky x (hs.subset hx), h.un.sublist hs⟩
theorem RegsP.sizes {l : List Rg} (h : RegsP l) : ∀ x ∈ l, x.h.size ≤ 64 := fun x hx => (name_size (h.nm x hx)).2
theorem keyR_of {l : List Rg} (hu : Once l) {x : Rg} (hx : x ∈ l) : keyR l x.h = x.k := by
  induction l with
  | nil => cases hx
  | cons y l ih =>
    unfold keyR
    rw [List.find?_cons]
    have hp := List.pairwise_cons.1 hu
    rcases List.mem_cons.1 hx with rfl | hm
    · rw [show isH x.h x = true from eqS_self _]
    · rw [show isH x.h y = false from eqS_no.2 (hp.1 x hm)]
      exact ih hp.2 hm
theorem keyR_zero {l : List Rg} (hg : RegsP l) {h : ByteArray} : keyR l h = 0 ↔ regB l h = false := by
  constructor
  · intro hk
    apply regB_no.2
    rintro x hx rfl
    rw [keyR_of hg.un hx] at hk
    exact hg.ky x hx hk
  · exact keyR_none
theorem keyR_pos {l : List Rg} (hg : RegsP l) {h : ByteArray} : keyR l h ≠ 0 ↔ regB l h = true := by
  rw [Ne, keyR_zero hg, Bool.not_eq_false]
theorem holds_iff {t : Tl} {h : ByteArray} : holdsB t h = true ↔ ((1 ≤ t.ty ∧ t.ty ≤ 4) ∧ h = t.ho) ∨ ((t.ty = 5 ∨ t.ty = 6) ∧ regB t.rs h = true) := by
  unfold holdsB
  by_cases ht : typeB t.ty = true
  · have := type_iff.1 ht
    rcases (show t.ty = 1 ∨ t.ty = 2 ∨ t.ty = 3 ∨ t.ty = 4 ∨ t.ty = 5 ∨ t.ty = 6 by omega) with e | e | e | e | e | e <;> rw [e] <;> simp [kindN, typeB, gH, hasB, eqS_iff]
  · have hk : kindN t.ty = 0 := by unfold kindN; rw [if_neg ht]
    have := (not_congr type_iff).1 ht
    rw [hk]
    simp [gH, hasB]
    omega
theorem regd_iff {t : Tl} {m : Cm} : regdB t m = true ↔ m.ke ≠ 0 ∧ m.ke = keyR t.rs m.ho := by
  unfold regdB
  rw [Bool.and_eq_true, bne_iff_ne, beq_iff_eq]
theorem regd_reg {t : Tl} {m : Cm} (h : regdB t m = true) : regB t.rs m.ho = true := by
  obtain ⟨h1, h2⟩ := regd_iff.1 h
  cases hr : regB t.rs m.ho with
  | true => rfl
  | false => rw [keyR_none hr] at h2; exact absurd h2 h1
/-- A change is worked on. -/
def doG (t : Tl) (m : Cm) : Bool := decide (8 ≤ m.op ∧ m.op ≤ 12) && (goodB t && nameB m.ho)
def doT (t : Tl) (m : Cm) : Tl := if doG t m = true then (if m.op = 8 then regT t m else if m.op = 9 then resvT t m else if m.op = 10 then relT t m else if m.op = 11 then clearT t m else preT t m) else t
def doE (t : Tl) (m : Cm) : List Ev := if doG t m = true then (if m.op = 8 then regE t m [] else if m.op = 9 then [] else if m.op = 10 then relE t m [] else if m.op = 11 then clearE t m [] else preE t m []) else []
def doC (t : Tl) (m : Cm) : Int := if doG t m = true then (if m.op = 8 then regCode t m else if m.op = 9 then resvCode t m else if m.op = 10 then relCode t m else if m.op = 11 then clearCode t m else preCode t m) else 5
theorem doG_iff {t : Tl} {m : Cm} : doG t m = true ↔ (8 ≤ m.op ∧ m.op ≤ 12) ∧ GoodP t ∧ nameB m.ho = true := by
  unfold doG
  rw [Bool.and_eq_true, Bool.and_eq_true, decide_eq_true_eq, goodB_iff]
end Go.Proofs.YtgekadfkokkapaaDoor
