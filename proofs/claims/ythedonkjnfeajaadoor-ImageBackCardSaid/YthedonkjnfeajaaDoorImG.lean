/- What a good table is, in plain words; which tables are not large. -/
import Derived.Test.YthedonkjnfeajaaDoorReV
namespace Go.Proofs.YthedonkjnfeajaaDoor
open Go.RowKit
theorem ba_ext {a b : ByteArray} (h : a.toList = b.toList) : a = b := by
  rw [ByteArray.toList_eq, ByteArray.toList_eq] at h
  exact ByteArray.ext (Array.toList_inj.1 h)
theorem eqS_iff {a b : ByteArray} : eqS a b = true ↔ a = b := by
  unfold eqS
  rw [beq_iff_eq]
  exact ⟨ba_ext, fun h => by rw [h]⟩
theorem eqS_no {a b : ByteArray} : eqS a b = false ↔ a ≠ b := by
  rw [← Bool.not_eq_true, eqS_iff]
theorem eqS_self (a : ByteArray) : eqS a a = true := eqS_iff.2 rfl
theorem mt_iff {a : ByteArray} : a.toList.isEmpty = true ↔ a = ⟨#[]⟩ := by
  rw [List.isEmpty_iff]
  constructor
  · intro h; exact ba_ext (h.trans (by rw [ByteArray.toList_eq]))
  · rintro rfl; rw [ByteArray.toList_eq]
theorem name_size {s : ByteArray} (h : nameB s = true) : 1 ≤ s.size ∧ s.size ≤ 64 := by
  have := of_decide_eq_true h
  exact ⟨this.1, this.2.1⟩
theorem name_ne {s : ByteArray} (h : nameB s = true) : s ≠ ⟨#[]⟩ := by
  rintro rfl
  have := (name_size h).1
  exact absurd this (by decide)
theorem regB_iff {l : List Rg} {h : ByteArray} : regB l h = true ↔ ∃ x ∈ l, x.h = h := by
  unfold regB
  rw [List.any_eq_true]
  exact ⟨fun ⟨x, hx, he⟩ => ⟨x, hx, eqS_iff.1 he⟩, fun ⟨x, hx, he⟩ => ⟨x, hx, eqS_iff.2 he⟩⟩
theorem regB_no {l : List Rg} {h : ByteArray} : regB l h = false ↔ ∀ x ∈ l, x.h ≠ h := by
  rw [← Bool.not_eq_true, regB_iff]
  exact ⟨fun hn x hx he => hn ⟨x, hx, he⟩, fun hn ⟨x, hx, he⟩ => hn x hx he⟩
/-- Each host stands once. -/
abbrev Once (l : List Rg) : Prop := l.Pairwise fun a b => a.h ≠ b.h
/-- Registrations that are good. -/
structure RegsP (l : List Rg) : Prop where
  len : l.length ≤ 16
  nm : ∀ x ∈ l, nameB x.h = true
  ky : ∀ x ∈ l, x.k ≠ 0
  un : Once l
def HoldP (t : Tl) : Prop := (t.ty = 0 ∧ t.ho = ⟨#[]⟩) ∨ ((t.ty = 5 ∨ t.ty = 6) ∧ t.ho = ⟨#[]⟩ ∧ 0 < t.rs.length) ∨ ((1 ≤ t.ty ∧ t.ty ≤ 4) ∧ regB t.rs t.ho = true)
theorem okTo_iff {l : List Rg} : ∀ n, okTo l n = true ↔ ∀ k, k < n → okAt l k = true
  | 0 => ⟨fun _ k hk => absurd hk (Nat.not_lt_zero _), fun _ => rfl⟩
  | n + 1 => by
    show (okTo l n && okAt l n) = true ↔ _
    rw [Bool.and_eq_true, okTo_iff n]
    constructor
    · rintro ⟨h1, h2⟩ k hk
      by_cases e : k = n
      · rw [e]; exact h2
      · exact h1 k (by omega)
    · intro h; exact ⟨fun k hk => h k (by omega), h n (by omega)⟩
theorem okAt_iff {l : List Rg} {k : Nat} {x : Rg} (hx : l[k]? = some x) : okAt l k = true ↔ x.k ≠ 0 ∧ nameB x.h = true ∧ regB (l.take k) x.h = false := by
  unfold okAt
  rw [hx]
  simp only [Bool.and_eq_true, bne_iff_ne, Bool.not_eq_true', and_assoc]
theorem regsB_iff {l : List Rg} : regsB l = true ↔ RegsP l := by
  unfold regsB
  rw [Bool.and_eq_true, decide_eq_true_eq, okTo_iff]
  constructor
  · rintro ⟨h1, h2⟩
    have hk : ∀ (k : Nat) (hk : k < l.length), l[k].k ≠ 0 ∧ nameB l[k].h = true ∧ regB (l.take k) l[k].h = false := fun k hk => (okAt_iff (List.getElem?_eq_getElem hk)).1 (h2 k hk)
    refine ⟨h1, fun x hx => ?_, fun x hx => ?_, ?_⟩
    · obtain ⟨k, hkl, rfl⟩ := List.getElem_of_mem hx; exact (hk k hkl).2.1
    · obtain ⟨k, hkl, rfl⟩ := List.getElem_of_mem hx; exact (hk k hkl).1
    · refine List.pairwise_iff_getElem.2 ?_
      intro i j hi hj hij
      exact regB_no.1 (hk j hj).2.2 l[i] (by rw [List.mem_take_iff_getElem]; exact ⟨i, by omega, rfl⟩)
  · rintro ⟨h1, h2, h3, h4⟩
    refine ⟨h1, fun k hk => (okAt_iff (List.getElem?_eq_getElem hk)).2 ⟨h3 _ (List.getElem_mem hk), h2 _ (List.getElem_mem hk), regB_no.2 fun x hx => ?_⟩⟩
    obtain ⟨i, hi, rfl⟩ := List.mem_take_iff_getElem.1 hx
    exact (List.pairwise_iff_getElem.1 h4) i k (by omega) hk (by omega)
theorem sh_iff {n : Int} : shB n = true ↔ n = 5 ∨ n = 6 := decide_eq_true_iff
theorem type_iff {n : Int} : typeB n = true ↔ 0 < n ∧ n < 7 := decide_eq_true_iff
theorem holdB_iff {t : Tl} : holdB t = true ↔ HoldP t := by
  unfold holdB HoldP
  by_cases h0 : t.ty = 0
  · rw [if_pos h0, mt_iff]
    constructor
    · intro h; exact .inl ⟨h0, h⟩
    · rintro (⟨_, h⟩ | ⟨h, _⟩ | ⟨h, _⟩)
      · exact h
      · omega
      · omega
  · rw [if_neg h0]
    by_cases h1 : shB t.ty = true
    · have h1' := sh_iff.1 h1
      rw [if_pos h1, Bool.and_eq_true, mt_iff, decide_eq_true_eq]
      constructor
      · intro h; exact .inr (.inl ⟨h1', h⟩)
      · rintro (⟨h, _⟩ | ⟨_, h⟩ | ⟨h, _⟩)
        · omega
        · exact h
        · omega
    · have h1' : ¬ (t.ty = 5 ∨ t.ty = 6) := fun h => h1 (sh_iff.2 h)
      rw [if_neg h1, Bool.and_eq_true, type_iff]
      constructor
      · rintro ⟨h, hr⟩; exact .inr (.inr ⟨by omega, hr⟩)
      · rintro (⟨h, _⟩ | ⟨h, _⟩ | ⟨h, hr⟩)
        · omega
        · exact absurd h h1'
        · exact ⟨by omega, hr⟩
/-- A good table. -/
structure GoodP (t : Tl) : Prop extends RegsP t.rs where
  hold : HoldP t
theorem goodB_iff {t : Tl} : goodB t = true ↔ GoodP t := by
  unfold goodB
  rw [Bool.and_eq_true, regsB_iff, holdB_iff]
  exact ⟨fun ⟨a, b⟩ => ⟨a, b⟩, fun ⟨a, b⟩ => ⟨a, b⟩⟩
theorem RegsP.sub {l l' : List Rg} (h : RegsP l) (hs : l'.Sublist l) : RegsP l' :=
  ⟨Nat.le_trans hs.length_le h.len, fun x hx => h.nm x (hs.subset hx), fun x hx => h.ky x (hs.subset hx), h.un.sublist hs⟩
theorem RegsP.sizes {l : List Rg} (h : RegsP l) : ∀ x ∈ l, x.h.size ≤ 64 := fun x hx => (name_size (h.nm x hx)).2
theorem take_sizes {l : List Rg} {k : Nat} {x : Rg} (h : ∀ y ∈ l.take k, y.h.size ≤ 1000) (hx : l[k]? = some x) (hs : x.h.size ≤ 1000) : ∀ y ∈ l.take (k + 1), y.h.size ≤ 1000 := by
  obtain ⟨hk, rfl⟩ := List.getElem?_eq_some_iff.1 hx
  rw [List.take_succ_eq_append_getElem hk]
  intro y hy
  rcases List.mem_append.1 hy with q | q
  · exact h y q
  · rw [List.mem_singleton.1 q]; exact hs
/-- A table that is not large. -/
def Small (t : Tl) : Prop := t.rs.length ≤ 200 ∧ t.ho.size ≤ 1000 ∧ ∀ x ∈ t.rs, x.h.size ≤ 1000
def LgX (t : Tl) (w : World) (e : Ending) (w' : World) : Prop := ∃ r : Bool, e = .returned (.bool r) ∧ (r = false → Small t) ∧ Below w.heap.size w w'
set_option maxRecDepth 100000 in
set_option maxHeartbeats 2000000 in
theorem largeX_any (A : Option Addr) (c : Nat) (t : Tl) (w : World) (hl : Rgs w A t.rs) (hm : t.rs.length ≤ maxLen) :
    Calls Tryd.prog 8 #[tlV A c t] w (LgX t w) := by
  unfold maxLen at hm
  obtain ⟨h1, h2, h3⟩ := tl_box w A c t _ rfl
  have HT := Lib.hid h1; have HB := Lib.hid h2
  have HL := Lib.hid (hl.below h2)
  clear h1 h2 h3 hl
  by_cases g1 : 200 < t.rs.length
  · have i1 : (200 : Int) < t.rs.length := by omega
    clear g1
    go_enter Tryd.func8, Tryd.ntmps8
    go_upto_region 1 with (fail)
    change Code.wp _ _ _ _ (w.alloc (.cells (tlC A c t) 27))
    generalize w.alloc (.cells (tlC A c t) 27) = w0 at *
    have c0 : w0.cell? ⟨w.heap.size, 0, none⟩ = some (.slice A t.rs.length c) := HT.out.cell 0
    have c2 : w0.cell? ⟨w.heap.size, 2, none⟩ = some (.string t.ho) := HT.out.cell 2
    go_wp2_with (fail)
    go_ret
    exact ⟨true, rfl, (fun h => by cases h), HB.out⟩
  · have i1 : ¬ (200 : Int) < t.rs.length := by omega
    by_cases g2 : 1000 < t.ho.size
    · have i2 : (1000 : Int) < t.ho.size := by omega
      clear g2
      go_enter Tryd.func8, Tryd.ntmps8
      go_upto_region 1 with (fail)
      change Code.wp _ _ _ _ (w.alloc (.cells (tlC A c t) 27))
      generalize w.alloc (.cells (tlC A c t) 27) = w0 at *
      have c0 : w0.cell? ⟨w.heap.size, 0, none⟩ = some (.slice A t.rs.length c) := HT.out.cell 0
      have c2 : w0.cell? ⟨w.heap.size, 2, none⟩ = some (.string t.ho) := HT.out.cell 2
      go_wp2_with (fail)
      go_ret
      exact ⟨true, rfl, (fun h => by cases h), HB.out⟩
    · have i2 : ¬ (1000 : Int) < t.ho.size := by omega
      have HG := Lib.hid (show t.rs.length ≤ 200 ∧ t.ho.size ≤ 1000 by omega)
      clear g1 g2
      go_enter Tryd.func8, Tryd.ntmps8
      go_upto_region 1 with (fail)
      change Code.wp _ _ _ _ (w.alloc (.cells (tlC A c t) 27))
      generalize w.alloc (.cells (tlC A c t) 27) = w0 at *
      have c0 : w0.cell? ⟨w.heap.size, 0, none⟩ = some (.slice A t.rs.length c) := HT.out.cell 0
      have c2 : w0.cell? ⟨w.heap.size, 2, none⟩ = some (.string t.ho) := HT.out.cell 2
      go_wp2_with (fail)
      go_loop [3] (fun i => ∃ k : Nat, k ≤ t.rs.length ∧ i = .int .i64 k ∧ Hid (∀ x ∈ t.rs.take k, x.h.size ≤ 1000)) (fun i => t.rs.length - (intOf i).toNat)
      case atStart => exact ⟨0, Nat.zero_le _, rfl, Lib.hid (fun x hx => by simp at hx)⟩
      case round =>
        obtain ⟨k, hk, rfl, HT1⟩ := hrel
        by_cases hlt : k < t.rs.length
        · obtain ⟨b, o, x, rfl, hx, hz, d0, d1⟩ := HL.out.at_ hlt
          have HX := Lib.hid hx
          clear hx
          by_cases g3 : 1000 < x.h.size
          · have i3 : (1000 : Int) < x.h.size := by omega
            clear g3
            go_wp2_with (fail)
            go_ret
            exact ⟨true, rfl, (fun h => by cases h), HB.out⟩
          · have i3 : ¬ (1000 : Int) < x.h.size := by omega
            have HK := Lib.hid (take_sizes HT1.out HX.out (by omega : x.h.size ≤ 1000))
            clear g3
            go_wp2_with (fail)
            go_round
            case rel => exact ⟨k + 1, by omega, by go_num, HK⟩
            case measure => simp [intOf]; omega
        · obtain rfl : k = t.rs.length := by omega
          go_wp2_with (fail)
          go_ret
          exact ⟨false, rfl, (fun _ => ⟨HG.out.1, HG.out.2, by have := HT1.out; rw [List.take_length] at this; exact this⟩), HB.out⟩
end Go.Proofs.YthedonkjnfeajaaDoor
