/- The document's own image of a table. -/
import Derived.Test.YthedonkjnfeajaaDoorImX
import Derived.Test.YthedonkjnfeajaaDoorImY
import Derived.Test.YthedonkjnfeajaaDoorImR
namespace Go.Proofs.YthedonkjnfeajaaDoor
open Go.RowKit
theorem conv_bytes (w : World) (g : Nat) (l : List UInt8) (h : ∀ j (hj : j < l.length), w.cell? ⟨g, j, none⟩ = some (.int .u8 (l[j].toNat : Int))) (n : Nat) (hn : l.length = n) :
    Sem.run Tryd.prog (convert 44 9 (Value.slice (some { block := g, off := 0 }) n n)) w = Result.ok (Value.string (baL l)) w := by
  subst hn
  exact run_convert_bytes_back (P := Tryd.prog) _ 44 9 5 ⟨g, 0, none⟩ l.length l Tryd.underlying44 Tryd.underlying5 Tryd.underlying9 (fun j hj => by
    rw [Addr.add_lit, Nat.zero_add]
    exact h j hj)
/-- The holder's place as far as so many registrations tell it. -/
def atK (t : Tl) (k : Nat) : Nat := if regB (t.rs.take k) t.ho = true then atN t else 0
theorem atK_zero (t : Tl) : atK t 0 = 0 := rfl
theorem atK_all (t : Tl) : atK t t.rs.length = atN t := by
  unfold atK
  rw [List.take_length]
  split
  · rfl
  · next h =>
    have : regB t.rs t.ho = false := by simpa using h
    unfold atN
    rw [findR_none this]; rfl
theorem atK_other {t : Tl} {k : Nat} {x : Rg} (hx : t.rs[k]? = some x) (he : eqS x.h t.ho = false) : atK t (k + 1) = atK t k := by
  unfold atK
  rw [regB_take _ _ _ _ hx, he, Bool.or_false]
theorem atK_empty {t : Tl} (hg : GoodP t) (he : t.ho = ⟨#[]⟩) (k : Nat) : atK t k = 0 := by
  unfold atK
  rw [if_neg]
  intro h
  obtain ⟨x, hx, hh⟩ := regB_iff.1 h
  exact name_ne (hg.nm x (List.mem_of_mem_take hx)) (hh.trans he)
theorem atK_here {t : Tl} (hg : GoodP t) {k : Nat} {x : Rg} (hx : t.rs[k]? = some x) (he : eqS x.h t.ho = true) : atK t (k + 1) = k + 1 := by
  obtain ⟨hk, hxe⟩ := List.getElem?_eq_some_iff.1 hx
  have hp : regB (t.rs.take k) t.ho = false := regB_no.2 fun y hy hh => by
    obtain ⟨j, hj, rfl⟩ := List.mem_take_iff_getElem.1 hy
    have h2 := List.pairwise_iff_getElem.1 hg.un j k (by omega) hk (by omega)
    apply h2
    rw [hxe]
    exact hh.trans (eqS_iff.1 he).symm
  unfold atK
  rw [regB_take _ _ _ _ hx, he, Bool.or_true, if_pos rfl]
  unfold atN
  rw [findR_here hp hx he]
  omega
theorem one_nL (x : Nat) : nL x 1 = [UInt8.ofNat x] := by
  unfold nL outB
  simp [hiG]
theorem head_bytes (t : Tl) : (⟨#[72, 71, 82, 84]⟩ : ByteArray) ++ putHi t.ge.toNat 4 ++ baL [UInt8.ofNat t.ty.toNat, UInt8.ofNat (atN t), UInt8.ofNat (apN t.ap), UInt8.ofNat t.rs.length] = baL (headL t) := by
  apply lst_inj
  rw [lst_append, lst_append, lst_baL, lst_baL, ← head_snoc, one_nL, one_nL, one_nL, one_nL]
  have := putHi_lst (x := t.ge.toNat) (n := 4) (by decide) (by decide)
  rw [show ((4 : Nat) : Int) = 4 from rfl] at this
  rw [this]
  simp [lst, mkL]
end Go.Proofs.YthedonkjnfeajaaDoor
