/- What the parts of the pages and the lists come to: the mathematics. -/
import Derived.Test.YtgncllhhajjnlaaInO
namespace Go.Proofs.Ytgncllhhajjnlaa
open Go.RowKit
theorem data_len (s : ByteArray) : s.data.toList.length = s.size := by simp
theorem setB_left {s t m : ByteArray} {k : Nat} (h : k + m.size ≤ s.size) : setB (s ++ t) k m = setB s k m ++ t := by
  have ls := data_len s
  apply bytes_ext
  rw [setB_list]
  simp only [ByteArray.data_append, Array.toList_append]
  rw [setB_list, List.take_append_of_le_length (by omega), List.drop_append_of_le_length (by omega)]
  simp only [List.append_assoc]
theorem setB_right {s t m : ByteArray} {k j : Nat} (hj : j = s.size + k) : setB (s ++ t) j m = s ++ setB t k m := by
  have ls := data_len s
  subst hj
  apply bytes_ext
  rw [setB_list]
  simp only [ByteArray.data_append, Array.toList_append]
  rw [setB_list, List.take_append, List.drop_append, List.take_of_length_le (by omega), List.drop_of_length_le (by omega), ls,
    show s.size + k - s.size = k by omega, show s.size + k + m.size - s.size = k + m.size by omega]
  simp only [List.append_assoc, List.nil_append]
theorem setB_all {s m : ByteArray} (h : m.size = s.size) : setB s 0 m = m := by
  have ls := data_len s
  apply bytes_ext
  rw [setB_list, List.drop_of_length_le (by omega)]
  simp
theorem zerS_add (a b : Nat) : zerS (a + b) = zerS a ++ zerS b := by
  apply bytes_ext
  simp only [ByteArray.data_append, Array.toList_append]
  show List.replicate (a + b) (0 : UInt8) = List.replicate a 0 ++ List.replicate b 0
  rw [List.replicate_append_replicate]
theorem put_one (k : Nat) : putHi k ((1 : Nat) : Int) = ⟨#[UInt8.ofNat k]⟩ := by
  rw [putHi_yes (by decide) (by decide)]
  apply bytes_ext
  simp [outB, hiG]
theorem cap_cm (m : Nat) : cmS 8 [⟨0, putHi m ((4 : Nat) : Int)⟩, ⟨4, putHi 512 ((4 : Nat) : Int)⟩] = putHi m ((4 : Nat) : Int) ++ putHi 512 ((4 : Nat) : Int) := by
  have a1 : (putHi m ((4 : Nat) : Int)).size = 4 := putHi_size _ 4 (by decide) (by decide)
  have a2 : (putHi 512 ((4 : Nat) : Int)).size = 4 := putHi_size _ 4 (by decide) (by decide)
  have z4 := zerS_size 4
  show setB (setB (zerS (4 + 4)) 0 (putHi m ((4 : Nat) : Int))) 4 (putHi 512 ((4 : Nat) : Int)) = _
  rw [zerS_add, setB_left (by omega), setB_all (by omega), setB_right (k := 0) (by omega), setB_all (by omega)]
theorem std_cm (th : Bool) : cmS 36 [⟨0, putHi (if th = true then 0 else 127) ((1 : Nat) : Int)⟩, ⟨2, putHi 6 ((1 : Nat) : Int)⟩, ⟨3, putHi 2 ((1 : Nat) : Int)⟩, ⟨4, putHi 31 ((1 : Nat) : Int)⟩, ⟨8, ⟨#[72, 69, 65, 68, 71, 65, 84, 69]⟩⟩, ⟨16, ⟨#[66, 76, 79, 67, 75, 32, 85, 78, 73, 84, 32, 32, 32, 32, 32, 32]⟩⟩, ⟨32, ⟨#[48, 48, 48, 49]⟩⟩] = stdS th := by
  cases th
  · kernel_rfl
  · kernel_rfl
theorem list_cm : cmS 7 [⟨4, putHi 0 ((1 : Nat) : Int)⟩, ⟨5, putHi 131 ((1 : Nat) : Int)⟩, ⟨6, putHi 176 ((1 : Nat) : Int)⟩, ⟨1, putHi 0 ((1 : Nat) : Int)⟩, ⟨2, putHi 3 ((2 : Nat) : Int)⟩] = listP := by kernel_rfl
theorem lim_cm : cmS 64 [⟨5, putHi 32 ((1 : Nat) : Int)⟩, ⟨8, putHi 64 ((4 : Nat) : Int)⟩, ⟨20, putHi 4096 ((4 : Nat) : Int)⟩, ⟨24, putHi 16 ((4 : Nat) : Int)⟩, ⟨1, putHi 176 ((1 : Nat) : Int)⟩, ⟨2, putHi 60 ((2 : Nat) : Int)⟩] = limP := by kernel_rfl
theorem id_cm {id : ByteArray} (h : id.size = 16) : cmS 24 [⟨4, putHi 1 ((1 : Nat) : Int)⟩, ⟨5, putHi 1 ((1 : Nat) : Int)⟩, ⟨7, putHi 16 ((1 : Nat) : Int)⟩, ⟨8, id⟩, ⟨1, putHi 131 ((1 : Nat) : Int)⟩, ⟨2, putHi 20 ((2 : Nat) : Int)⟩] = idP ++ id := by
  have a1 : (putHi 131 ((1 : Nat) : Int)).size = 1 := putHi_size _ 1 (by decide) (by decide)
  have a2 : (putHi 20 ((2 : Nat) : Int)).size = 2 := putHi_size _ 2 (by decide) (by decide)
  have z16 := zerS_size 16
  have e : setB (setB (setB (zerS 24) 4 (putHi 1 ((1 : Nat) : Int))) 5 (putHi 1 ((1 : Nat) : Int))) 7 (putHi 16 ((1 : Nat) : Int)) = ⟨#[0, 0, 0, 0, 1, 1, 0, 16]⟩ ++ zerS 16 := by kernel_rfl
  show setB (setB (setB (setB (setB (setB (zerS 24) 4 (putHi 1 ((1 : Nat) : Int))) 5 (putHi 1 ((1 : Nat) : Int))) 7 (putHi 16 ((1 : Nat) : Int))) 8 id) 1 (putHi 131 ((1 : Nat) : Int))) 2 (putHi 20 ((2 : Nat) : Int)) = _
  have s8 : (⟨#[0, 0, 0, 0, 1, 1, 0, 16]⟩ : ByteArray).size = 8 := rfl
  have s8' : (setB ⟨#[0, 0, 0, 0, 1, 1, 0, 16]⟩ 1 (putHi 131 ((1 : Nat) : Int))).size = 8 := by rw [setB_size (by omega)]; rfl
  have e2 : setB (setB ⟨#[0, 0, 0, 0, 1, 1, 0, 16]⟩ 1 (putHi 131 ((1 : Nat) : Int))) 2 (putHi 20 ((2 : Nat) : Int)) = idP := by kernel_rfl
  rw [e, setB_right (k := 0) (by omega), setB_all (by omega), setB_left (by omega), setB_left (by omega), e2]
/-- The parts of a list of units. -/
def ptL (i : Nat) : Pt := ⟨8 * i + 9, putHi i ((1 : Nat) : Int)⟩
def ptsL (n : Nat) : Nat → List Pt
  | 0 => [⟨0, putHi (8 * n) ((4 : Nat) : Int)⟩]
  | k + 1 => ptsL n k ++ [ptL k]
theorem ptsL_length (n : Nat) : ∀ k, (ptsL n k).length = k + 1
  | 0 => rfl
  | k + 1 => by show (ptsL n k ++ [ptL k]).length = _; rw [List.length_append, ptsL_length n k]; rfl
theorem ptsL_ok (n : Nat) : ∀ k, k ≤ n → ∀ p ∈ ptsL n k, p.a < 8 + 8 * n ∧ p.a + p.t.size ≤ 8 + 8 * n
  | 0, _, p, hp => by
    obtain rfl := List.mem_singleton.1 hp
    have a1 : (putHi (8 * n) ((4 : Nat) : Int)).size = 4 := putHi_size _ 4 (by decide) (by decide)
    dsimp only
    omega
  | k + 1, hk, p, hp => by
    rcases List.mem_append.1 hp with h | h
    · exact ptsL_ok n k (by omega) p h
    · obtain rfl := List.mem_singleton.1 h
      have a1 : (putHi k ((1 : Nat) : Int)).size = 1 := putHi_size _ 1 (by decide) (by decide)
      unfold ptL
      dsimp only
      omega
theorem units_cm (n : Nat) : ∀ k, k ≤ n → cmF (zerS (8 + 8 * n)) (ptsL n k) = putHi (8 * n) ((4 : Nat) : Int) ++ zerS 4 ++ rowsL k ++ zerS (8 * (n - k))
  | 0, _ => by
    have a1 : (putHi (8 * n) ((4 : Nat) : Int)).size = 4 := putHi_size _ 4 (by decide) (by decide)
    have z4 := zerS_size 4
    show setB (zerS (8 + 8 * n)) 0 (putHi (8 * n) ((4 : Nat) : Int)) = _
    rw [show 8 + 8 * n = 4 + (4 + 8 * n) by omega, zerS_add, zerS_add, setB_left (by omega), setB_all (by omega), show rowsL 0 = ByteArray.empty from rfl, ByteArray.append_empty, ByteArray.append_assoc]
    rfl
  | k + 1, hk => by
    have a1 : (putHi k ((1 : Nat) : Int)).size = 1 := putHi_size _ 1 (by decide) (by decide)
    have a4 : (putHi (8 * n) ((4 : Nat) : Int)).size = 4 := putHi_size _ 4 (by decide) (by decide)
    have z4 := zerS_size 4
    have z1 := zerS_size 1
    have hA : (putHi (8 * n) ((4 : Nat) : Int) ++ zerS 4 ++ rowsL k).size = 8 + 8 * k := by rw [ByteArray.size_append, ByteArray.size_append, a4, z4, rowsL_size]
    show cmF _ (ptsL n k ++ [ptL k]) = _
    rw [cmF_app, units_cm n k (by omega)]
    show setB _ (8 * k + 9) (putHi k ((1 : Nat) : Int)) = _
    rw [setB_right (k := 1) (by rw [hA]; omega), show 8 * (n - k) = 1 + (1 + (6 + 8 * (n - (k + 1)))) by omega, zerS_add 1, zerS_add 1, zerS_add 6, setB_right (k := 0) (by omega), setB_left (by omega), setB_all (by omega), put_one k]
    show _ = putHi (8 * n) ((4 : Nat) : Int) ++ zerS 4 ++ (rowsL k ++ (⟨#[0]⟩ ++ ⟨#[UInt8.ofNat k]⟩ ++ zerS 6)) ++ zerS (8 * (n - (k + 1)))
    rw [show zerS 1 = ⟨#[0]⟩ from rfl]
    simp only [ByteArray.append_assoc]
/-- The parts of a list of ranges. -/
def ptA (i : Nat) (x : Rn) : Pt := ⟨8 + 16 * i, putHi x.l.toNat ((8 : Nat) : Int)⟩
def ptB (i : Nat) (x : Rn) : Pt := ⟨16 + 16 * i, putHi x.b.toNat ((4 : Nat) : Int)⟩
def ptsR (l : List Rn) : Nat → List Pt
  | 0 => [⟨0, putHi (6 + 16 * l.length) ((2 : Nat) : Int)⟩, ⟨2, putHi (16 * l.length) ((2 : Nat) : Int)⟩]
  | k + 1 => ptsR l k ++ (match l[k]? with | some x => [ptA k x, ptB k x] | none => [])
theorem ptsR_step {l : List Rn} {k : Nat} {x : Rn} (h : l[k]? = some x) : ptsR l (k + 1) = ptsR l k ++ [ptA k x, ptB k x] := by
  show ptsR l k ++ (match l[k]? with | some x => [ptA k x, ptB k x] | none => []) = _
  rw [h]
theorem ptsR_length (l : List Rn) : ∀ k, k ≤ l.length → (ptsR l k).length = 2 * k + 2
  | 0, _ => rfl
  | k + 1, hk => by rw [ptsR_step (List.getElem?_eq_getElem (show k < l.length by omega)), List.length_append, ptsR_length l k (by omega)]; rfl
theorem ptsR_ok (l : List Rn) : ∀ k, k ≤ l.length → ∀ p ∈ ptsR l k, p.a < 8 + 16 * l.length ∧ p.a + p.t.size ≤ 8 + 16 * l.length
  | 0, _, p, hp => by
    have a1 : (putHi (6 + 16 * l.length) ((2 : Nat) : Int)).size = 2 := putHi_size _ 2 (by decide) (by decide)
    have a2 : (putHi (16 * l.length) ((2 : Nat) : Int)).size = 2 := putHi_size _ 2 (by decide) (by decide)
    rcases List.mem_cons.1 hp with rfl | h
    · dsimp only; omega
    · obtain rfl := List.mem_singleton.1 h
      dsimp only; omega
  | k + 1, hk, p, hp => by
    have hx := List.getElem?_eq_getElem (show k < l.length by omega)
    rw [ptsR_step hx] at hp
    have a1 : (putHi (l[k]).l.toNat ((8 : Nat) : Int)).size = 8 := putHi_size _ 8 (by decide) (by decide)
    have a2 : (putHi (l[k]).b.toNat ((4 : Nat) : Int)).size = 4 := putHi_size _ 4 (by decide) (by decide)
    rcases List.mem_append.1 hp with h | h
    · exact ptsR_ok l k (by omega) p h
    · rcases List.mem_cons.1 h with rfl | h
      · unfold ptA; dsimp only; omega
      · obtain rfl := List.mem_singleton.1 h
        unfold ptB; dsimp only; omega
theorem ranges_cm (l : List Rn) : ∀ k, k ≤ l.length → cmF (zerS (8 + 16 * l.length)) (ptsR l k) = headR l.length ++ rowsR (l.take k) ++ zerS (16 * (l.length - k))
  | 0, _ => by
    have a1 : (putHi (6 + 16 * l.length) ((2 : Nat) : Int)).size = 2 := putHi_size _ 2 (by decide) (by decide)
    have a2 : (putHi (16 * l.length) ((2 : Nat) : Int)).size = 2 := putHi_size _ 2 (by decide) (by decide)
    have z2 := zerS_size 2
    show setB (setB (zerS (8 + 16 * l.length)) 0 (putHi (6 + 16 * l.length) ((2 : Nat) : Int))) 2 (putHi (16 * l.length) ((2 : Nat) : Int)) = _
    rw [show 8 + 16 * l.length = 2 + (2 + (4 + 16 * l.length)) by omega, zerS_add 2, zerS_add 2, zerS_add 4, setB_left (by omega), setB_all (by omega), setB_right (k := 0) (by omega), setB_left (by omega), setB_all (by omega)]
    show _ = putHi (6 + 16 * l.length) ((2 : Nat) : Int) ++ putHi (16 * l.length) ((2 : Nat) : Int) ++ zerS 4 ++ ByteArray.empty ++ _
    rw [ByteArray.append_empty]
    simp only [ByteArray.append_assoc, Nat.sub_zero]
  | k + 1, hk => by
    have hx := List.getElem?_eq_getElem (show k < l.length by omega)
    have a1 : (putHi (l[k]).l.toNat ((8 : Nat) : Int)).size = 8 := putHi_size _ 8 (by decide) (by decide)
    have a2 : (putHi (l[k]).b.toNat ((4 : Nat) : Int)).size = 4 := putHi_size _ 4 (by decide) (by decide)
    have z8 := zerS_size 8
    have z4 := zerS_size 4
    have hA : (headR l.length ++ rowsR (l.take k)).size = 8 + 16 * k := by rw [ByteArray.size_append, headR_size, rowsR_size l k (by omega)]
    rw [ptsR_step hx, cmF_app, ranges_cm l k (by omega), rowsR_step hx, ← ByteArray.append_assoc (a := headR l.length)]
    show setB (setB _ (8 + 16 * k) (putHi (l[k]).l.toNat ((8 : Nat) : Int))) (16 + 16 * k) (putHi (l[k]).b.toNat ((4 : Nat) : Int)) = _
    unfold rowR
    generalize putHi (l[k]).l.toNat ((8 : Nat) : Int) = m8 at *
    generalize putHi (l[k]).b.toNat ((4 : Nat) : Int) = m4 at *
    generalize headR l.length ++ rowsR (l.take k) = A at *
    rw [show 16 * (l.length - k) = 8 + (4 + (4 + 16 * (l.length - (k + 1)))) by omega, zerS_add 8, zerS_add 4, zerS_add 4]
    generalize zerS (16 * (l.length - (k + 1))) = Z at *
    have e1 : setB (A ++ (zerS 8 ++ (zerS 4 ++ (zerS 4 ++ Z)))) (8 + 16 * k) m8 = (A ++ m8) ++ (zerS 4 ++ (zerS 4 ++ Z)) := by
      rw [setB_right (k := 0) (by omega), setB_left (by omega), setB_all (by omega), ByteArray.append_assoc]
    rw [e1, setB_right (s := A ++ m8) (k := 0) (by rw [ByteArray.size_append]; omega), setB_left (by omega), setB_all (by omega)]
    simp only [ByteArray.append_assoc]
end Go.Proofs.Ytgncllhhajjnlaa
