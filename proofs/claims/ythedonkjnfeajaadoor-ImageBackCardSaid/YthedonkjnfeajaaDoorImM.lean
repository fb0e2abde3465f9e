/- The image of a table as a list of bytes; what a reader makes of any bytes; that an image is read as what it was made of. -/
import Derived.Test.YthedonkjnfeajaaDoorImB
import Derived.Test.YthedonkjnfeajaaDoorImG
namespace Go.Proofs.YthedonkjnfeajaaDoor
open Go.RowKit
/-- The bytes of a number, the highest first. -/
def nL (x n : Nat) : List UInt8 := outB (hiG x n) n
theorem nL_length (x n : Nat) : (nL x n).length = n := outB_length _ _
theorem putHi_lst {x n : Nat} (h1 : 1 ≤ n) (h8 : n ≤ 8) : lst (putHi x n) = nL x n := by rw [putHi_yes h1 h8]; rfl
/-- The number of any bytes, the highest first. -/
def valL (l : List UInt8) : Nat := l.foldl (fun v b => v * 256 + b.toNat) 0
theorem valL_snoc (l : List UInt8) (b : UInt8) : valL (l ++ [b]) = valL l * 256 + b.toNat := by unfold valL; rw [List.foldl_append]; rfl
theorem valL_bigV (f : Nat → Nat) (hf : ∀ i, f i < 256) : ∀ k, valL ((List.range k).map fun i => UInt8.ofNat (f i)) = bigV f k
  | 0 => rfl
  | k + 1 => by
    rw [List.range_succ, List.map_append, List.map_cons, List.map_nil, valL_snoc, valL_bigV f hf k]
    simp only [bigV, UInt8.toNat_ofNat']
    rw [Nat.mod_eq_of_lt (hf k)]
theorem outB_mod (g : Nat → Nat) (k : Nat) : outB g k = (List.range k).map fun i => UInt8.ofNat (g i % 256) := by
  unfold outB
  refine List.map_congr_left fun i _ => ?_
  rw [← UInt8.toNat_inj]
  simp
theorem valL_nL (x n : Nat) : valL (nL x n) = x % 256 ^ n := by
  unfold nL
  rw [outB_mod, valL_bigV _ (fun i => Nat.mod_lt _ (by decide)), bigV_congr _ (fun i => x / 256 ^ (n - (i + 1)) % 256) n (fun i hi => by rw [hiG_eq]), bigV_back x n n (Nat.le_refl _)]
  simp
theorem valL_lt0 : ∀ (l : List UInt8) (v : Nat), l.foldl (fun v b => v * 256 + b.toNat) v < (v + 1) * 256 ^ l.length
  | [], v => by simp
  | b :: l, v => by
    have h := valL_lt0 l (v * 256 + b.toNat)
    have hb := UInt8.toNat_lt b
    simp only [List.foldl_cons, List.length_cons, Nat.pow_succ]
    refine Nat.lt_of_lt_of_le h ?_
    rw [Nat.mul_comm (256 ^ l.length) 256, ← Nat.mul_assoc]
    exact Nat.mul_le_mul_right _ (by omega)
theorem valL_lt (l : List UInt8) : valL l < 256 ^ l.length := by
  have := valL_lt0 l 0
  rwa [Nat.zero_add, Nat.one_mul] at this
/-- The number that the first n bytes tell, or 0. -/
def numL (n : Nat) (L : List UInt8) : Nat := if n ≤ L.length then valL (L.take n) else 0
theorem numL_lt (n : Nat) (L : List UInt8) : numL n L < 256 ^ n := by
  unfold numL
  split
  · next h =>
    have := valL_lt (L.take n)
    rwa [List.length_take, Nat.min_eq_left h] at this
  · exact Nat.pow_pos (by decide)
theorem numL_nL (x n : Nat) (R : List UInt8) : numL n (nL x n ++ R) = x % 256 ^ n := by
  unfold numL
  rw [if_pos (by rw [List.length_append, nL_length]; omega), List.take_append_of_le_length (by rw [nL_length]; exact Nat.le_refl _), List.take_of_length_le (by rw [nL_length]; exact Nat.le_refl _), valL_nL]
theorem drop_nL (x n : Nat) (R : List UInt8) : (nL x n ++ R).drop n = R := by
  rw [List.drop_append_of_le_length (by rw [nL_length]; exact Nat.le_refl _), List.drop_of_length_le (by rw [nL_length]; exact Nat.le_refl _), List.nil_append]
/-- A number read in a text is what its bytes tell. -/
theorem bigR_valL {s : ByteArray} {a n : Nat} (h : okB s a n = true) : bigR s a n = valL (((lst s).drop a).take n) := by
  have hd := of_decide_eq_true h
  rw [bigR_yes h, ← valL_bigV _ (fun i => readV_lt s a i)]
  congr 1
  refine List.ext_getElem ?_ fun i h1 h2 => ?_
  · rw [List.length_map, List.length_range, List.length_take, List.length_drop, lst_len]; omega
  · rw [List.length_map, List.length_range] at h1
    rw [List.getElem_map, List.getElem_range, List.getElem_take, List.getElem_drop]
    unfold readV byt lst
    rw [← UInt8.toNat_inj, List.getD_eq_getElem?_getD, List.getElem?_eq_getElem (by have := lst_len s; unfold lst at this; omega)]
    simp
def baL (l : List UInt8) : ByteArray := ⟨l.toArray⟩
theorem lst_baL (l : List UInt8) : lst (baL l) = l := rfl
theorem baL_lst (s : ByteArray) : baL (lst s) = s := lst_inj rfl
/-- The bytes of one registration, of all of them; of a table ahead of them; of a table but its digest; its image. -/
def regL (x : Rg) : List UInt8 := nL x.k.toNat 8 ++ (nL x.h.size 1 ++ lst x.h)
def regsL (l : List Rg) : List UInt8 := l.flatMap regL
def apN (b : Bool) : Nat := if b = true then 1 else 0
def atN (t : Tl) : Nat := (findR t.rs t.ho + 1).toNat
def mkL : List UInt8 := [72, 71, 82, 84]
def headL (t : Tl) : List UInt8 := mkL ++ (nL t.ge.toNat 4 ++ (nL t.ty.toNat 1 ++ (nL (atN t) 1 ++ (nL (apN t.ap) 1 ++ nL t.rs.length 1))))
def bodyL (t : Tl) : List UInt8 := headL t ++ regsL t.rs
def imgL (t : Tl) : List UInt8 := bodyL t ++ lst (digV (baL (bodyL t)))
/-- One registration out of the bytes ahead; what is behind it. -/
def rgOf (M : List UInt8) : Rg := ⟨baL ((M.drop 9).take (numL 1 (M.drop 8))), (numL 8 M : Nat)⟩
def restOf (M : List UInt8) : List UInt8 := (M.drop 9).drop (numL 1 (M.drop 8))
def rdS (L : List UInt8) : Nat → List Rg × List UInt8
  | 0 => ([], L)
  | i + 1 => ((rdS L i).1 ++ [rgOf (rdS L i).2], restOf (rdS L i).2)
theorem rdS_len (L : List UInt8) : ∀ i, (rdS L i).1.length = i
  | 0 => rfl
  | i + 1 => by simp only [rdS]; rw [List.length_append, rdS_len L i]; rfl
/-- Whom the place of a holder names. -/
def hoOf (rs : List Rg) (k : Nat) : ByteArray := if 0 < k ∧ k ≤ rs.length then (rs.getD (k - 1) ⟨⟨#[]⟩, 0⟩).h else ⟨#[]⟩
/-- The table that any bytes tell. -/
def readT (L : List UInt8) : Tl :=
  ⟨(rdS (L.drop 12) (numL 1 (L.drop 11))).1, (numL 1 (L.drop 8) : Nat), hoOf (rdS (L.drop 12) (numL 1 (L.drop 11))).1 (numL 1 (L.drop 9)), (numL 4 (L.drop 4) : Nat), decide (numL 1 (L.drop 10) = 1)⟩
/-- What the types allow of a table. -/
structure TlU (t : Tl) : Prop where
  ge0 : 0 ≤ t.ge
  ge1 : t.ge < 4294967296
  ky : ∀ x ∈ t.rs, 0 ≤ x.k ∧ x.k < 18446744073709551616
theorem TlU.pow {t : Tl} (h : TlU t) : t.ge.toNat % 256 ^ 4 = t.ge.toNat := Nat.mod_eq_of_lt (by have := h.ge0; have := h.ge1; omega)
theorem rg_back (x : Rg) (R : List UInt8) (h0 : 0 ≤ x.k) (h1 : x.k < 18446744073709551616) (hs : x.h.size < 256) : rgOf (regL x ++ R) = x ∧ restOf (regL x ++ R) = R := by
  have e : regL x ++ R = nL x.k.toNat 8 ++ (nL x.h.size 1 ++ (lst x.h ++ R)) := by unfold regL; simp only [List.append_assoc]
  have e8 : (regL x ++ R).drop 8 = nL x.h.size 1 ++ (lst x.h ++ R) := by rw [e, drop_nL]
  have e9 : (regL x ++ R).drop 9 = lst x.h ++ R := by rw [show (9 : Nat) = 8 + 1 from rfl, ← List.drop_drop, e8, drop_nL]
  have en : numL 1 ((regL x ++ R).drop 8) = (lst x.h).length := by rw [e8, numL_nL, lst_len]; omega
  have ek : numL 8 (regL x ++ R) = x.k.toNat := by rw [e, numL_nL]; omega
  constructor
  · unfold rgOf
    rw [en, ek, e9, List.take_left, baL_lst]
    obtain ⟨h, k⟩ := x
    simp only [Rg.mk.injEq, true_and]
    exact Int.toNat_of_nonneg h0
  · unfold restOf
    rw [en, e9, List.drop_left]
theorem rdS_back {l : List Rg} (hk : ∀ x ∈ l, 0 ≤ x.k ∧ x.k < 18446744073709551616) (hs : ∀ x ∈ l, x.h.size < 256) (R : List UInt8) : ∀ i, i ≤ l.length → rdS (regsL l ++ R) i = (l.take i, regsL (l.drop i) ++ R)
  | 0, _ => by simp [rdS]
  | i + 1, hi => by
    have hx : l[i] ∈ l := List.getElem_mem _
    have e : regsL (l.drop i) ++ R = regL l[i] ++ (regsL (l.drop (i + 1)) ++ R) := by
      rw [List.drop_eq_getElem_cons (show i < l.length by omega)]
      simp only [regsL, List.flatMap_cons, List.append_assoc]
    obtain ⟨q1, q2⟩ := rg_back l[i] (regsL (l.drop (i + 1)) ++ R) (hk _ hx).1 (hk _ hx).2 (hs _ hx)
    simp only [rdS, rdS_back hk hs R i (by omega)]
    rw [e, q1, q2, List.take_succ_eq_append_getElem (by omega)]
theorem atN_le (t : Tl) : atN t ≤ t.rs.length := by
  unfold atN findR
  split
  · next h =>
    unfold regB at h
    have := List.findIdx_lt_length_of_exists (by simpa using List.any_eq_true.1 h)
    omega
  · omega
theorem GoodP.nm_size {t : Tl} (h : GoodP t) : ∀ x ∈ t.rs, x.h.size < 256 := fun x hx => Nat.lt_of_le_of_lt (h.sizes x hx) (by decide)
theorem GoodP.ho_of {t : Tl} (h : GoodP t) : hoOf t.rs (atN t) = t.ho := by
  have hz : t.ho = ⟨#[]⟩ → hoOf t.rs (atN t) = t.ho := fun he => by
    have hr : regB t.rs t.ho = false := regB_no.2 fun x hx hh => name_ne (h.nm x hx) (hh.trans he)
    unfold atN
    rw [show findR t.rs t.ho = -1 from findR_none hr, he]
    rfl
  rcases h.hold with ⟨_, he⟩ | ⟨_, he, _⟩ | ⟨_, hr⟩
  · exact hz he
  · exact hz he
  · obtain ⟨x, hx, hh⟩ := regB_iff.1 hr
    have hlt := List.findIdx_lt_length_of_exists (p := fun r => eqS r.h t.ho) ⟨x, hx, eqS_iff.2 hh⟩
    have e : atN t = t.rs.findIdx (fun r => eqS r.h t.ho) + 1 := by
      unfold atN findR
      rw [if_pos hr]
      omega
    unfold hoOf
    rw [e, if_pos ⟨by omega, by omega⟩, Nat.add_sub_cancel, List.getD_eq_getElem?_getD, List.getElem?_eq_getElem hlt]
    have := List.findIdx_getElem (xs := t.rs) (p := fun r => eqS r.h t.ho) (w := hlt)
    exact eqS_iff.1 this
theorem GoodP.ty_lt {t : Tl} (h : GoodP t) : 0 ≤ t.ty ∧ t.ty < 256 := by
  rcases h.hold with ⟨a, _⟩ | ⟨a, _, _⟩ | ⟨a, _⟩ <;> omega
/-- What stands ahead of the registrations. -/
theorem head_back {t : Tl} (hg : GoodP t) (hu : TlU t) (R : List UInt8) :
    numL 4 ((headL t ++ R).drop 4) = t.ge.toNat ∧ numL 1 ((headL t ++ R).drop 8) = t.ty.toNat ∧ numL 1 ((headL t ++ R).drop 9) = atN t ∧ numL 1 ((headL t ++ R).drop 10) = apN t.ap ∧ numL 1 ((headL t ++ R).drop 11) = t.rs.length ∧ (headL t ++ R).drop 12 = R := by
  have e : headL t ++ R = mkL ++ (nL t.ge.toNat 4 ++ (nL t.ty.toNat 1 ++ (nL (atN t) 1 ++ (nL (apN t.ap) 1 ++ (nL t.rs.length 1 ++ R))))) := by unfold headL; simp only [List.append_assoc]
  have e4 : (headL t ++ R).drop 4 = nL t.ge.toNat 4 ++ (nL t.ty.toNat 1 ++ (nL (atN t) 1 ++ (nL (apN t.ap) 1 ++ (nL t.rs.length 1 ++ R)))) := by rw [e]; rfl
  have e8 : (headL t ++ R).drop 8 = nL t.ty.toNat 1 ++ (nL (atN t) 1 ++ (nL (apN t.ap) 1 ++ (nL t.rs.length 1 ++ R))) := by rw [show (8 : Nat) = 4 + 4 from rfl, ← List.drop_drop, e4, drop_nL]
  have e9 : (headL t ++ R).drop 9 = nL (atN t) 1 ++ (nL (apN t.ap) 1 ++ (nL t.rs.length 1 ++ R)) := by rw [show (9 : Nat) = 8 + 1 from rfl, ← List.drop_drop, e8, drop_nL]
  have e10 : (headL t ++ R).drop 10 = nL (apN t.ap) 1 ++ (nL t.rs.length 1 ++ R) := by rw [show (10 : Nat) = 9 + 1 from rfl, ← List.drop_drop, e9, drop_nL]
  have e11 : (headL t ++ R).drop 11 = nL t.rs.length 1 ++ R := by rw [show (11 : Nat) = 10 + 1 from rfl, ← List.drop_drop, e10, drop_nL]
  have e12 : (headL t ++ R).drop 12 = R := by rw [show (12 : Nat) = 11 + 1 from rfl, ← List.drop_drop, e11, drop_nL]
  have h1 := hg.ty_lt
  have h2 := atN_le t
  have h3 := hg.len
  have h4 : apN t.ap < 256 := by unfold apN; split <;> decide
  refine ⟨by rw [e4, numL_nL, hu.pow], by rw [e8, numL_nL]; omega, by rw [e9, numL_nL]; omega, by rw [e10, numL_nL]; omega, by rw [e11, numL_nL]; omega, e12⟩
/-- An image, whatever stands in its digest's place and behind it, is read as what it was made of. -/
theorem read_back {t : Tl} (hg : GoodP t) (hu : TlU t) (R : List UInt8) : readT (bodyL t ++ R) = t := by
  obtain ⟨a, b, c, d, e, f⟩ := head_back hg hu (regsL t.rs ++ R)
  have e0 : bodyL t ++ R = headL t ++ (regsL t.rs ++ R) := by unfold bodyL; rw [List.append_assoc]
  have q := rdS_back hu.ky hg.nm_size R t.rs.length (Nat.le_refl _)
  rw [List.take_length] at q
  unfold readT
  rw [e0, a, b, c, d, e, f, q]
  have hap : decide (apN t.ap = 1) = t.ap := by unfold apN; cases t.ap <;> rfl
  have hge := Int.toNat_of_nonneg hu.ge0
  have hty := Int.toNat_of_nonneg hg.ty_lt.1
  simp only [hg.ho_of, hap, hge, hty]
theorem head_len (t : Tl) : (headL t).length = 12 := by
  unfold headL
  simp only [List.length_append, nL_length]
  rfl
theorem dig_len (s : ByteArray) : (lst (digV s)).length = 4 := by
  rw [lst_len]
  exact (put_size (x := sumV s) (k := 4) (by decide) (by decide)).2
/-- Is a text an image? -/
def imB (s : ByteArray) : Bool := goodB (readT (lst s)) && (imgL (readT (lst s)) == lst s)
theorem rdS_u (L : List UInt8) : ∀ i, ∀ x ∈ (rdS L i).1, 0 ≤ x.k ∧ x.k < 18446744073709551616
  | 0 => fun x hx => by simp [rdS] at hx
  | i + 1 => fun x hx => by
    simp only [rdS] at hx
    rcases List.mem_append.1 hx with h | h
    · exact rdS_u L i x h
    · rw [List.mem_singleton.1 h]
      have := numL_lt 8 (rdS L i).2
      exact ⟨Int.natCast_nonneg _, by show ((numL 8 (rdS L i).2 : Nat) : Int) < _; omega⟩
theorem rdS_sizes (L : List UInt8) : ∀ i, ∀ x ∈ (rdS L i).1, x.h.size < 256
  | 0 => fun x hx => by simp [rdS] at hx
  | i + 1 => fun x hx => by
    simp only [rdS] at hx
    rcases List.mem_append.1 hx with h | h
    · exact rdS_sizes L i x h
    · rw [List.mem_singleton.1 h]
      show (baL _).size < 256
      rw [← lst_len, lst_baL, List.length_take]
      have := numL_lt 1 ((rdS L i).2.drop 8)
      omega
theorem readT_u (L : List UInt8) : TlU (readT L) := by
  have := numL_lt 4 (L.drop 4)
  exact ⟨Int.natCast_nonneg _, by show ((numL 4 (L.drop 4) : Nat) : Int) < _; omega, rdS_u _ _⟩
theorem imB_iff {s : ByteArray} : imB s = true ↔ ∃ t, GoodP t ∧ TlU t ∧ lst s = imgL t := by
  unfold imB
  rw [Bool.and_eq_true, goodB_iff]
  constructor
  · rintro ⟨hg, he⟩
    exact ⟨_, hg, readT_u _, (beq_iff_eq.1 he).symm⟩
  · rintro ⟨t, hg, hu, he⟩
    have : readT (lst s) = t := by rw [he]; exact read_back hg hu _
    rw [this]
    exact ⟨hg, beq_iff_eq.2 he.symm⟩
theorem imB_read {s : ByteArray} {t : Tl} (hg : GoodP t) (hu : TlU t) (he : lst s = imgL t) : readT (lst s) = t := by rw [he]; exact read_back hg hu _
/-- Nothing behind an image makes another image. -/
theorem img_cut {t t' : Tl} (hg : GoodP t) (hu : TlU t) (hg' : GoodP t') (hu' : TlU t') {R : List UInt8} (h : imgL t ++ R = imgL t') : t = t' ∧ R = [] := by
  have e1 : readT (imgL t') = t' := read_back hg' hu' _
  have e2 : readT (imgL t ++ R) = t := by unfold imgL; rw [List.append_assoc]; exact read_back hg hu _
  have e : t = t' := by rw [← e1, ← h, e2]
  refine ⟨e, ?_⟩
  subst e
  have := congrArg List.length h
  rw [List.length_append] at this
  exact List.eq_nil_of_length_eq_zero (by omega)
theorem img_inj {t t' : Tl} (hg : GoodP t) (hu : TlU t) (hg' : GoodP t') (hu' : TlU t') (h : imgL t = imgL t') : t = t' :=
  (img_cut hg hu hg' hu' (R := []) (by rw [List.append_nil]; exact h)).1
theorem digM_inj {a b : ByteArray} (h : digV a = digV b) : sumV a = sumV b := by
  have key : ∀ s : ByteArray, litR (digV s) 0 4 = sumV s := by
    intro s
    have q := (back_lit (sumV s) 4 ⟨#[]⟩ (by decide) (by decide)).2
    have e : ∀ z : ByteArray, z ++ (⟨#[]⟩ : ByteArray) = z := fun z => lst_inj (by rw [lst_append]; exact List.append_nil _)
    rw [e, ← putLo_yes (by decide) (by decide), Nat.mod_eq_of_lt (Nat.lt_of_lt_of_le (sumV_lt s) (by decide))] at q
    exact q
  rw [← key a, ← key b, h]
/-- Two images of one length that differ in one byte at most are one image. -/
theorem img_turn {t t' : Tl} {a d : List UInt8} {b c : UInt8} (h : imgL t = a ++ b :: d) (h' : imgL t' = a ++ c :: d) : b = c := by
  have l1 := dig_len (baL (bodyL t))
  have l2 := dig_len (baL (bodyL t'))
  have n1 := congrArg List.length h
  have n2 := congrArg List.length h'
  unfold imgL at h h' n1 n2
  rw [List.length_append] at n1 n2
  have hb : (bodyL t).length = (bodyL t').length := by
    simp only [List.length_append, List.length_cons] at n1 n2
    omega
  by_cases hk : a.length < (bodyL t).length
  · -- the byte lies ahead of the digest
    have f1 : ∃ d1, bodyL t = a ++ b :: d1 ∧ d = d1 ++ lst (digV (baL (bodyL t))) := by
      rcases List.append_eq_append_iff.1 h with ⟨m, hm1, hm2⟩ | ⟨m, hm1, hm2⟩
      · have := congrArg List.length hm1; rw [List.length_append] at this; omega
      · cases m with
        | nil => rw [List.append_nil] at hm1; rw [hm1] at hk; omega
        | cons x m' => injection hm2 with q1 q2; exact ⟨m', by rw [hm1, q1], q2⟩
    have f2 : ∃ d2, bodyL t' = a ++ c :: d2 ∧ d = d2 ++ lst (digV (baL (bodyL t'))) := by
      rcases List.append_eq_append_iff.1 h' with ⟨m, hm1, hm2⟩ | ⟨m, hm1, hm2⟩
      · have := congrArg List.length hm1; rw [List.length_append] at this; omega
      · cases m with
        | nil => rw [List.append_nil] at hm1; rw [hb, hm1] at hk; omega
        | cons x m' => injection hm2 with q1 q2; exact ⟨m', by rw [hm1, q1], q2⟩
    obtain ⟨d1, p1, q1⟩ := f1
    obtain ⟨d2, p2, q2⟩ := f2
    have q : d1 ++ lst (digV (baL (bodyL t))) = d2 ++ lst (digV (baL (bodyL t'))) := q1.symm.trans q2
    have hd : d1.length = d2.length := by
      have := congrArg List.length q
      rw [List.length_append, List.length_append] at this
      omega
    obtain ⟨z1, z2⟩ := List.append_inj q hd
    subst z1
    have hs : sumV (baL (bodyL t)) = sumV (baL (bodyL t')) := digM_inj (lst_inj z2)
    unfold sumV at hs
    rw [lst_baL, lst_baL, p1, p2] at hs
    exact (turn_one a d1 b c 0 (by decide)).1 hs
  · -- it lies in the digest: what stands ahead is the same
    have hp : bodyL t = bodyL t' := by
      have e1 := congrArg (List.take (bodyL t).length) h
      have e2 := congrArg (List.take (bodyL t').length) h'
      rw [List.take_left] at e1 e2
      rw [e1, e2, hb, List.take_append_of_le_length (by omega), List.take_append_of_le_length (by omega)]
    rw [hp, h'] at h
    have := List.append_cancel_left h
    injection this with q _
    exact q.symm
end Go.Proofs.YthedonkjnfeajaaDoor
