/- What was written is read, what was read is written: the bytes. -/
import Derived.Test.YtdopcliicjmjeaaExTs
namespace Go.Proofs.Ytdopcliicjmjeaa
open Go.RowKit
def B4 (x : Nat) : List UInt8 := [UInt8.ofNat (x / 16777216), UInt8.ofNat (x / 65536), UInt8.ofNat (x / 256), UInt8.ofNat x]
theorem put4 (x : Nat) : (putHi x 4).data.toList = B4 x := by
  rw [show (4 : Int) = ((4 : Nat) : Int) from rfl, putHi_yes (by decide) (by decide)]
  show outB (hiG x 4) 4 = B4 x
  unfold B4
  rw [show outB (hiG x 4) 4 = [UInt8.ofNat (hiG x 4 0), UInt8.ofNat (hiG x 4 1), UInt8.ofNat (hiG x 4 2), UInt8.ofNat (hiG x 4 3)] from rfl]
  have h0 : hiG x 4 0 = x / 16777216 := rfl
  have h1 : hiG x 4 1 = x / 65536 := rfl
  have h2 : hiG x 4 2 = x / 256 := rfl
  have h3 : hiG x 4 3 = x := by show x / 1 = x; omega
  rw [h0, h1, h2, h3]
theorem n4_at (s : ByteArray) (a : Nat) (h : a + 4 ≤ s.size) : n4 s (a : Nat) = ((byt s a * 256 + byt s (a + 1)) * 256 + byt s (a + 2)) * 256 + byt s (a + 3) := by
  show bigR s ((a : Nat) : Int) ((4 : Nat) : Int) = _
  rw [bigR_yes (a := a) (n := 4) (okB_yes (by omega))]
  simp only [bigV, readV, Nat.add_zero]
  omega
theorem n4_val (s : ByteArray) (p r : List UInt8) (x a : Nat) (hx : x < 4294967296) (ha : p.length = a) (h : s.data.toList = p ++ (B4 x ++ r)) : n4 s (a : Nat) = x := by
  have hz : s.size = p.length + (4 + r.length) := by rw [← list_size, h]; simp [B4]; omega
  rw [n4_at s a (by omega)]
  have e : ∀ i, i < 4 → byt s (a + i) = ((B4 x).getD i 0).toNat := by
    intro i hi
    unfold byt
    rw [h, List.getD, List.getD, List.getElem?_append_right (by omega), show a + i - p.length = i by omega, List.getElem?_append_left (by simp [B4]; omega)]
  have e0 := e 0 (by omega)
  rw [Nat.add_zero] at e0
  rw [e0, e 1 (by omega), e 2 (by omega), e 3 (by omega)]
  show (((UInt8.ofNat (x / 16777216)).toNat * 256 + (UInt8.ofNat (x / 65536)).toNat) * 256 + (UInt8.ofNat (x / 256)).toNat) * 256 + (UInt8.ofNat x).toNat = x
  simp only [UInt8.toNat_ofNat']
  omega
theorem byt_get (s : ByteArray) (i : Nat) (h : i < s.data.toList.length) : UInt8.ofNat (byt s i) = s.data.toList[i] := by
  unfold byt
  rw [List.getD, List.getElem?_eq_getElem h]
  simp
theorem of_same (x y : Nat) (h : x % 256 = y % 256) : UInt8.ofNat x = UInt8.ofNat y := by
  apply UInt8.toNat_inj.1
  rw [UInt8.toNat_ofNat', UInt8.toNat_ofNat']
  exact h
theorem B4_of (p q r u : Nat) (_ : p < 256) (hq : q < 256) (hr : r < 256) (hu : u < 256) : B4 (((p * 256 + q) * 256 + r) * 256 + u) = [UInt8.ofNat p, UInt8.ofNat q, UInt8.ofNat r, UInt8.ofNat u] := by
  unfold B4
  have a0 := of_same ((((p * 256 + q) * 256 + r) * 256 + u) / 16777216) p (by omega)
  have a1 := of_same ((((p * 256 + q) * 256 + r) * 256 + u) / 65536) q (by omega)
  have a2 := of_same ((((p * 256 + q) * 256 + r) * 256 + u) / 256) r (by omega)
  have a3 := of_same (((p * 256 + q) * 256 + r) * 256 + u) u (by omega)
  rw [a0, a1, a2, a3]
theorem take4 (s : ByteArray) (i : Nat) (h : i + 4 ≤ s.size) : s.data.toList.take (i + 4) = s.data.toList.take i ++ B4 (n4 s (i : Nat)) := by
  have hl := list_size s
  rw [n4_at s i h]
  have b0 := byt_lt s i
  have b1 := byt_lt s (i + 1)
  have b2 := byt_lt s (i + 2)
  have b3 := byt_lt s (i + 3)
  have e0 := byt_get s i (by omega)
  have e1 := byt_get s (i + 1) (by omega)
  have e2 := byt_get s (i + 2) (by omega)
  have e3 := byt_get s (i + 3) (by omega)
  rw [B4_of _ _ _ _ b0 b1 b2 b3, e0, e1, e2, e3]
  rw [List.take_add_one, List.take_add_one, List.take_add_one, List.take_add_one]
  rw [List.getElem?_eq_getElem (by omega), List.getElem?_eq_getElem (by omega), List.getElem?_eq_getElem (by omega), List.getElem?_eq_getElem (by omega)]
  simp
theorem exT_list (x : Ex) : (exT x).data.toList = B4 x.l.toNat ++ (B4 x.b.toNat ++ B4 x.a.toNat) := by
  unfold exT
  rw [app_list, app_list, put4, put4, put4, List.append_assoc]
theorem text_step (s : ByteArray) (k : Nat) (h : 4 + 12 * (k + 1) ≤ s.size) : s.data.toList.take (4 + 12 * (k + 1)) = s.data.toList.take (4 + 12 * k) ++ (exT (exR s k)).data.toList := by
  rw [exT_list]
  have e0 : (exR s k).l.toNat = n4 s ((4 + 12 * k : Nat) : Int) := by
    show ((n4 s (4 + 12 * (k : Int)) : Nat) : Int).toNat = _
    rw [Int.toNat_natCast]; congr 1
  have e1 : (exR s k).b.toNat = n4 s ((4 + 12 * k + 4 : Nat) : Int) := by
    show ((n4 s (8 + 12 * (k : Int)) : Nat) : Int).toNat = _
    rw [Int.toNat_natCast]; congr 1; omega
  have e2 : (exR s k).a.toNat = n4 s ((4 + 12 * k + 4 + 4 : Nat) : Int) := by
    show ((n4 s (12 + 12 * (k : Int)) : Nat) : Int).toNat = _
    rw [Int.toNat_natCast]; congr 1; omega
  rw [e0, e1, e2, show 4 + 12 * (k + 1) = 4 + 12 * k + 4 + 4 + 4 by omega, take4 s (4 + 12 * k + 4 + 4) (by omega), take4 s (4 + 12 * k + 4) (by omega), take4 s (4 + 12 * k) (by omega)]
  simp
theorem text_take (s : ByteArray) : ∀ k, 4 + 12 * k ≤ s.size → (putHi (n4 s 0) 4 ++ catT (listX s k)).data.toList = s.data.toList.take (4 + 12 * k)
  | 0, h => by
    have := take4 s 0 (by omega)
    rw [List.take_zero, List.nil_append] at this
    rw [app_list, put4]
    rw [show 4 + 12 * 0 = 0 + 4 from rfl, this]
    show B4 (n4 s 0) ++ [] = B4 (n4 s 0)
    simp
  | k + 1, h => by
    rw [text_step s k h, ← text_take s k (by omega), listX_succ, catT_app, show catT [exR s k] = exT (exR s k) from app_nil _]
    simp only [app_list, List.append_assoc]
/-- What was read is written as it was. -/
theorem text_back {s : ByteArray} (h : SizeOk s) : textX (listX s (n4 s 0)) = s := by
  apply bytes_ext
  unfold textX
  rw [listX_length, text_take s _ (by have := h.2.2; omega)]
  apply List.take_of_length_le
  rw [list_size]
  have := h.2.2
  omega
theorem cat_split (l : List Ex) (j : Nat) (x : Ex) (h : l[j]? = some x) : (textX l).data.toList = (B4 l.length ++ (catT (l.take j)).data.toList) ++ (B4 x.l.toNat ++ (B4 x.b.toNat ++ (B4 x.a.toNat ++ (catT (l.drop (j + 1))).data.toList))) := by
  have hj := (List.getElem?_eq_some_iff.1 h)
  obtain ⟨hlt, he⟩ := hj
  have hs : l = l.take j ++ ([x] ++ l.drop (j + 1)) := by
    rw [← he, List.singleton_append, List.getElem_cons_drop, List.take_append_drop]
  have hc : catT l = catT (l.take j) ++ (exT x ++ catT (l.drop (j + 1))) := by
    conv => lhs; rw [hs]
    rw [catT_app, catT_app, show catT [x] = exT x from app_nil _]
  unfold textX
  rw [hc]
  simp only [app_list, put4, exT_list, List.append_assoc]
theorem exR_text (l : List Ex) (j : Nat) (x : Ex) (h : l[j]? = some x) (hf : x.Fits) : exR (textX l) j = x := by
  have hs := cat_split l j x h
  have hlt := (List.getElem?_eq_some_iff.1 h).1
  have hl0 : (B4 l.length ++ (catT (l.take j)).data.toList).length = 4 + 12 * j := by
    rw [List.length_append, list_size, catT_size, List.length_take]
    show 4 + _ = _
    omega
  unfold Ex.Fits at hf
  have v0 := n4_val (textX l) _ _ x.l.toNat (4 + 12 * j) (by omega) hl0 hs
  have v1 := n4_val (textX l) ((B4 l.length ++ (catT (l.take j)).data.toList) ++ B4 x.l.toNat) (B4 x.a.toNat ++ (catT (l.drop (j + 1))).data.toList) x.b.toNat (4 + 12 * j + 4) (by omega) (by rw [List.length_append, hl0]; rfl) (by rw [hs]; simp only [List.append_assoc])
  have v2 := n4_val (textX l) ((B4 l.length ++ (catT (l.take j)).data.toList) ++ (B4 x.l.toNat ++ B4 x.b.toNat)) (catT (l.drop (j + 1))).data.toList x.a.toNat (4 + 12 * j + 8) (by omega) (by rw [List.length_append, hl0]; rfl) (by rw [hs]; simp only [List.append_assoc])
  apply Ex.ext
  · show ((n4 (textX l) (4 + 12 * (j : Int)) : Nat) : Int) = x.l
    rw [show (4 + 12 * (j : Int)) = ((4 + 12 * j : Nat) : Int) by omega, v0]; omega
  · show ((n4 (textX l) (8 + 12 * (j : Int)) : Nat) : Int) = x.b
    rw [show (8 + 12 * (j : Int)) = ((4 + 12 * j + 4 : Nat) : Int) by omega, v1]; omega
  · show ((n4 (textX l) (12 + 12 * (j : Int)) : Nat) : Int) = x.a
    rw [show (12 + 12 * (j : Int)) = ((4 + 12 * j + 8 : Nat) : Int) by omega, v2]; omega
theorem textX_size (l : List Ex) : (textX l).size = 4 + 12 * l.length := by
  unfold textX; rw [ByteArray.size_append, putHi4, catT_size]
/-- What was written is read as it was. -/
theorem parse_back {l : List Ex} (hg : goodB l = true) : parseR (textX l) = (l, 0) := by
  have hn := good_length hg
  have hz := textX_size l
  have h0 : n4 (textX l) 0 = l.length := n4_val (textX l) [] (catT l).data.toList l.length 0 (by omega) rfl (by unfold textX; rw [app_list, put4]; rfl)
  have hl : listX (textX l) l.length = l := by
    apply List.ext_getElem?
    intro j
    by_cases hj : j < l.length
    · have e := List.getElem?_eq_getElem hj
      have hf := (good_asc hg).fits _ (List.mem_of_getElem? e)
      rw [e]
      unfold listX
      rw [List.getElem?_map, List.getElem?_range hj, Option.map_some, exR_text l j _ e hf]
    · rw [List.getElem?_eq_none (by rw [listX_length]; omega), List.getElem?_eq_none (by omega)]
  have hs : SizeOk (textX l) := ⟨okB_yes (by omega), by omega, by omega⟩
  have := parse_yes hs (by rw [h0, hl]; exact hg)
  rw [h0, hl] at this
  exact this
end Go.Proofs.Ytdopcliicjmjeaa
