/- An image written: the walk. -/
import Derived.Test.YthedonkjnfeajaaDoorImW
namespace Go.Proofs.YthedonkjnfeajaaDoor
open Go.RowKit
theorem regsL_take {l : List Rg} {k : Nat} {x : Rg} (hx : l[k]? = some x) : regsL (l.take (k + 1)) = regsL (l.take k) ++ regL x := by
  obtain ⟨hk, rfl⟩ := List.getElem?_eq_some_iff.1 hx
  unfold regsL
  rw [List.take_succ_eq_append_getElem hk, List.flatMap_append]
  simp
theorem regL_length (x : Rg) : (regL x).length = 9 + x.h.size := by
  unfold regL
  simp only [List.length_append, nL_length, lst_len]
  omega
theorem regsL_length {l : List Rg} (hs : ∀ x ∈ l, x.h.size ≤ 64) : (regsL l).length ≤ l.length * 73 := by
  induction l with
  | nil => exact Nat.le_refl _
  | cons x l ih =>
    have h1 := ih fun y hy => hs y (List.mem_cons_of_mem _ hy)
    have h2 := hs x List.mem_cons_self
    have h3 := regL_length x
    unfold regsL at h1 ⊢
    rw [List.flatMap_cons, List.length_append, List.length_cons]
    omega
theorem first_write (w : World) (A : Option Addr) (c : Nat) (t : Tl) (hl : Rgs w A t.rs) : ∀ v, v = (w.alloc (.cells (tlC A c t) 27)).alloc (.cells #[.pointer none, .slice none 0 0] 59) → WrI w A c t [] v := by
  rintro v rfl
  have hz : (w.alloc (.cells (tlC A c t) 27)).heap.size = w.heap.size + 1 := by simp
  have hb := builder_new (w.alloc (.cells (tlC A c t) 27))
  rw [hz] at hb
  have bel : Below w.heap.size w ((w.alloc (.cells (tlC A c t) 27)).alloc (.cells #[.pointer none, .slice none 0 0] 59)) := ((Below.refl w.heap.size w).alloc (Nat.le_refl _) _).alloc (by simp) _
  exact ⟨hb, (Blk.new w _ _).alloc _, hl.below bel, bel, by simp⟩
theorem head_snoc (t : Tl) : mkL ++ nL t.ge.toNat 4 ++ nL t.ty.toNat 1 ++ nL (atN t) 1 ++ nL (apN t.ap) 1 ++ nL t.rs.length 1 = headL t := by
  unfold headL
  simp only [List.append_assoc]
set_option maxRecDepth 100000 in
set_option maxHeartbeats 4000000 in
theorem write_any (A : Option Addr) (c : Nat) (t : Tl) (w : World) (hl : Rgs w A t.rs) (hg : GoodP t) (hu : TlU t) :
    Calls Tryd.prog 17 #[tlV A c t] w fun e w' => e = .returned (.string (baL (bodyL t))) ∧ Below w.heap.size w w' := by
  have HF := Lib.hid (first_write w A c t hl _ rfl)
  have HL := Lib.hid hl
  have hn := hg.len
  have HS := Lib.hid hg.sizes
  have HKy := Lib.hid hu.ky
  have HHS := Lib.hid (head_snoc t)
  have HHL := Lib.hid (head_len t)
  have HRL := Lib.hid (fun k => regsL_length (l := t.rs.take k) fun x hx => hg.sizes x (List.mem_of_mem_take hx))
  obtain ⟨g, hge⟩ : ∃ g, g = t.ge.toNat := ⟨_, rfl⟩
  obtain ⟨y, hty⟩ : ∃ y, y = t.ty.toNat := ⟨_, rfl⟩
  have HG := Lib.hid (show t.ge = (g : Nat) by rw [hge]; exact (Int.toNat_of_nonneg hu.ge0).symm)
  have HY := Lib.hid (show t.ty = (y : Nat) by rw [hty]; exact (Int.toNat_of_nonneg hg.ty_lt.1).symm)
  have bg : g < 4294967296 := by have := hu.ge0; have := hu.ge1; omega
  have by_ : y < 256 := by have := hg.ty_lt; omega
  have hat := atN_le t
  have hap : apN t.ap ≤ 1 := by unfold apN; split <;> omega
  rw [← hge, ← hty] at HHS
  have HBod := Lib.hid (show bodyL t = headL t ++ regsL t.rs from rfl)
  clear hl hg hu hge hty
  go_enter Tryd.func17, Tryd.ntmps17
  go_upto_region 3 with (fail)
  change Code.wp _ _ _ _ ((w.alloc (.cells (tlC A c t) 27)).alloc (.cells #[.pointer none, .slice none 0 0] 59))
  generalize (w.alloc (.cells (tlC A c t) 27)).alloc (.cells #[.pointer none, .slice none 0 0] 59) = w1 at *
  go_wp2_with (fail)
  refine (ws_i ⟨#[72, 71, 82, 84]⟩ HF.out (by decide) HL.out).mono ?_; rintro e w2 ⟨rfl, h2, _⟩
  have H2 := Lib.hid (show WrI w A c t mkL w2 from h2)
  have c3 : w2.cell? ⟨w.heap.size, 3, none⟩ = some (.int .u32 (g : Nat)) := by rw [← HG.out]; exact H2.out.tb.cell 3
  have q3 : IntKind.i64.wrap (g : Int) = g := by rw [IntKind.wrap_i64]; omega
  clear h2 HF
  go_wp2_with (fail)
  refine (put_i g 4 H2.out (by decide) HL.out (by omega) (by decide) (by decide)).mono ?_; rintro e w3 ⟨rfl, h3, _⟩
  have H3 := Lib.hid h3
  have c1 : w3.cell? ⟨w.heap.size, 1, none⟩ = some (.int .i64 (y : Nat)) := by rw [← HY.out]; exact H3.out.tb.cell 1
  clear h3 H2 c3 q3
  go_wp2_with (fail)
  refine (put_i y 1 H3.out (by simp [nL_length, mkL]) HL.out (by omega) (by decide) (by decide)).mono ?_; rintro e w4 ⟨rfl, h4, _⟩
  have H4 := Lib.hid h4
  have c0 : w4.cell? ⟨w.heap.size, 0, none⟩ = some (.slice A t.rs.length c) := H4.out.tb.cell 0
  have c1' : w4.cell? ⟨w.heap.size, 1, none⟩ = some (.int .i64 t.ty) := H4.out.tb.cell 1
  have c2 : w4.cell? ⟨w.heap.size, 2, none⟩ = some (.string t.ho) := H4.out.tb.cell 2
  have c3 : w4.cell? ⟨w.heap.size, 3, none⟩ = some (.int .u32 t.ge) := H4.out.tb.cell 3
  have c4 : w4.cell? ⟨w.heap.size, 4, none⟩ = some (.bool t.ap) := H4.out.tb.cell 4
  clear h4 H3 c1
  go_wp2_with (fail)
  refine (holder_any A c t _ H4.out.rg (by omega)).mono ?_; rintro e w5 ⟨rfl, hb⟩
  have H5 := Lib.hid (H4.out.below hb)
  clear hb H4 c0 c1' c2 c3 c4
  generalize atN t = a at *
  go_wp2_with (fail)
  refine (put_i a 1 H5.out (by simp [nL_length, mkL]) HL.out (by omega) (by decide) (by decide)).mono ?_; rintro e w6 ⟨rfl, h6, _⟩
  have H6 := Lib.hid h6
  have c4 : w6.cell? ⟨w.heap.size, 4, none⟩ = some (.bool t.ap) := H6.out.tb.cell 4
  clear h6 H5
  go_wp2_with (fail)
  refine (flag_any t.ap _).mono ?_; rintro e w7 ⟨rfl, rfl⟩
  generalize apN t.ap = p at *
  go_wp2_with (fail)
  refine (put_i p 1 H6.out (by simp [nL_length, mkL]) HL.out (by omega) (by decide) (by decide)).mono ?_; rintro e w8 ⟨rfl, h8, _⟩
  have H8 := Lib.hid h8
  have c0 : w8.cell? ⟨w.heap.size, 0, none⟩ = some (.slice A t.rs.length c) := H8.out.tb.cell 0
  clear h8 H6 c4
  go_wp2_with (fail)
  refine (put_i t.rs.length 1 H8.out (by simp [nL_length, mkL]) HL.out (by omega) (by decide) (by decide)).mono ?_; rintro e w9 ⟨rfl, h9, _⟩
  rw [HHS.out] at h9
  have H9 := Lib.hid h9
  have c0 : w9.cell? ⟨w.heap.size, 0, none⟩ = some (.slice A t.rs.length c) := H9.out.tb.cell 0
  clear h9 H8
  generalize headL t = hd at *
  go_wp2_with (fail)
  clear c0
  go_loopw [36] (fun i wr => ∃ k : Nat, k ≤ t.rs.length ∧ i = .int .i64 k ∧ Hid (WrI w A c t (hd ++ regsL (t.rs.take k)) wr)) (fun i _ => t.rs.length - (intOf i).toNat)
  case atStart => exact ⟨0, Nat.zero_le _, rfl, Lib.hid (by have := H9.out; rw [← List.append_nil hd] at this; exact this)⟩
  case round =>
    clear H9
    obtain ⟨k, hk, rfl, HR⟩ := hrel
    have HRk := HRL.out k
    have hlenk : (hd ++ regsL (t.rs.take k)).length ≤ 2000 := by
      rw [List.length_append, HHL.out]
      rw [List.length_take] at HRk
      omega
    by_cases hlt : k < t.rs.length
    · obtain ⟨b, o, x, rfl, hx, hz, d0, d1⟩ := HR.out.rg.at_ hlt
      have hxs := HS.out x (List.mem_of_getElem? hx)
      have hxk := HKy.out x (List.mem_of_getElem? hx)
      have HT := Lib.hid (regsL_take hx)
      obtain ⟨kx, hkx⟩ : ∃ g, g = x.k.toNat := ⟨_, rfl⟩
      have HKx := Lib.hid (show x.k = (kx : Nat) by omega)
      have HRG := Lib.hid (show regL x = nL kx 8 ++ (nL x.h.size 1 ++ lst x.h) by rw [hkx]; rfl)
      obtain ⟨l, hl⟩ : ∃ l, l = hd ++ regsL (t.rs.take k) := ⟨_, rfl⟩
      rw [← hl] at HR hlenk
      have HLl := Lib.hid hl
      obtain ⟨g1, g2, g3⟩ := rg_box wr x _ rfl
      have HBx := Lib.hid g1; have H2 := Lib.hid (HR.out.below g2)
      clear g1 g2 g3 hkx hl hx hz HRk
      go_upto_region 12 with (fail)
      change Code.wp _ _ _ _ (wr.alloc (.cells (regC x) 48))
      generalize wr.alloc (.cells (regC x) 48) = w2 at *
      have k1 : w2.cell? ⟨wr.heap.size, 1, none⟩ = some (.int .u64 (kx : Nat)) := by rw [← HKx.out]; exact HBx.out.cell 1
      clear d0 d1
      go_wp2_with (fail)
      refine (putBig_any kx 8 _).mono ?_; rintro e w3 ⟨rfl, hb⟩
      have H3 := Lib.hid (H2.out.below hb); have HB3 := Lib.hid (HBx.out.below hb HBx.out.lt)
      clear hb k1 H2 HBx
      go_wp2_with (fail)
      refine (ws_i (putHi kx (8 : Nat)) H3.out (by rw [(put_size (x := kx) (k := 8) (by decide) (by decide)).1]; omega) HL.out).mono ?_; rintro e w4 ⟨rfl, h4, hk4⟩
      rw [putHi_lst (by decide) (by decide)] at h4
      have H4 := Lib.hid h4
      have HB4 := Lib.hid (hk4 _ _ _ HB3.out (by have := HR.out.lt; omega) (by decide))
      have k0 : w4.cell? ⟨wr.heap.size, 0, none⟩ = some (.string x.h) := HB4.out.cell 0
      clear h4 hk4 H3 HB3
      go_wp2_with (fail)
      refine (put_i x.h.size 1 H4.out (by rw [List.length_append, nL_length]; omega) HL.out (by omega) (by decide) (by decide)).mono ?_; rintro e w5 ⟨rfl, h5, hk5⟩
      have H5 := Lib.hid h5
      have HB5 := Lib.hid (hk5 _ _ _ HB4.out (by have := HR.out.lt; omega) (by decide))
      have k0 : w5.cell? ⟨wr.heap.size, 0, none⟩ = some (.string x.h) := HB5.out.cell 0
      clear h5 hk5 H4 HB4
      go_wp2_with (fail)
      refine (ws_i x.h H5.out (by rw [List.length_append, List.length_append, nL_length, nL_length]; omega) HL.out).mono ?_; rintro e w6 ⟨rfl, h6, _⟩
      have H6 := Lib.hid h6
      clear h6 H5 HB5 k0
      go_wp2_with (fail)
      go_roundw
      case rel =>
        refine ⟨k + 1, by omega, by go_num, Lib.hid ?_⟩
        have := H6.out
        rw [HT.out, HRG.out, ← List.append_assoc, ← HLl.out, ← List.append_assoc, ← List.append_assoc]
        exact this
      case measure => simp [intOf]; omega
    · obtain rfl : k = t.rs.length := by omega
      rw [List.take_length] at HR
      clear HRk hlenk
      go_wp2_with (fail)
      refine (Tryd.Builder_String_any_k _ _ _ _ HR.out.bd (Nat.le_of_lt HR.out.lt)).mono ?_; rintro e w2 ⟨rfl, hb⟩
      have HB := Lib.hid (HR.out.bel.trans (hb.mono (Nat.le_succ _)))
      clear hb
      go_wp2_with (fail)
      go_ret
      exact ⟨by rw [HBod.out]; rfl, HB.out⟩
end Go.Proofs.YthedonkjnfeajaaDoor
