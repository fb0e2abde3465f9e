/- FrameTurned: with one byte turned, what was put is none. -/
import Derived.Test.YtoejfkalgmdjcaaDoorFrameTurnMath
import Derived.Lib.ConvBytes
namespace Go.Proofs.YtoejfkalgmdjcaaDoor
open Go.RowKit
/-- From place 0 of block b on stand the bytes of g. -/
def BytesAt (w : World) (b : Nat) (g : ByteArray) : Prop := ∀ j, j < g.size → w.cell? ⟨b, j, none⟩ = some (.int .u8 (byt g j))
theorem bytes_str {w : World} {b cap : Nat} {g : ByteArray} (h : BytesAt w b g) : Sem.run Tryd.prog (convert 53 9 (Value.slice (some ⟨b, 0, none⟩) g.size cap)) w = .ok (.string g) w := by
  have := run_convert_bytes_back (P := Tryd.prog) w 53 9 5 ⟨b, 0, none⟩ cap g.data.toList Tryd.underlying53 Tryd.underlying5 Tryd.underlying9 (fun j hj => by
    rw [Addr.add_lit, Nat.zero_add, h j (by simpa using hj)]
    unfold byt
    rw [List.getD, List.getElem?_eq_getElem hj]
    rfl)
  rw [list_size] at this
  rw [this]
theorem BytesAt.below {w w' : World} {b : Nat} {g : ByteArray} (h : BytesAt w b g) (hb : Below w.heap.size w w') (hlt : b < w.heap.size) : BytesAt w' b g := fun j hj => (hb.cell (p := ⟨b, j, none⟩) hlt).trans (h j hj)
theorem bytesWorld_below (w : World) (s : ByteArray) : Below w.heap.size w (Lib.bytesWorld w 5 s) :=
  ⟨rfl, rfl, rfl, by rw [Lib.bytesWorld_size]; omega, fun k hk => Lib.bytesWorld_at_old w 5 s k hk⟩
theorem bytesWorld_free (w : World) (s : ByteArray) (k : Nat) (hk : k < s.size) : (Lib.bytesWorld w 5 s).frozen? ⟨w.heap.size, k, none⟩ = false := by
  have hz : (Lib.bytesCells w 5 s).size ≥ s.size := by unfold Lib.bytesCells; simp
  simp only [World.frozen?, Lib.bytesWorld_at_new]
  simp
  omega
theorem put_bytes (w : World) (s : ByteArray) (k : Nat) (c : UInt8) (hk : k < s.size) : BytesAt ((Lib.bytesWorld w 5 s).setCell ⟨w.heap.size, k, none⟩ (.int .u8 (c.toNat : Int))) w.heap.size (putOne s k c) := by
  intro j hj
  have hj' : j < s.size := by rw [putOne_size s k c (by omega)] at hj; exact hj
  by_cases e : k = j
  · subst e
    rw [World.cell?_setCell_same _ _ _ (Lib.bytesWorld_cell w 5 s k hk)]
    unfold byt
    have : (putOne s k c).data.toList = (s.data.toList).set k c := putOne_set s k c hk
    rw [this, List.getD, List.getElem?_set_self (by simpa using hk)]
    rfl
  · have hne : (⟨w.heap.size, k, none⟩ : Addr) ≠ ⟨w.heap.size, j, none⟩ := by intro h; injection h with h1 h2; exact e h2
    rw [World.cell?_setCell_other _ _ _ _ hne]
    rw [Lib.bytesWorld_cell w 5 s j hj']
    have : (putOne s k c).data.toList = (s.data.toList).set k c := putOne_set s k c hk
    unfold byt
    rw [this, List.getD, List.getD, List.getElem?_set_ne e]
theorem byte_of (a : Int) : ∃ c : UInt8, IntKind.u8.wrap a = (c.toNat : Int) := by
  refine ⟨UInt8.ofNat (a % 256).toNat, ?_⟩
  have h : IntKind.u8.wrap a = a % 256 := by simp [IntKind.wrap, IntKind.signed, IntKind.bits]
  rw [h, UInt8.toNat_ofNat']
  omega
set_option maxRecDepth 100000 in
set_option maxHeartbeats 1000000 in
theorem turned_in (n : Nat) (t : ByteArray) (a b : Int) (w : World) (hn : n < 18446744073709551616) (h : t.size ≤ 5000) (ht : Tab w) :
    Calls Tryd.prog 7 #[.int .u64 n, .string t, .agg #[.int .i64 a, .int .i64 b]] w fun e w' => e = .returned (.bool true) ∧ Below w.heap.size w w' := by
  have hi : ¬ (5000 : Int) < t.size := by omega
  obtain ⟨c, hc⟩ := byte_of b
  obtain ⟨k, hk, hk2⟩ := place_at a (24 + t.size) (by omega)
  have hp := put_of n t ⟨#[]⟩ hn (by omega)
  rw [app_nil] at hp
  have hsz := putS_size n t
  have hr := sec_room t.size
  have HT := Lib.hid ht; clear ht
  have HN := Lib.hid hn; clear hn
  go_enter Tryd.func7, Tryd.ntmps7
  go_wp2_with (fail)
  have hA := (Below.refl w.heap.size w).alloc (Nat.le_refl _) (.cells #[.int .i64 a, .int .i64 b] 51)
  have HA := Lib.hid hA
  refine (put_ok n t _ (by omega) (HT.out.below hA)).mono ?_; rintro e w1 ⟨rfl, hb1⟩
  clear hA
  have c0 : w1.cell? ⟨w.heap.size, 0, none⟩ = some (.int .i64 a) := (hb1.cell (p := ⟨w.heap.size, 0, none⟩) (by simp)).trans (Blk.cell (Blk.new w 51 _) 0)
  have H1 := Lib.hid (HA.out.trans (hb1.mono HA.out.size)); clear hb1
  have hcv := Lib.run_convert_string_bytes (P := Tryd.prog) w1 9 53 5 (putS n t) Tryd.underlying9 Tryd.underlying53 Tryd.underlying5
  generalize putS n t = f at *
  have hg24 : ¬ (f.size : Int) < 24 + t.size := by omega
  obtain ⟨k0, rfl⟩ : ∃ k0, k = k0 := ⟨k, rfl⟩
  have hkf : k < f.size := by omega
  have hkc := Lib.bytesWorld_cell w1 5 f k hkf
  have hkz := bytesWorld_free w1 f k hkf
  have hki : (k : Int) < f.size := by omega
  have hf5 : f.size ≤ 100000 := by omega
  have HSZ := Lib.hid hsz; clear hsz
  rw [← hk] at hki
  have hkk : (wrap64 ((IntKind.u64.wrap a).tmod (24 + (t.size : Int)))).toNat = k := by rw [hk]; rfl
  have hB := put_bytes w1 f k c hkf
  have hgz : (putOne f k c).size = f.size := putOne_size f k c (by omega)
  have H2 := Lib.hid (H1.out.trans (((bytesWorld_below w1 f).setCell (p := ⟨w1.heap.size, k, none⟩) (Nat.le_refl _) (.int .u8 (c.toNat : Int))).mono H1.out.size))
  have HL := Lib.hid (show w1.heap.size < ((Lib.bytesWorld w1 5 f).setCell ⟨w1.heap.size, k, none⟩ (.int .u8 (c.toNat : Int))).heap.size by rw [World.size_setCell, Lib.bytesWorld_size]; omega)
  have hcv2 := bytes_str (cap := grownCap w1 f.size 0 5) hB
  rw [hgz] at hcv2
  have HB := Lib.hid hB; clear hB
  by_cases he : putOne f k c = f
  · have hp' := Lib.hid (hp.got (by omega))
    have hsame : ((putOne f k c).toList == f.toList) = true := by rw [beqS, decide_eq_true he]
    rw [he] at hcv2
    have HE := Lib.hid he; clear he
    clear hp
    go_wp2_with (fail)
    refine (get_any f _ (by unfold maxLen; omega) (HT.out.below H2.out)).mono ?_; rintro e w4 ⟨rfl, hb4⟩
    have hB4 := HB.out.below hb4 HL.out
    have hcv4 := bytes_str (cap := grownCap w1 f.size 0 5) hB4
    rw [hgz, HE.out] at hcv4
    have H4 := Lib.hid (H2.out.trans (hb4.mono H2.out.size)); clear hb4 hB4
    rw [hp'.out]
    go_wp2_with (fail)
    refine (wakes_any _ (HT.out.below H4.out)).mono ?_; rintro e w5 ⟨rfl, hb5⟩
    have H5 := Lib.hid (H4.out.trans (hb5.mono H4.out.size)); clear hb5
    go_wp2
    go_ret
    exact ⟨rfl, H5.out⟩
  · have hno := turned_none n t f k c hp (by omega) he
    have hne : ((putOne f k c).toList == f.toList) = false := by rw [beqS, decide_eq_false he]
    have hv := Lib.hid (gotV_no hno)
    have hpos : ¬ (getE (putOne f k c) : Int) = 0 := by omega
    have hpos2 : (((getE (putOne f k c) : Nat) : Int) == 0) = false := by simpa using hpos
    have hpos3 : (((getE (putOne f k c) : Nat) : Int) != 0) = true := by simpa using hpos
    generalize putOne f k c = g at *
    have HE := Lib.hid he; clear he
    clear hp
    go_wp2_with (fail)
    refine (get_any g _ (by unfold maxLen; omega) (HT.out.below H2.out)).mono ?_; rintro e w4 ⟨rfl, hb4⟩
    have hB4 := HB.out.below hb4 HL.out
    have hcv4 := bytes_str (cap := grownCap w1 f.size 0 5) hB4
    rw [hgz] at hcv4
    have H4 := Lib.hid (H2.out.trans (hb4.mono H2.out.size)); clear hb4 hB4
    rw [hv.out]
    go_wp2_with (fail)
    refine (wakes_any _ (HT.out.below H4.out)).mono ?_; rintro e w5 ⟨rfl, hb5⟩
    have H5 := Lib.hid (H4.out.trans (hb5.mono H4.out.size)); clear hb5
    go_wp2
    go_ret
    exact ⟨rfl, H5.out⟩
theorem turned_any (n : Nat) (t : ByteArray) (a b : Int) (w : World) (hn : n < 18446744073709551616) (ht : Tab w) :
    Calls Tryd.prog 7 #[.int .u64 n, .string t, .agg #[.int .i64 a, .int .i64 b]] w fun e w' => e = .returned (.bool true) ∧ Below w.heap.size w w' := by
  by_cases h : t.size ≤ 5000
  · exact turned_in n t a b w hn h ht
  · have hi : (5000 : Int) < t.size := by omega
    have HT := Lib.hid ht; clear ht
    have HA := Lib.hid ((Below.refl w.heap.size w).alloc (Nat.le_refl _) (.cells #[.int .i64 a, .int .i64 b] 51))
    go_enter Tryd.func7, Tryd.ntmps7
    go_wp2_with (fail)
    refine (wakes_any _ (HT.out.below HA.out)).mono ?_; rintro e w1 ⟨rfl, hb1⟩
    go_wp2
    go_ret
    exact ⟨rfl, HA.out.trans (hb1.mono HA.out.size)⟩
end Go.Proofs.YtoejfkalgmdjcaaDoor
