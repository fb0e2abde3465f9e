/- What the code writes: the block that comes nearest to what is asked. -/
import Derived.Test.YtaachlijpgmjeaaDoorCdY
namespace Go.Proofs.YtaachlijpgmjeaaDoor
open Go.RowKit
/-- Where the numbers of a form stand: within its blocks. -/
structure Fm.In (f : Fm) : Prop where
  size : 6 ≤ f.size ∧ f.size ≤ 16
  la : f.la < f.size ∧ f.la + f.ln ≤ f.size ∧ f.ln ≤ 8
  ba : f.ba < f.size ∧ f.ba + f.bn ≤ f.size ∧ f.bn ≤ 8
  wa : f.wa < f.size ∧ f.wa + f.wn ≤ f.size ∧ f.wn ≤ 8
theorem fm_in (i : Nat) (hi : i < 14) : (fm i).In := by
  have : ∀ i, i < 14 → (6 ≤ (fm i).size ∧ (fm i).size ≤ 16) ∧ ((fm i).la < (fm i).size ∧ (fm i).la + (fm i).ln ≤ (fm i).size ∧ (fm i).ln ≤ 8) ∧ ((fm i).ba < (fm i).size ∧ (fm i).ba + (fm i).bn ≤ (fm i).size ∧ (fm i).bn ≤ 8) ∧ ((fm i).wa < (fm i).size ∧ (fm i).wa + (fm i).wn ≤ (fm i).size ∧ (fm i).wn ≤ 8) := by decide +kernel
  obtain ⟨h1, h2, h3, h4⟩ := this i hi
  exact ⟨h1, h2, h3, h4⟩
def b8 (n : Nat) : UInt8 := UInt8.ofNat n
def w8 (n : Int) : UInt8 := UInt8.ofNat (IntKind.u8.wrap n).toNat
/-- What is written, as a row of bytes. -/
def wr1 (f : Fm) (x : Ak) (a : Nat) : Nat := if x.fu = true then f.must ||| a ||| f.fua else f.must ||| a
def wr2 (f : Fm) (a : Nat) : List UInt8 := ((List.replicate f.size 0).set 0 (b8 f.first)).set 1 (b8 (f.must ||| a))
def wr3 (f : Fm) (x : Ak) (a : Nat) : List UInt8 := if x.fu = true then (wr2 f a).set 1 (b8 (wr1 f x a)) else wr2 f a
def wr4 (f : Fm) (x : Ak) (a : Nat) : List UInt8 := if x.page = 0 then wr3 f x a else ((wr3 f x a).set 1 (b8 (wr1 f x a ||| f.page))).set 2 (w8 x.page)
def wr5 (f : Fm) (x : Ak) (a : Nat) : List UInt8 := if x.ty = 0 then wr4 f x a else (wr4 f x a).set 2 (w8 (numN x.ty))
def wrL (f : Fm) (x : Ak) (a : Nat) : List UInt8 := putL (putL (putL (wr5 f x a) f.la (putHi (u64N x.lba) f.ln)) f.ba (putHi (u64N x.blk) f.bn)) f.wa (putHi (u64N x.want) f.wn)
def wrS (f : Fm) (x : Ak) (a : Nat) : ByteArray := ⟨(wrL f x a).toArray⟩
theorem b8_nat {n : Nat} (h : n < 256) : ((b8 n).toNat : Int) = (n : Int) := by
  unfold b8
  rw [UInt8.toNat_ofNat']
  omega
theorem w8_int (n : Int) : IntKind.u8.wrap n = ((w8 n).toNat : Int) := by
  unfold w8
  rw [UInt8.toNat_ofNat', IntKind.wrap_u8]
  omega
theorem or8 {x y : Nat} (hx : x < 256) (hy : y < 256) : x ||| y < 256 := Nat.or_lt_two_pow (n := 8) hx hy
theorem or_b8 {x y : Nat} (hx : x < 256) (hy : y < 256) : bits BinOp.or IntKind.u8 (x : Int) (y : Int) = ((b8 (x ||| y)).toNat : Int) := by
  rw [u8_or_nat x y hx hy, b8_nat (or8 hx hy)]
theorem bvA_set (l : List UInt8) (i : Nat) (y : UInt8) : (bvA l).setIfInBounds i (.int .u8 (y.toNat : Int)) = bvA (l.set i y) := by
  simp [bvA, bv, List.map_set]
theorem bvA_at {l : List UInt8} {i : Nat} {y : UInt8} (h : l[i]? = some y) : (bvA l)[i]? = some (.int .u8 (y.toNat : Int)) := by
  simp [bvA, bv, h]
def bzero (M : Nat) : Array Value := madeCells (Value.int .u8 0).cells M
theorem bzero_is (M : Nat) : bzero M = bvA (List.replicate M 0) := by
  unfold bzero madeCells bvA bv
  refine Array.ext (by simp) fun i h1 h2 => ?_
  have e : (Value.int .u8 0).cells = #[.int .u8 0] := rfl
  simp [e, Nat.mod_one]
theorem make_bytes (M : Nat) (h2 : M ≤ 140737488355328) (w : World) : (Instr.makeSlice 43 (.int .i64 (M : Int)) (.int .i64 (M : Int))).run Tryd.prog w = .ok (.slice (some ⟨w.heap.size, 0, none⟩) M M) (w.alloc (.cells (bvA (List.replicate M 0)) 5)) := by
  obtain ⟨i0, hi0, hz0, hz1, hz2⟩ := info_parts Tryd.info5
  have := run_make (P := Tryd.prog) w 43 5 i0 _ Tryd.underlying43 hi0 hz0 .i64 .i64 (M : Int) (M : Int) (by omega) (by omega) (by rw [hz2]; omega) (by omega)
  rw [this, hz1, ← bzero_is]
  simp [bzero]
theorem bytes_str (w : World) (g M : Nat) (l : List UInt8) (hl : l.length = M) (h : Blk w g 5 (bvA l)) : (convert 43 9 (.slice (some ⟨g, 0, none⟩) M M)).run Tryd.prog w = .ok (.string ⟨l.toArray⟩) w := by
  subst hl
  exact run_convert_bytes_back (P := Tryd.prog) w 43 9 5 ⟨g, 0, none⟩ l.length l Tryd.underlying43 Tryd.underlying5 Tryd.underlying9 (fun j hj => by
    rw [Addr.add_lit, Nat.zero_add, h.cell]
    simp [bvA, bv, List.getElem?_eq_getElem hj])
theorem wr2_at (f : Fm) (a : Nat) (h : 6 ≤ f.size) : (wr2 f a)[1]? = some (b8 (f.must ||| a)) := by
  unfold wr2
  rw [List.getElem?_set_self (by simp; omega)]
theorem set1_at {l : List UInt8} {y : UInt8} (h : 1 < l.length) : (l.set 1 y)[1]? = some y := List.getElem?_set_self h
theorem wr2_len (f : Fm) (a : Nat) : (wr2 f a).length = f.size := by simp [wr2]
theorem some_in {l : List UInt8} {i : Nat} (h : i < l.length) : ∃ y, l[i]? = some y := ⟨l[i], List.getElem?_eq_getElem h⟩
theorem put_len {l : List UInt8} {M a n z : Nat} (hl : l.length = M) (hn : a + n ≤ M) (h8 : n ≤ 8) : (putL l a (putHi z n)).length = M := by
  rw [putL_length (by rw [putHi_len z n h8]; omega), hl]
set_option maxRecDepth 100000 in
set_option maxHeartbeats 4000000 in
theorem write_any (f : Fm) (hf : f.Ok) (hi : f.In) (x : Ak) (a : Nat) (ha : a < 256) (w : World) (ht : FT w) : Calls Tryd.prog 27 #[fmV f, akV x, .int .i64 (a : Int)] w fun e w' => e = .returned (.string (wrS f x a)) ∧ Below w.heap.size w w' := by
  have HT := Lib.hid ht
  have HNU := Lib.hid (fun (n : Int) v (hv : FT v) => num_any n v hv)
  have HPT := Lib.hid (fun (l : List UInt8) (M g c n : Nat) (y : Int) v (hl : l.length = M) (hb : Blk v g 5 (bvA l)) (h1 : c < M) (h2 : c + n ≤ M) (h8 : n ≤ 8) => put_any l M g c n y v hl hb h1 h2 h8)
  have HI := Lib.hid hi
  have z0 : (0 : Int) < (f.size : Int) := by have := hi.size; omega
  have z1 : (1 : Int) < (f.size : Int) := by have := hi.size; omega
  have z2 : (2 : Int) < (f.size : Int) := by have := hi.size; omega
  have hwf : IntKind.u8.wrap (f.first : Int) = ((b8 f.first).toNat : Int) := by rw [b8_nat hf.first, IntKind.wrap_u8]; have := hf.first; omega
  have hwa : IntKind.u8.wrap (a : Int) = (a : Int) := by rw [IntKind.wrap_u8]; omega
  have hor1 : bits BinOp.or IntKind.u8 (f.must : Int) (a : Int) = ((b8 (f.must ||| a)).toNat : Int) := or_b8 hf.must ha
  have hor2 : bits BinOp.or IntKind.u8 ((b8 (f.must ||| a)).toNat : Int) (f.fua : Int) = ((b8 (f.must ||| a ||| f.fua)).toNat : Int) := by rw [b8_nat (or8 hf.must ha)]; exact or_b8 (or8 hf.must ha) hf.fua
  have hor3 : bits BinOp.or IntKind.u8 ((b8 (wr1 f x a)).toNat : Int) (f.page : Int) = ((b8 (wr1 f x a ||| f.page)).toNat : Int) := by
    have h : wr1 f x a < 256 := by unfold wr1; split; exact or8 (or8 hf.must ha) hf.fua; exact or8 hf.must ha
    rw [b8_nat h]; exact or_b8 h hf.page
  have hwp := w8_int x.page
  have hwn := w8_int (numN x.ty)
  have HW2 := Lib.hid (wr2_at f a hi.size.1)
  have HL2 := Lib.hid (wr2_len f a)
  have HD2 := Lib.hid (show wr2 f a = ((List.replicate f.size 0).set 0 (b8 f.first)).set 1 (b8 (f.must ||| a)) from rfl)
  have HD1 := Lib.hid (show wr1 f x a = if x.fu = true then f.must ||| a ||| f.fua else f.must ||| a from rfl)
  have HD3 := Lib.hid (show wr3 f x a = if x.fu = true then (wr2 f a).set 1 (b8 (wr1 f x a)) else wr2 f a from rfl)
  have HD4 := Lib.hid (show wr4 f x a = if x.page = 0 then wr3 f x a else ((wr3 f x a).set 1 (b8 (wr1 f x a ||| f.page))).set 2 (w8 x.page) from rfl)
  have HD5 := Lib.hid (show wr5 f x a = if x.ty = 0 then wr4 f x a else (wr4 f x a).set 2 (w8 (numN x.ty)) from rfl)
  have HDS := Lib.hid (show wrS f x a = ⟨(putL (putL (putL (wr5 f x a) f.la (putHi (u64N x.lba) f.ln)) f.ba (putHi (u64N x.blk) f.bn)) f.wa (putHi (u64N x.want) f.wn)).toArray⟩ from rfl)
  generalize wrS f x a = R at *
  generalize wr5 f x a = l5 at *
  generalize wr4 f x a = l4 at *
  generalize wr3 f x a = l3 at *
  generalize wr2 f a = l2 at *
  generalize b8 (wr1 f x a ||| f.page) = y3 at *
  generalize wr1 f x a = k1 at *
  generalize b8 f.first = y0 at *
  generalize hy1 : b8 (f.must ||| a) = y1 at *
  generalize hy2 : b8 (f.must ||| a ||| f.fua) = y2 at *
  have HK1 := Lib.hid (show b8 k1 = if x.fu = true then y2 else y1 by rw [HD1.out]; split <;> assumption)
  generalize b8 k1 = yk at *
  generalize w8 x.page = yp at *
  generalize w8 (numN x.ty) = yn at *
  have HB0 := Lib.hid (((Below.refl w.heap.size w).alloc (Nat.le_refl _) (.cells (fmC f) 51)).alloc (by simp) (.cells (akC x) 24))
  have HX0 := Lib.hid ((Blk.new w 51 (fmC f)).alloc (.cells (akC x) 24))
  have HR0 := Lib.hid (show Blk ((w.alloc (.cells (fmC f) 51)).alloc (.cells (akC x) 24)) (w.heap.size + 1) 24 (akC x) by
    have := Blk.new (w.alloc (.cells (fmC f) 51)) 24 (akC x)
    rwa [show (w.alloc (.cells (fmC f) 51)).heap.size = w.heap.size + 1 by simp] at this)
  clear ht hi hf ha hy1 hy2 HD1
  go_enter Tryd.func27, Tryd.ntmps27
  go_upto_region 1 with (fail)
  change Code.wp _ _ _ _ ((w.alloc (.cells (fmC f) 51)).alloc (.cells (akC x) 24))
  have hsz : (w.alloc (.cells (fmC f) 51)).heap.size = w.heap.size + 1 := by simp
  generalize (w.alloc (.cells (fmC f) 51)).alloc (.cells (akC x) 24) = v0 at *
  try rw [hsz]
  clear hsz
  obtain ⟨p, hp⟩ : ∃ p, p = w.heap.size := ⟨_, rfl⟩
  have HP := Lib.hid hp
  rw [← hp] at HX0 HR0 ⊢
  clear hp
  have c1 : v0.cell? ⟨p, 1, none⟩ = some (.int .i64 (f.size : Int)) := HX0.out.cell 1
  have hmk := make_bytes f.size (by have := HI.out.size; omega) v0
  go_upto_region 2 with (fail)
  clear c1 hmk
  change Code.wp _ _ _ _ (v0.alloc (.cells (bvA (List.replicate f.size 0)) 5))
  have hal := (Below.refl v0.heap.size v0).alloc (Nat.le_refl _) (.cells (bvA (List.replicate f.size 0)) 5)
  have HX := Lib.hid (HX0.out.below hal HX0.out.lt); have HR := Lib.hid (HR0.out.below hal HR0.out.lt); have HB := Lib.hid (HB0.out.trans (hal.mono HB0.out.size))
  have HG := Lib.hid (Blk.new v0 5 (bvA (List.replicate f.size 0)))
  obtain ⟨g, hg⟩ : ∃ g, g = v0.heap.size := ⟨_, rfl⟩
  have HPG := Lib.hid (show p + 1 < g by rw [hg]; exact HR0.out.lt)
  rw [← hg] at HG ⊢
  clear hal hg HB0 HX0 HR0
  generalize v0.alloc (.cells (bvA (List.replicate f.size 0)) 5) = v1 at *
  have c0 : v1.cell? ⟨p, 0, none⟩ = some (.int .i64 (f.first : Int)) := HX.out.cell 0
  obtain ⟨u0, hu0⟩ := some_in (l := List.replicate f.size 0) (i := 0) (by have := HI.out.size; simp; omega)
  have g0 : v1.cell? ⟨g, 0, none⟩ = some (.int .u8 (u0.toNat : Int)) := (HG.out.cell 0).trans (bvA_at hu0)
  have e0 := HG.out.free 0
  go_upto_region 3 with (fail)
  clear c0 g0 e0 hu0
  replace HG := Lib.hid (HG.out.put 0 (.int .u8 (y0.toNat : Int)))
  rw [bvA_set] at HG
  replace HX := Lib.hid (HX.out.far (p := ⟨g, 0, none⟩) (by have := HPG.out; dsimp only; omega) (.int .u8 (y0.toNat : Int)))
  replace HR := Lib.hid (HR.out.far (p := ⟨g, 0, none⟩) (by have := HPG.out; dsimp only; omega) (.int .u8 (y0.toNat : Int)))
  replace HB := Lib.hid (HB.out.setCell (p := ⟨g, 0, none⟩) (by have := HPG.out; have := HP.out; dsimp only; omega) (.int .u8 (y0.toNat : Int)))
  generalize v1.setCell ⟨g, 0, none⟩ (.int .u8 (y0.toNat : Int)) = v2 at *
  have c9 : v2.cell? ⟨p, 9, none⟩ = some (.int .u8 (f.must : Int)) := HX.out.cell 9
  obtain ⟨u1, hu1⟩ := some_in (l := (List.replicate f.size 0).set 0 y0) (i := 1) (by have := HI.out.size; simp; omega)
  have g1 : v2.cell? ⟨g, 1, none⟩ = some (.int .u8 (u1.toNat : Int)) := (HG.out.cell 1).trans (bvA_at hu1)
  have e1 := HG.out.free 1
  go_upto_region 4 with (fail)
  clear c9 g1 e1 hu1
  replace HG := Lib.hid (HG.out.put 1 (.int .u8 (y1.toNat : Int)))
  rw [bvA_set] at HG
  replace HX := Lib.hid (HX.out.far (p := ⟨g, 1, none⟩) (by have := HPG.out; dsimp only; omega) (.int .u8 (y1.toNat : Int)))
  replace HR := Lib.hid (HR.out.far (p := ⟨g, 1, none⟩) (by have := HPG.out; dsimp only; omega) (.int .u8 (y1.toNat : Int)))
  replace HB := Lib.hid (HB.out.setCell (p := ⟨g, 1, none⟩) (by have := HPG.out; have := HP.out; dsimp only; omega) (.int .u8 (y1.toNat : Int)))
  generalize v2.setCell ⟨g, 1, none⟩ (.int .u8 (y1.toNat : Int)) = v3 at *
  rw [← HD2.out] at HG
  clear HD2
  have d3 : v3.cell? ⟨p + 1, 3, none⟩ = some (.bool x.fu) := HR.out.cell 3
  cases q1 : x.fu with
  | true =>
    go_upto_region 5 with (fail)
    clear d3
    have HX0 := Lib.hid HX.out.drew; have HR0 := Lib.hid HR.out.drew; have HG0 := Lib.hid HG.out.drew; have HB0 := Lib.hid HB.out.drew
    have c10 : v3.drew.cell? ⟨p, 10, none⟩ = some (.int .u8 (f.fua : Int)) := HX0.out.cell 10
    have g1 : v3.drew.cell? ⟨g, 1, none⟩ = some (.int .u8 (y1.toNat : Int)) := (HG0.out.cell 1).trans (bvA_at HW2.out)
    have e1 : v3.drew.frozen? ⟨g, 1, none⟩ = false := HG0.out.free 1
    go_region
    clear c10 g1 e1
    replace HX := HX0; replace HR := HR0; replace HG := HG0; replace HB := HB0
    clear HX0 HR0 HG0 HB0
    change Exit.then _ _ Exit.normal _ (World.setCell v3.drew ⟨g, 1, none⟩ (.int .u8 (y2.toNat : Int)))
    replace HG := Lib.hid (HG.out.put 1 (.int .u8 (y2.toNat : Int)))
    rw [bvA_set] at HG
    replace HX := Lib.hid (HX.out.far (p := ⟨g, 1, none⟩) (by have := HPG.out; dsimp only; omega) (.int .u8 (y2.toNat : Int)))
    replace HR := Lib.hid (HR.out.far (p := ⟨g, 1, none⟩) (by have := HPG.out; dsimp only; omega) (.int .u8 (y2.toNat : Int)))
    replace HB := Lib.hid (HB.out.setCell (p := ⟨g, 1, none⟩) (by have := HPG.out; have := HP.out; dsimp only; omega) (.int .u8 (y2.toNat : Int)))
    generalize v3.drew.setCell ⟨g, 1, none⟩ (.int .u8 (y2.toNat : Int)) = v4 at *
    have hl3 : l2.set 1 y2 = l3 := by rw [HD3.out, HK1.out, q1]; rfl
    have HA := Lib.hid (show l3[1]? = some yk by rw [← hl3, HK1.out, q1]; exact set1_at (by rw [HL2.out]; have := HI.out.size; omega))
    rw [hl3] at HG
    have HL := Lib.hid (show l3.length = f.size by rw [← hl3, List.length_set]; exact HL2.out)
    clear hl3 HD3 HK1 HL2 HW2
    cases q2 : (x.page != 0) with
    | true =>
      have d4 : v4.cell? ⟨p + 1, 4, none⟩ = some (.int .i64 x.page) := HR.out.cell 4
      go_upto_region 7 with (fail)
      clear d4
      have HX0 := Lib.hid HX.out.drew; have HR0 := Lib.hid HR.out.drew; have HG0 := Lib.hid HG.out.drew; have HB0 := Lib.hid HB.out.drew
      have c11 : v4.drew.cell? ⟨p, 11, none⟩ = some (.int .u8 (f.page : Int)) := HX0.out.cell 11
      have g1 : v4.drew.cell? ⟨g, 1, none⟩ = some (.int .u8 (yk.toNat : Int)) := (HG0.out.cell 1).trans (bvA_at HA.out)
      have e1 : v4.drew.frozen? ⟨g, 1, none⟩ = false := HG0.out.free 1
      go_region
      clear c11 g1 e1
      replace HX := HX0; replace HR := HR0; replace HG := HG0; replace HB := HB0
      clear HX0 HR0 HG0 HB0
      change Exit.then _ _ Exit.normal _ (World.setCell v4.drew ⟨g, 1, none⟩ (.int .u8 (y3.toNat : Int)))
      replace HG := Lib.hid (HG.out.put 1 (.int .u8 (y3.toNat : Int)))
      rw [bvA_set] at HG
      replace HX := Lib.hid (HX.out.far (p := ⟨g, 1, none⟩) (by have := HPG.out; dsimp only; omega) (.int .u8 (y3.toNat : Int)))
      replace HR := Lib.hid (HR.out.far (p := ⟨g, 1, none⟩) (by have := HPG.out; dsimp only; omega) (.int .u8 (y3.toNat : Int)))
      replace HB := Lib.hid (HB.out.setCell (p := ⟨g, 1, none⟩) (by have := HPG.out; have := HP.out; dsimp only; omega) (.int .u8 (y3.toNat : Int)))
      generalize v4.drew.setCell ⟨g, 1, none⟩ (.int .u8 (y3.toNat : Int)) = v6 at *
      obtain ⟨u2, hu2⟩ := some_in (l := (l3.set 1 y3)) (i := 2) (by rw [List.length_set, HL.out]; have := HI.out.size; omega)
      have g2 : v6.cell? ⟨g, 2, none⟩ = some (.int .u8 (u2.toNat : Int)) := (HG.out.cell 2).trans (bvA_at hu2)
      have e2 := HG.out.free 2
      have d4 : v6.cell? ⟨p + 1, 4, none⟩ = some (.int .i64 x.page) := HR.out.cell 4
      go_upto_region 9 with (fail)
      clear g2 e2 hu2 d4
      replace HG := Lib.hid (HG.out.put 2 (.int .u8 (yp.toNat : Int)))
      rw [bvA_set] at HG
      replace HX := Lib.hid (HX.out.far (p := ⟨g, 2, none⟩) (by have := HPG.out; dsimp only; omega) (.int .u8 (yp.toNat : Int)))
      replace HR := Lib.hid (HR.out.far (p := ⟨g, 2, none⟩) (by have := HPG.out; dsimp only; omega) (.int .u8 (yp.toNat : Int)))
      replace HB := Lib.hid (HB.out.setCell (p := ⟨g, 2, none⟩) (by have := HPG.out; have := HP.out; dsimp only; omega) (.int .u8 (yp.toNat : Int)))
      generalize v6.setCell ⟨g, 2, none⟩ (.int .u8 (yp.toNat : Int)) = v7 at *
      have hl4 : (l3.set 1 y3).set 2 yp = l4 := by rw [HD4.out, if_neg (by have h := q2; rw [bne_iff_ne] at h; exact h)]
      rw [hl4] at HG
      replace HL := Lib.hid (show l4.length = f.size by rw [← hl4, List.length_set, List.length_set]; exact HL.out)
      clear hl4 HD4 HA
      cases q3 : (x.ty != 0) with
      | true =>
        have d6 : v7.cell? ⟨p + 1, 6, none⟩ = some (.int .i64 x.ty) := HR.out.cell 6
        go_wp2_with (fail)
        refine (HNU.out x.ty _ (ft HT HB)).mono ?_; rintro e v9 ⟨rfl, hb⟩
        replace HB := Lib.hid (HB.out.trans (hb.mono HB.out.size)); replace HX := Lib.hid (HX.out.below hb HX.out.lt); replace HR := Lib.hid (HR.out.below hb HR.out.lt); replace HG := Lib.hid (HG.out.below hb HG.out.lt)
        clear hb d6
        obtain ⟨u2, hu2⟩ := some_in (l := l4) (i := 2) (by rw [HL.out]; have := HI.out.size; omega)
        have g2 : v9.cell? ⟨g, 2, none⟩ = some (.int .u8 (u2.toNat : Int)) := (HG.out.cell 2).trans (bvA_at hu2)
        have e2 := HG.out.free 2
        go_upto_region 11 with (fail)
        clear g2 e2 hu2
        replace HG := Lib.hid (HG.out.put 2 (.int .u8 (yn.toNat : Int)))
        rw [bvA_set] at HG
        replace HX := Lib.hid (HX.out.far (p := ⟨g, 2, none⟩) (by have := HPG.out; dsimp only; omega) (.int .u8 (yn.toNat : Int)))
        replace HR := Lib.hid (HR.out.far (p := ⟨g, 2, none⟩) (by have := HPG.out; dsimp only; omega) (.int .u8 (yn.toNat : Int)))
        replace HB := Lib.hid (HB.out.setCell (p := ⟨g, 2, none⟩) (by have := HPG.out; have := HP.out; dsimp only; omega) (.int .u8 (yn.toNat : Int)))
        generalize v9.setCell ⟨g, 2, none⟩ (.int .u8 (yn.toNat : Int)) = v10 at *
        have hl5 : l4.set 2 yn = l5 := by rw [HD5.out, if_neg (by have h := q3; rw [bne_iff_ne] at h; exact h)]
        rw [hl5] at HG
        replace HL := Lib.hid (show l5.length = f.size by rw [← hl5, List.length_set]; exact HL.out)
        clear hl5 HD5
        have c2 : v10.cell? ⟨p, 2, none⟩ = some (.int .i64 (f.la : Int)) := HX.out.cell 2
        have c3 : v10.cell? ⟨p, 3, none⟩ = some (.int .i64 (f.ln : Int)) := HX.out.cell 3
        have d1 : v10.cell? ⟨p + 1, 1, none⟩ = some (.int .i64 x.lba) := HR.out.cell 1
        go_wp2_with (fail)
        refine (HPT.out l5 f.size g f.la f.ln x.lba _ HL.out HG.out HI.out.la.1 HI.out.la.2.1 HI.out.la.2.2).mono ?_; rintro e w11 ⟨rfl, hbk, ho⟩
        replace HL := Lib.hid (put_len (z := u64N x.lba) HL.out HI.out.la.2.1 HI.out.la.2.2)
        replace HG := Lib.hid hbk; replace HX := Lib.hid (HX.out.only ho (by have := HPG.out; omega)); replace HR := Lib.hid (HR.out.only ho (by have := HPG.out; omega))
        replace HB := Lib.hid (HB.out.trans (below_only ho HB.out.size (by rintro k rfl; have := HPG.out; have := HP.out; omega)))
        clear hbk ho c2 c3 d1
        have c4 : w11.cell? ⟨p, 4, none⟩ = some (.int .i64 (f.ba : Int)) := HX.out.cell 4
        have c5 : w11.cell? ⟨p, 5, none⟩ = some (.int .i64 (f.bn : Int)) := HX.out.cell 5
        have d2 : w11.cell? ⟨p + 1, 2, none⟩ = some (.int .i64 x.blk) := HR.out.cell 2
        go_wp2_with (fail)
        refine (HPT.out (putL l5 f.la (putHi (u64N x.lba) f.ln)) f.size g f.ba f.bn x.blk _ HL.out HG.out HI.out.ba.1 HI.out.ba.2.1 HI.out.ba.2.2).mono ?_; rintro e w12 ⟨rfl, hbk, ho⟩
        replace HL := Lib.hid (put_len (z := u64N x.blk) HL.out HI.out.ba.2.1 HI.out.ba.2.2)
        replace HG := Lib.hid hbk; replace HX := Lib.hid (HX.out.only ho (by have := HPG.out; omega)); replace HR := Lib.hid (HR.out.only ho (by have := HPG.out; omega))
        replace HB := Lib.hid (HB.out.trans (below_only ho HB.out.size (by rintro k rfl; have := HPG.out; have := HP.out; omega)))
        clear hbk ho c4 c5 d2
        have c6 : w12.cell? ⟨p, 6, none⟩ = some (.int .i64 (f.wa : Int)) := HX.out.cell 6
        have c7 : w12.cell? ⟨p, 7, none⟩ = some (.int .i64 (f.wn : Int)) := HX.out.cell 7
        have d5 : w12.cell? ⟨p + 1, 5, none⟩ = some (.int .i64 x.want) := HR.out.cell 5
        go_wp2_with (fail)
        refine (HPT.out (putL (putL l5 f.la (putHi (u64N x.lba) f.ln)) f.ba (putHi (u64N x.blk) f.bn)) f.size g f.wa f.wn x.want _ HL.out HG.out HI.out.wa.1 HI.out.wa.2.1 HI.out.wa.2.2).mono ?_; rintro e w13 ⟨rfl, hbk, ho⟩
        replace HL := Lib.hid (put_len (z := u64N x.want) HL.out HI.out.wa.2.1 HI.out.wa.2.2)
        replace HG := Lib.hid hbk; replace HX := Lib.hid (HX.out.only ho (by have := HPG.out; omega)); replace HR := Lib.hid (HR.out.only ho (by have := HPG.out; omega))
        replace HB := Lib.hid (HB.out.trans (below_only ho HB.out.size (by rintro k rfl; have := HPG.out; have := HP.out; omega)))
        clear hbk ho c6 c7 d5
        have hcv := bytes_str w13 g f.size _ HL.out HG.out
        rw [← HDS.out] at hcv
        go_wp2_with (fail)
        go_ret
        exact ⟨rfl, HB.out⟩
      | false =>
        have d6 : v7.cell? ⟨p + 1, 6, none⟩ = some (.int .i64 x.ty) := HR.out.cell 6
        go_upto_region 11 with (fail)
        clear d6
        have hl5 : l4 = l5 := by rw [HD5.out, if_pos (by have h := q3; rw [bne_eq_false_iff_eq] at h; exact h)]
        rw [hl5] at HG HL
        clear hl5 HD5
        have c2 : v7.cell? ⟨p, 2, none⟩ = some (.int .i64 (f.la : Int)) := HX.out.cell 2
        have c3 : v7.cell? ⟨p, 3, none⟩ = some (.int .i64 (f.ln : Int)) := HX.out.cell 3
        have d1 : v7.cell? ⟨p + 1, 1, none⟩ = some (.int .i64 x.lba) := HR.out.cell 1
        go_wp2_with (fail)
        refine (HPT.out l5 f.size g f.la f.ln x.lba _ HL.out HG.out HI.out.la.1 HI.out.la.2.1 HI.out.la.2.2).mono ?_; rintro e w11 ⟨rfl, hbk, ho⟩
        replace HL := Lib.hid (put_len (z := u64N x.lba) HL.out HI.out.la.2.1 HI.out.la.2.2)
        replace HG := Lib.hid hbk; replace HX := Lib.hid (HX.out.only ho (by have := HPG.out; omega)); replace HR := Lib.hid (HR.out.only ho (by have := HPG.out; omega))
        replace HB := Lib.hid (HB.out.trans (below_only ho HB.out.size (by rintro k rfl; have := HPG.out; have := HP.out; omega)))
        clear hbk ho c2 c3 d1
        have c4 : w11.cell? ⟨p, 4, none⟩ = some (.int .i64 (f.ba : Int)) := HX.out.cell 4
        have c5 : w11.cell? ⟨p, 5, none⟩ = some (.int .i64 (f.bn : Int)) := HX.out.cell 5
        have d2 : w11.cell? ⟨p + 1, 2, none⟩ = some (.int .i64 x.blk) := HR.out.cell 2
        go_wp2_with (fail)
        refine (HPT.out (putL l5 f.la (putHi (u64N x.lba) f.ln)) f.size g f.ba f.bn x.blk _ HL.out HG.out HI.out.ba.1 HI.out.ba.2.1 HI.out.ba.2.2).mono ?_; rintro e w12 ⟨rfl, hbk, ho⟩
        replace HL := Lib.hid (put_len (z := u64N x.blk) HL.out HI.out.ba.2.1 HI.out.ba.2.2)
        replace HG := Lib.hid hbk; replace HX := Lib.hid (HX.out.only ho (by have := HPG.out; omega)); replace HR := Lib.hid (HR.out.only ho (by have := HPG.out; omega))
        replace HB := Lib.hid (HB.out.trans (below_only ho HB.out.size (by rintro k rfl; have := HPG.out; have := HP.out; omega)))
        clear hbk ho c4 c5 d2
        have c6 : w12.cell? ⟨p, 6, none⟩ = some (.int .i64 (f.wa : Int)) := HX.out.cell 6
        have c7 : w12.cell? ⟨p, 7, none⟩ = some (.int .i64 (f.wn : Int)) := HX.out.cell 7
        have d5 : w12.cell? ⟨p + 1, 5, none⟩ = some (.int .i64 x.want) := HR.out.cell 5
        go_wp2_with (fail)
        refine (HPT.out (putL (putL l5 f.la (putHi (u64N x.lba) f.ln)) f.ba (putHi (u64N x.blk) f.bn)) f.size g f.wa f.wn x.want _ HL.out HG.out HI.out.wa.1 HI.out.wa.2.1 HI.out.wa.2.2).mono ?_; rintro e w13 ⟨rfl, hbk, ho⟩
        replace HL := Lib.hid (put_len (z := u64N x.want) HL.out HI.out.wa.2.1 HI.out.wa.2.2)
        replace HG := Lib.hid hbk; replace HX := Lib.hid (HX.out.only ho (by have := HPG.out; omega)); replace HR := Lib.hid (HR.out.only ho (by have := HPG.out; omega))
        replace HB := Lib.hid (HB.out.trans (below_only ho HB.out.size (by rintro k rfl; have := HPG.out; have := HP.out; omega)))
        clear hbk ho c6 c7 d5
        have hcv := bytes_str w13 g f.size _ HL.out HG.out
        rw [← HDS.out] at hcv
        go_wp2_with (fail)
        go_ret
        exact ⟨rfl, HB.out⟩
    | false =>
      have d4 : v4.cell? ⟨p + 1, 4, none⟩ = some (.int .i64 x.page) := HR.out.cell 4
      go_upto_region 9 with (fail)
      clear d4
      have hl4 : l3 = l4 := by rw [HD4.out, if_pos (by have h := q2; rw [bne_eq_false_iff_eq] at h; exact h)]
      rw [hl4] at HG HL
      clear hl4 HD4 HA
      cases q3 : (x.ty != 0) with
      | true =>
        have d6 : v4.cell? ⟨p + 1, 6, none⟩ = some (.int .i64 x.ty) := HR.out.cell 6
        go_wp2_with (fail)
        refine (HNU.out x.ty _ (ft HT HB)).mono ?_; rintro e v9 ⟨rfl, hb⟩
        replace HB := Lib.hid (HB.out.trans (hb.mono HB.out.size)); replace HX := Lib.hid (HX.out.below hb HX.out.lt); replace HR := Lib.hid (HR.out.below hb HR.out.lt); replace HG := Lib.hid (HG.out.below hb HG.out.lt)
        clear hb d6
        obtain ⟨u2, hu2⟩ := some_in (l := l4) (i := 2) (by rw [HL.out]; have := HI.out.size; omega)
        have g2 : v9.cell? ⟨g, 2, none⟩ = some (.int .u8 (u2.toNat : Int)) := (HG.out.cell 2).trans (bvA_at hu2)
        have e2 := HG.out.free 2
        go_upto_region 11 with (fail)
        clear g2 e2 hu2
        replace HG := Lib.hid (HG.out.put 2 (.int .u8 (yn.toNat : Int)))
        rw [bvA_set] at HG
        replace HX := Lib.hid (HX.out.far (p := ⟨g, 2, none⟩) (by have := HPG.out; dsimp only; omega) (.int .u8 (yn.toNat : Int)))
        replace HR := Lib.hid (HR.out.far (p := ⟨g, 2, none⟩) (by have := HPG.out; dsimp only; omega) (.int .u8 (yn.toNat : Int)))
        replace HB := Lib.hid (HB.out.setCell (p := ⟨g, 2, none⟩) (by have := HPG.out; have := HP.out; dsimp only; omega) (.int .u8 (yn.toNat : Int)))
        generalize v9.setCell ⟨g, 2, none⟩ (.int .u8 (yn.toNat : Int)) = v10 at *
        have hl5 : l4.set 2 yn = l5 := by rw [HD5.out, if_neg (by have h := q3; rw [bne_iff_ne] at h; exact h)]
        rw [hl5] at HG
        replace HL := Lib.hid (show l5.length = f.size by rw [← hl5, List.length_set]; exact HL.out)
        clear hl5 HD5
        have c2 : v10.cell? ⟨p, 2, none⟩ = some (.int .i64 (f.la : Int)) := HX.out.cell 2
        have c3 : v10.cell? ⟨p, 3, none⟩ = some (.int .i64 (f.ln : Int)) := HX.out.cell 3
        have d1 : v10.cell? ⟨p + 1, 1, none⟩ = some (.int .i64 x.lba) := HR.out.cell 1
        go_wp2_with (fail)
        refine (HPT.out l5 f.size g f.la f.ln x.lba _ HL.out HG.out HI.out.la.1 HI.out.la.2.1 HI.out.la.2.2).mono ?_; rintro e w11 ⟨rfl, hbk, ho⟩
        replace HL := Lib.hid (put_len (z := u64N x.lba) HL.out HI.out.la.2.1 HI.out.la.2.2)
        replace HG := Lib.hid hbk; replace HX := Lib.hid (HX.out.only ho (by have := HPG.out; omega)); replace HR := Lib.hid (HR.out.only ho (by have := HPG.out; omega))
        replace HB := Lib.hid (HB.out.trans (below_only ho HB.out.size (by rintro k rfl; have := HPG.out; have := HP.out; omega)))
        clear hbk ho c2 c3 d1
        have c4 : w11.cell? ⟨p, 4, none⟩ = some (.int .i64 (f.ba : Int)) := HX.out.cell 4
        have c5 : w11.cell? ⟨p, 5, none⟩ = some (.int .i64 (f.bn : Int)) := HX.out.cell 5
        have d2 : w11.cell? ⟨p + 1, 2, none⟩ = some (.int .i64 x.blk) := HR.out.cell 2
        go_wp2_with (fail)
        refine (HPT.out (putL l5 f.la (putHi (u64N x.lba) f.ln)) f.size g f.ba f.bn x.blk _ HL.out HG.out HI.out.ba.1 HI.out.ba.2.1 HI.out.ba.2.2).mono ?_; rintro e w12 ⟨rfl, hbk, ho⟩
        replace HL := Lib.hid (put_len (z := u64N x.blk) HL.out HI.out.ba.2.1 HI.out.ba.2.2)
        replace HG := Lib.hid hbk; replace HX := Lib.hid (HX.out.only ho (by have := HPG.out; omega)); replace HR := Lib.hid (HR.out.only ho (by have := HPG.out; omega))
        replace HB := Lib.hid (HB.out.trans (below_only ho HB.out.size (by rintro k rfl; have := HPG.out; have := HP.out; omega)))
        clear hbk ho c4 c5 d2
        have c6 : w12.cell? ⟨p, 6, none⟩ = some (.int .i64 (f.wa : Int)) := HX.out.cell 6
        have c7 : w12.cell? ⟨p, 7, none⟩ = some (.int .i64 (f.wn : Int)) := HX.out.cell 7
        have d5 : w12.cell? ⟨p + 1, 5, none⟩ = some (.int .i64 x.want) := HR.out.cell 5
        go_wp2_with (fail)
        refine (HPT.out (putL (putL l5 f.la (putHi (u64N x.lba) f.ln)) f.ba (putHi (u64N x.blk) f.bn)) f.size g f.wa f.wn x.want _ HL.out HG.out HI.out.wa.1 HI.out.wa.2.1 HI.out.wa.2.2).mono ?_; rintro e w13 ⟨rfl, hbk, ho⟩
        replace HL := Lib.hid (put_len (z := u64N x.want) HL.out HI.out.wa.2.1 HI.out.wa.2.2)
        replace HG := Lib.hid hbk; replace HX := Lib.hid (HX.out.only ho (by have := HPG.out; omega)); replace HR := Lib.hid (HR.out.only ho (by have := HPG.out; omega))
        replace HB := Lib.hid (HB.out.trans (below_only ho HB.out.size (by rintro k rfl; have := HPG.out; have := HP.out; omega)))
        clear hbk ho c6 c7 d5
        have hcv := bytes_str w13 g f.size _ HL.out HG.out
        rw [← HDS.out] at hcv
        go_wp2_with (fail)
        go_ret
        exact ⟨rfl, HB.out⟩
      | false =>
        have d6 : v4.cell? ⟨p + 1, 6, none⟩ = some (.int .i64 x.ty) := HR.out.cell 6
        go_upto_region 11 with (fail)
        clear d6
        have hl5 : l4 = l5 := by rw [HD5.out, if_pos (by have h := q3; rw [bne_eq_false_iff_eq] at h; exact h)]
        rw [hl5] at HG HL
        clear hl5 HD5
        have c2 : v4.cell? ⟨p, 2, none⟩ = some (.int .i64 (f.la : Int)) := HX.out.cell 2
        have c3 : v4.cell? ⟨p, 3, none⟩ = some (.int .i64 (f.ln : Int)) := HX.out.cell 3
        have d1 : v4.cell? ⟨p + 1, 1, none⟩ = some (.int .i64 x.lba) := HR.out.cell 1
        go_wp2_with (fail)
        refine (HPT.out l5 f.size g f.la f.ln x.lba _ HL.out HG.out HI.out.la.1 HI.out.la.2.1 HI.out.la.2.2).mono ?_; rintro e w11 ⟨rfl, hbk, ho⟩
        replace HL := Lib.hid (put_len (z := u64N x.lba) HL.out HI.out.la.2.1 HI.out.la.2.2)
        replace HG := Lib.hid hbk; replace HX := Lib.hid (HX.out.only ho (by have := HPG.out; omega)); replace HR := Lib.hid (HR.out.only ho (by have := HPG.out; omega))
        replace HB := Lib.hid (HB.out.trans (below_only ho HB.out.size (by rintro k rfl; have := HPG.out; have := HP.out; omega)))
        clear hbk ho c2 c3 d1
        have c4 : w11.cell? ⟨p, 4, none⟩ = some (.int .i64 (f.ba : Int)) := HX.out.cell 4
        have c5 : w11.cell? ⟨p, 5, none⟩ = some (.int .i64 (f.bn : Int)) := HX.out.cell 5
        have d2 : w11.cell? ⟨p + 1, 2, none⟩ = some (.int .i64 x.blk) := HR.out.cell 2
        go_wp2_with (fail)
        refine (HPT.out (putL l5 f.la (putHi (u64N x.lba) f.ln)) f.size g f.ba f.bn x.blk _ HL.out HG.out HI.out.ba.1 HI.out.ba.2.1 HI.out.ba.2.2).mono ?_; rintro e w12 ⟨rfl, hbk, ho⟩
        replace HL := Lib.hid (put_len (z := u64N x.blk) HL.out HI.out.ba.2.1 HI.out.ba.2.2)
        replace HG := Lib.hid hbk; replace HX := Lib.hid (HX.out.only ho (by have := HPG.out; omega)); replace HR := Lib.hid (HR.out.only ho (by have := HPG.out; omega))
        replace HB := Lib.hid (HB.out.trans (below_only ho HB.out.size (by rintro k rfl; have := HPG.out; have := HP.out; omega)))
        clear hbk ho c4 c5 d2
        have c6 : w12.cell? ⟨p, 6, none⟩ = some (.int .i64 (f.wa : Int)) := HX.out.cell 6
        have c7 : w12.cell? ⟨p, 7, none⟩ = some (.int .i64 (f.wn : Int)) := HX.out.cell 7
        have d5 : w12.cell? ⟨p + 1, 5, none⟩ = some (.int .i64 x.want) := HR.out.cell 5
        go_wp2_with (fail)
        refine (HPT.out (putL (putL l5 f.la (putHi (u64N x.lba) f.ln)) f.ba (putHi (u64N x.blk) f.bn)) f.size g f.wa f.wn x.want _ HL.out HG.out HI.out.wa.1 HI.out.wa.2.1 HI.out.wa.2.2).mono ?_; rintro e w13 ⟨rfl, hbk, ho⟩
        replace HL := Lib.hid (put_len (z := u64N x.want) HL.out HI.out.wa.2.1 HI.out.wa.2.2)
        replace HG := Lib.hid hbk; replace HX := Lib.hid (HX.out.only ho (by have := HPG.out; omega)); replace HR := Lib.hid (HR.out.only ho (by have := HPG.out; omega))
        replace HB := Lib.hid (HB.out.trans (below_only ho HB.out.size (by rintro k rfl; have := HPG.out; have := HP.out; omega)))
        clear hbk ho c6 c7 d5
        have hcv := bytes_str w13 g f.size _ HL.out HG.out
        rw [← HDS.out] at hcv
        go_wp2_with (fail)
        go_ret
        exact ⟨rfl, HB.out⟩
  | false =>
    go_upto_region 6 with (fail)
    clear d3
    have hl3 : l2 = l3 := by rw [HD3.out, q1]; rfl
    have HA := Lib.hid (show l3[1]? = some yk by rw [← hl3, HK1.out, q1]; exact HW2.out)
    rw [hl3] at HG
    have HL := Lib.hid (show l3.length = f.size by rw [← hl3]; exact HL2.out)
    clear hl3 HD3 HK1 HL2 HW2
    cases q2 : (x.page != 0) with
    | true =>
      have d4 : v3.cell? ⟨p + 1, 4, none⟩ = some (.int .i64 x.page) := HR.out.cell 4
      go_upto_region 7 with (fail)
      clear d4
      have HX0 := Lib.hid HX.out.drew; have HR0 := Lib.hid HR.out.drew; have HG0 := Lib.hid HG.out.drew; have HB0 := Lib.hid HB.out.drew
      have c11 : v3.drew.cell? ⟨p, 11, none⟩ = some (.int .u8 (f.page : Int)) := HX0.out.cell 11
      have g1 : v3.drew.cell? ⟨g, 1, none⟩ = some (.int .u8 (yk.toNat : Int)) := (HG0.out.cell 1).trans (bvA_at HA.out)
      have e1 : v3.drew.frozen? ⟨g, 1, none⟩ = false := HG0.out.free 1
      go_region
      clear c11 g1 e1
      replace HX := HX0; replace HR := HR0; replace HG := HG0; replace HB := HB0
      clear HX0 HR0 HG0 HB0
      change Exit.then _ _ Exit.normal _ (World.setCell v3.drew ⟨g, 1, none⟩ (.int .u8 (y3.toNat : Int)))
      replace HG := Lib.hid (HG.out.put 1 (.int .u8 (y3.toNat : Int)))
      rw [bvA_set] at HG
      replace HX := Lib.hid (HX.out.far (p := ⟨g, 1, none⟩) (by have := HPG.out; dsimp only; omega) (.int .u8 (y3.toNat : Int)))
      replace HR := Lib.hid (HR.out.far (p := ⟨g, 1, none⟩) (by have := HPG.out; dsimp only; omega) (.int .u8 (y3.toNat : Int)))
      replace HB := Lib.hid (HB.out.setCell (p := ⟨g, 1, none⟩) (by have := HPG.out; have := HP.out; dsimp only; omega) (.int .u8 (y3.toNat : Int)))
      generalize v3.drew.setCell ⟨g, 1, none⟩ (.int .u8 (y3.toNat : Int)) = v6 at *
      obtain ⟨u2, hu2⟩ := some_in (l := (l3.set 1 y3)) (i := 2) (by rw [List.length_set, HL.out]; have := HI.out.size; omega)
      have g2 : v6.cell? ⟨g, 2, none⟩ = some (.int .u8 (u2.toNat : Int)) := (HG.out.cell 2).trans (bvA_at hu2)
      have e2 := HG.out.free 2
      have d4 : v6.cell? ⟨p + 1, 4, none⟩ = some (.int .i64 x.page) := HR.out.cell 4
      go_upto_region 9 with (fail)
      clear g2 e2 hu2 d4
      replace HG := Lib.hid (HG.out.put 2 (.int .u8 (yp.toNat : Int)))
      rw [bvA_set] at HG
      replace HX := Lib.hid (HX.out.far (p := ⟨g, 2, none⟩) (by have := HPG.out; dsimp only; omega) (.int .u8 (yp.toNat : Int)))
      replace HR := Lib.hid (HR.out.far (p := ⟨g, 2, none⟩) (by have := HPG.out; dsimp only; omega) (.int .u8 (yp.toNat : Int)))
      replace HB := Lib.hid (HB.out.setCell (p := ⟨g, 2, none⟩) (by have := HPG.out; have := HP.out; dsimp only; omega) (.int .u8 (yp.toNat : Int)))
      generalize v6.setCell ⟨g, 2, none⟩ (.int .u8 (yp.toNat : Int)) = v7 at *
      have hl4 : (l3.set 1 y3).set 2 yp = l4 := by rw [HD4.out, if_neg (by have h := q2; rw [bne_iff_ne] at h; exact h)]
      rw [hl4] at HG
      replace HL := Lib.hid (show l4.length = f.size by rw [← hl4, List.length_set, List.length_set]; exact HL.out)
      clear hl4 HD4 HA
      cases q3 : (x.ty != 0) with
      | true =>
        have d6 : v7.cell? ⟨p + 1, 6, none⟩ = some (.int .i64 x.ty) := HR.out.cell 6
        go_wp2_with (fail)
        refine (HNU.out x.ty _ (ft HT HB)).mono ?_; rintro e v9 ⟨rfl, hb⟩
        replace HB := Lib.hid (HB.out.trans (hb.mono HB.out.size)); replace HX := Lib.hid (HX.out.below hb HX.out.lt); replace HR := Lib.hid (HR.out.below hb HR.out.lt); replace HG := Lib.hid (HG.out.below hb HG.out.lt)
        clear hb d6
        obtain ⟨u2, hu2⟩ := some_in (l := l4) (i := 2) (by rw [HL.out]; have := HI.out.size; omega)
        have g2 : v9.cell? ⟨g, 2, none⟩ = some (.int .u8 (u2.toNat : Int)) := (HG.out.cell 2).trans (bvA_at hu2)
        have e2 := HG.out.free 2
        go_upto_region 11 with (fail)
        clear g2 e2 hu2
        replace HG := Lib.hid (HG.out.put 2 (.int .u8 (yn.toNat : Int)))
        rw [bvA_set] at HG
        replace HX := Lib.hid (HX.out.far (p := ⟨g, 2, none⟩) (by have := HPG.out; dsimp only; omega) (.int .u8 (yn.toNat : Int)))
        replace HR := Lib.hid (HR.out.far (p := ⟨g, 2, none⟩) (by have := HPG.out; dsimp only; omega) (.int .u8 (yn.toNat : Int)))
        replace HB := Lib.hid (HB.out.setCell (p := ⟨g, 2, none⟩) (by have := HPG.out; have := HP.out; dsimp only; omega) (.int .u8 (yn.toNat : Int)))
        generalize v9.setCell ⟨g, 2, none⟩ (.int .u8 (yn.toNat : Int)) = v10 at *
        have hl5 : l4.set 2 yn = l5 := by rw [HD5.out, if_neg (by have h := q3; rw [bne_iff_ne] at h; exact h)]
        rw [hl5] at HG
        replace HL := Lib.hid (show l5.length = f.size by rw [← hl5, List.length_set]; exact HL.out)
        clear hl5 HD5
        have c2 : v10.cell? ⟨p, 2, none⟩ = some (.int .i64 (f.la : Int)) := HX.out.cell 2
        have c3 : v10.cell? ⟨p, 3, none⟩ = some (.int .i64 (f.ln : Int)) := HX.out.cell 3
        have d1 : v10.cell? ⟨p + 1, 1, none⟩ = some (.int .i64 x.lba) := HR.out.cell 1
        go_wp2_with (fail)
        refine (HPT.out l5 f.size g f.la f.ln x.lba _ HL.out HG.out HI.out.la.1 HI.out.la.2.1 HI.out.la.2.2).mono ?_; rintro e w11 ⟨rfl, hbk, ho⟩
        replace HL := Lib.hid (put_len (z := u64N x.lba) HL.out HI.out.la.2.1 HI.out.la.2.2)
        replace HG := Lib.hid hbk; replace HX := Lib.hid (HX.out.only ho (by have := HPG.out; omega)); replace HR := Lib.hid (HR.out.only ho (by have := HPG.out; omega))
        replace HB := Lib.hid (HB.out.trans (below_only ho HB.out.size (by rintro k rfl; have := HPG.out; have := HP.out; omega)))
        clear hbk ho c2 c3 d1
        have c4 : w11.cell? ⟨p, 4, none⟩ = some (.int .i64 (f.ba : Int)) := HX.out.cell 4
        have c5 : w11.cell? ⟨p, 5, none⟩ = some (.int .i64 (f.bn : Int)) := HX.out.cell 5
        have d2 : w11.cell? ⟨p + 1, 2, none⟩ = some (.int .i64 x.blk) := HR.out.cell 2
        go_wp2_with (fail)
        refine (HPT.out (putL l5 f.la (putHi (u64N x.lba) f.ln)) f.size g f.ba f.bn x.blk _ HL.out HG.out HI.out.ba.1 HI.out.ba.2.1 HI.out.ba.2.2).mono ?_; rintro e w12 ⟨rfl, hbk, ho⟩
        replace HL := Lib.hid (put_len (z := u64N x.blk) HL.out HI.out.ba.2.1 HI.out.ba.2.2)
        replace HG := Lib.hid hbk; replace HX := Lib.hid (HX.out.only ho (by have := HPG.out; omega)); replace HR := Lib.hid (HR.out.only ho (by have := HPG.out; omega))
        replace HB := Lib.hid (HB.out.trans (below_only ho HB.out.size (by rintro k rfl; have := HPG.out; have := HP.out; omega)))
        clear hbk ho c4 c5 d2
        have c6 : w12.cell? ⟨p, 6, none⟩ = some (.int .i64 (f.wa : Int)) := HX.out.cell 6
        have c7 : w12.cell? ⟨p, 7, none⟩ = some (.int .i64 (f.wn : Int)) := HX.out.cell 7
        have d5 : w12.cell? ⟨p + 1, 5, none⟩ = some (.int .i64 x.want) := HR.out.cell 5
        go_wp2_with (fail)
        refine (HPT.out (putL (putL l5 f.la (putHi (u64N x.lba) f.ln)) f.ba (putHi (u64N x.blk) f.bn)) f.size g f.wa f.wn x.want _ HL.out HG.out HI.out.wa.1 HI.out.wa.2.1 HI.out.wa.2.2).mono ?_; rintro e w13 ⟨rfl, hbk, ho⟩
        replace HL := Lib.hid (put_len (z := u64N x.want) HL.out HI.out.wa.2.1 HI.out.wa.2.2)
        replace HG := Lib.hid hbk; replace HX := Lib.hid (HX.out.only ho (by have := HPG.out; omega)); replace HR := Lib.hid (HR.out.only ho (by have := HPG.out; omega))
        replace HB := Lib.hid (HB.out.trans (below_only ho HB.out.size (by rintro k rfl; have := HPG.out; have := HP.out; omega)))
        clear hbk ho c6 c7 d5
        have hcv := bytes_str w13 g f.size _ HL.out HG.out
        rw [← HDS.out] at hcv
        go_wp2_with (fail)
        go_ret
        exact ⟨rfl, HB.out⟩
      | false =>
        have d6 : v7.cell? ⟨p + 1, 6, none⟩ = some (.int .i64 x.ty) := HR.out.cell 6
        go_upto_region 11 with (fail)
        clear d6
        have hl5 : l4 = l5 := by rw [HD5.out, if_pos (by have h := q3; rw [bne_eq_false_iff_eq] at h; exact h)]
        rw [hl5] at HG HL
        clear hl5 HD5
        have c2 : v7.cell? ⟨p, 2, none⟩ = some (.int .i64 (f.la : Int)) := HX.out.cell 2
        have c3 : v7.cell? ⟨p, 3, none⟩ = some (.int .i64 (f.ln : Int)) := HX.out.cell 3
        have d1 : v7.cell? ⟨p + 1, 1, none⟩ = some (.int .i64 x.lba) := HR.out.cell 1
        go_wp2_with (fail)
        refine (HPT.out l5 f.size g f.la f.ln x.lba _ HL.out HG.out HI.out.la.1 HI.out.la.2.1 HI.out.la.2.2).mono ?_; rintro e w11 ⟨rfl, hbk, ho⟩
        replace HL := Lib.hid (put_len (z := u64N x.lba) HL.out HI.out.la.2.1 HI.out.la.2.2)
        replace HG := Lib.hid hbk; replace HX := Lib.hid (HX.out.only ho (by have := HPG.out; omega)); replace HR := Lib.hid (HR.out.only ho (by have := HPG.out; omega))
        replace HB := Lib.hid (HB.out.trans (below_only ho HB.out.size (by rintro k rfl; have := HPG.out; have := HP.out; omega)))
        clear hbk ho c2 c3 d1
        have c4 : w11.cell? ⟨p, 4, none⟩ = some (.int .i64 (f.ba : Int)) := HX.out.cell 4
        have c5 : w11.cell? ⟨p, 5, none⟩ = some (.int .i64 (f.bn : Int)) := HX.out.cell 5
        have d2 : w11.cell? ⟨p + 1, 2, none⟩ = some (.int .i64 x.blk) := HR.out.cell 2
        go_wp2_with (fail)
        refine (HPT.out (putL l5 f.la (putHi (u64N x.lba) f.ln)) f.size g f.ba f.bn x.blk _ HL.out HG.out HI.out.ba.1 HI.out.ba.2.1 HI.out.ba.2.2).mono ?_; rintro e w12 ⟨rfl, hbk, ho⟩
        replace HL := Lib.hid (put_len (z := u64N x.blk) HL.out HI.out.ba.2.1 HI.out.ba.2.2)
        replace HG := Lib.hid hbk; replace HX := Lib.hid (HX.out.only ho (by have := HPG.out; omega)); replace HR := Lib.hid (HR.out.only ho (by have := HPG.out; omega))
        replace HB := Lib.hid (HB.out.trans (below_only ho HB.out.size (by rintro k rfl; have := HPG.out; have := HP.out; omega)))
        clear hbk ho c4 c5 d2
        have c6 : w12.cell? ⟨p, 6, none⟩ = some (.int .i64 (f.wa : Int)) := HX.out.cell 6
        have c7 : w12.cell? ⟨p, 7, none⟩ = some (.int .i64 (f.wn : Int)) := HX.out.cell 7
        have d5 : w12.cell? ⟨p + 1, 5, none⟩ = some (.int .i64 x.want) := HR.out.cell 5
        go_wp2_with (fail)
        refine (HPT.out (putL (putL l5 f.la (putHi (u64N x.lba) f.ln)) f.ba (putHi (u64N x.blk) f.bn)) f.size g f.wa f.wn x.want _ HL.out HG.out HI.out.wa.1 HI.out.wa.2.1 HI.out.wa.2.2).mono ?_; rintro e w13 ⟨rfl, hbk, ho⟩
        replace HL := Lib.hid (put_len (z := u64N x.want) HL.out HI.out.wa.2.1 HI.out.wa.2.2)
        replace HG := Lib.hid hbk; replace HX := Lib.hid (HX.out.only ho (by have := HPG.out; omega)); replace HR := Lib.hid (HR.out.only ho (by have := HPG.out; omega))
        replace HB := Lib.hid (HB.out.trans (below_only ho HB.out.size (by rintro k rfl; have := HPG.out; have := HP.out; omega)))
        clear hbk ho c6 c7 d5
        have hcv := bytes_str w13 g f.size _ HL.out HG.out
        rw [← HDS.out] at hcv
        go_wp2_with (fail)
        go_ret
        exact ⟨rfl, HB.out⟩
    | false =>
      have d4 : v3.cell? ⟨p + 1, 4, none⟩ = some (.int .i64 x.page) := HR.out.cell 4
      go_upto_region 9 with (fail)
      clear d4
      have hl4 : l3 = l4 := by rw [HD4.out, if_pos (by have h := q2; rw [bne_eq_false_iff_eq] at h; exact h)]
      rw [hl4] at HG HL
      clear hl4 HD4 HA
      cases q3 : (x.ty != 0) with
      | true =>
        have d6 : v3.cell? ⟨p + 1, 6, none⟩ = some (.int .i64 x.ty) := HR.out.cell 6
        go_wp2_with (fail)
        refine (HNU.out x.ty _ (ft HT HB)).mono ?_; rintro e v9 ⟨rfl, hb⟩
        replace HB := Lib.hid (HB.out.trans (hb.mono HB.out.size)); replace HX := Lib.hid (HX.out.below hb HX.out.lt); replace HR := Lib.hid (HR.out.below hb HR.out.lt); replace HG := Lib.hid (HG.out.below hb HG.out.lt)
        clear hb d6
        obtain ⟨u2, hu2⟩ := some_in (l := l4) (i := 2) (by rw [HL.out]; have := HI.out.size; omega)
        have g2 : v9.cell? ⟨g, 2, none⟩ = some (.int .u8 (u2.toNat : Int)) := (HG.out.cell 2).trans (bvA_at hu2)
        have e2 := HG.out.free 2
        go_upto_region 11 with (fail)
        clear g2 e2 hu2
        replace HG := Lib.hid (HG.out.put 2 (.int .u8 (yn.toNat : Int)))
        rw [bvA_set] at HG
        replace HX := Lib.hid (HX.out.far (p := ⟨g, 2, none⟩) (by have := HPG.out; dsimp only; omega) (.int .u8 (yn.toNat : Int)))
        replace HR := Lib.hid (HR.out.far (p := ⟨g, 2, none⟩) (by have := HPG.out; dsimp only; omega) (.int .u8 (yn.toNat : Int)))
        replace HB := Lib.hid (HB.out.setCell (p := ⟨g, 2, none⟩) (by have := HPG.out; have := HP.out; dsimp only; omega) (.int .u8 (yn.toNat : Int)))
        generalize v9.setCell ⟨g, 2, none⟩ (.int .u8 (yn.toNat : Int)) = v10 at *
        have hl5 : l4.set 2 yn = l5 := by rw [HD5.out, if_neg (by have h := q3; rw [bne_iff_ne] at h; exact h)]
        rw [hl5] at HG
        replace HL := Lib.hid (show l5.length = f.size by rw [← hl5, List.length_set]; exact HL.out)
        clear hl5 HD5
        have c2 : v10.cell? ⟨p, 2, none⟩ = some (.int .i64 (f.la : Int)) := HX.out.cell 2
        have c3 : v10.cell? ⟨p, 3, none⟩ = some (.int .i64 (f.ln : Int)) := HX.out.cell 3
        have d1 : v10.cell? ⟨p + 1, 1, none⟩ = some (.int .i64 x.lba) := HR.out.cell 1
        go_wp2_with (fail)
        refine (HPT.out l5 f.size g f.la f.ln x.lba _ HL.out HG.out HI.out.la.1 HI.out.la.2.1 HI.out.la.2.2).mono ?_; rintro e w11 ⟨rfl, hbk, ho⟩
        replace HL := Lib.hid (put_len (z := u64N x.lba) HL.out HI.out.la.2.1 HI.out.la.2.2)
        replace HG := Lib.hid hbk; replace HX := Lib.hid (HX.out.only ho (by have := HPG.out; omega)); replace HR := Lib.hid (HR.out.only ho (by have := HPG.out; omega))
        replace HB := Lib.hid (HB.out.trans (below_only ho HB.out.size (by rintro k rfl; have := HPG.out; have := HP.out; omega)))
        clear hbk ho c2 c3 d1
        have c4 : w11.cell? ⟨p, 4, none⟩ = some (.int .i64 (f.ba : Int)) := HX.out.cell 4
        have c5 : w11.cell? ⟨p, 5, none⟩ = some (.int .i64 (f.bn : Int)) := HX.out.cell 5
        have d2 : w11.cell? ⟨p + 1, 2, none⟩ = some (.int .i64 x.blk) := HR.out.cell 2
        go_wp2_with (fail)
        refine (HPT.out (putL l5 f.la (putHi (u64N x.lba) f.ln)) f.size g f.ba f.bn x.blk _ HL.out HG.out HI.out.ba.1 HI.out.ba.2.1 HI.out.ba.2.2).mono ?_; rintro e w12 ⟨rfl, hbk, ho⟩
        replace HL := Lib.hid (put_len (z := u64N x.blk) HL.out HI.out.ba.2.1 HI.out.ba.2.2)
        replace HG := Lib.hid hbk; replace HX := Lib.hid (HX.out.only ho (by have := HPG.out; omega)); replace HR := Lib.hid (HR.out.only ho (by have := HPG.out; omega))
        replace HB := Lib.hid (HB.out.trans (below_only ho HB.out.size (by rintro k rfl; have := HPG.out; have := HP.out; omega)))
        clear hbk ho c4 c5 d2
        have c6 : w12.cell? ⟨p, 6, none⟩ = some (.int .i64 (f.wa : Int)) := HX.out.cell 6
        have c7 : w12.cell? ⟨p, 7, none⟩ = some (.int .i64 (f.wn : Int)) := HX.out.cell 7
        have d5 : w12.cell? ⟨p + 1, 5, none⟩ = some (.int .i64 x.want) := HR.out.cell 5
        go_wp2_with (fail)
        refine (HPT.out (putL (putL l5 f.la (putHi (u64N x.lba) f.ln)) f.ba (putHi (u64N x.blk) f.bn)) f.size g f.wa f.wn x.want _ HL.out HG.out HI.out.wa.1 HI.out.wa.2.1 HI.out.wa.2.2).mono ?_; rintro e w13 ⟨rfl, hbk, ho⟩
        replace HL := Lib.hid (put_len (z := u64N x.want) HL.out HI.out.wa.2.1 HI.out.wa.2.2)
        replace HG := Lib.hid hbk; replace HX := Lib.hid (HX.out.only ho (by have := HPG.out; omega)); replace HR := Lib.hid (HR.out.only ho (by have := HPG.out; omega))
        replace HB := Lib.hid (HB.out.trans (below_only ho HB.out.size (by rintro k rfl; have := HPG.out; have := HP.out; omega)))
        clear hbk ho c6 c7 d5
        have hcv := bytes_str w13 g f.size _ HL.out HG.out
        rw [← HDS.out] at hcv
        go_wp2_with (fail)
        go_ret
        exact ⟨rfl, HB.out⟩
      | false =>
        have d6 : v3.cell? ⟨p + 1, 6, none⟩ = some (.int .i64 x.ty) := HR.out.cell 6
        go_upto_region 11 with (fail)
        clear d6
        have hl5 : l4 = l5 := by rw [HD5.out, if_pos (by have h := q3; rw [bne_eq_false_iff_eq] at h; exact h)]
        rw [hl5] at HG HL
        clear hl5 HD5
        have c2 : v3.cell? ⟨p, 2, none⟩ = some (.int .i64 (f.la : Int)) := HX.out.cell 2
        have c3 : v3.cell? ⟨p, 3, none⟩ = some (.int .i64 (f.ln : Int)) := HX.out.cell 3
        have d1 : v3.cell? ⟨p + 1, 1, none⟩ = some (.int .i64 x.lba) := HR.out.cell 1
        go_wp2_with (fail)
        refine (HPT.out l5 f.size g f.la f.ln x.lba _ HL.out HG.out HI.out.la.1 HI.out.la.2.1 HI.out.la.2.2).mono ?_; rintro e w11 ⟨rfl, hbk, ho⟩
        replace HL := Lib.hid (put_len (z := u64N x.lba) HL.out HI.out.la.2.1 HI.out.la.2.2)
        replace HG := Lib.hid hbk; replace HX := Lib.hid (HX.out.only ho (by have := HPG.out; omega)); replace HR := Lib.hid (HR.out.only ho (by have := HPG.out; omega))
        replace HB := Lib.hid (HB.out.trans (below_only ho HB.out.size (by rintro k rfl; have := HPG.out; have := HP.out; omega)))
        clear hbk ho c2 c3 d1
        have c4 : w11.cell? ⟨p, 4, none⟩ = some (.int .i64 (f.ba : Int)) := HX.out.cell 4
        have c5 : w11.cell? ⟨p, 5, none⟩ = some (.int .i64 (f.bn : Int)) := HX.out.cell 5
        have d2 : w11.cell? ⟨p + 1, 2, none⟩ = some (.int .i64 x.blk) := HR.out.cell 2
        go_wp2_with (fail)
        refine (HPT.out (putL l5 f.la (putHi (u64N x.lba) f.ln)) f.size g f.ba f.bn x.blk _ HL.out HG.out HI.out.ba.1 HI.out.ba.2.1 HI.out.ba.2.2).mono ?_; rintro e w12 ⟨rfl, hbk, ho⟩
        replace HL := Lib.hid (put_len (z := u64N x.blk) HL.out HI.out.ba.2.1 HI.out.ba.2.2)
        replace HG := Lib.hid hbk; replace HX := Lib.hid (HX.out.only ho (by have := HPG.out; omega)); replace HR := Lib.hid (HR.out.only ho (by have := HPG.out; omega))
        replace HB := Lib.hid (HB.out.trans (below_only ho HB.out.size (by rintro k rfl; have := HPG.out; have := HP.out; omega)))
        clear hbk ho c4 c5 d2
        have c6 : w12.cell? ⟨p, 6, none⟩ = some (.int .i64 (f.wa : Int)) := HX.out.cell 6
        have c7 : w12.cell? ⟨p, 7, none⟩ = some (.int .i64 (f.wn : Int)) := HX.out.cell 7
        have d5 : w12.cell? ⟨p + 1, 5, none⟩ = some (.int .i64 x.want) := HR.out.cell 5
        go_wp2_with (fail)
        refine (HPT.out (putL (putL l5 f.la (putHi (u64N x.lba) f.ln)) f.ba (putHi (u64N x.blk) f.bn)) f.size g f.wa f.wn x.want _ HL.out HG.out HI.out.wa.1 HI.out.wa.2.1 HI.out.wa.2.2).mono ?_; rintro e w13 ⟨rfl, hbk, ho⟩
        replace HL := Lib.hid (put_len (z := u64N x.want) HL.out HI.out.wa.2.1 HI.out.wa.2.2)
        replace HG := Lib.hid hbk; replace HX := Lib.hid (HX.out.only ho (by have := HPG.out; omega)); replace HR := Lib.hid (HR.out.only ho (by have := HPG.out; omega))
        replace HB := Lib.hid (HB.out.trans (below_only ho HB.out.size (by rintro k rfl; have := HPG.out; have := HP.out; omega)))
        clear hbk ho c6 c7 d5
        have hcv := bytes_str w13 g f.size _ HL.out HG.out
        rw [← HDS.out] at hcv
        go_wp2_with (fail)
        go_ret
        exact ⟨rfl, HB.out⟩
end Go.Proofs.YtaachlijpgmjeaaDoor
