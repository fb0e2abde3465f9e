/- What the code's functions must come to; the small example. -/
import Derived.Test.YtdggipgieanpeaaPrA
import Derived.Test.YtdggipgieanpeaaAsk
import Derived.Test.YtdggipgieanpeaaBits
import Derived.Laws.Rows
import Derived.Deep.Cut
namespace Go.Proofs.Ytdggipgieanpeaa
open Go.RowKit
/-- A registration: whose, with which key. -/
structure Rk where
  h : ByteArray
  k : Nat
structure Rk.Wf (x : Rk) : Prop where
  k : x.k < 18446744073709551616
/-- Registrations in memory. -/
def Rks (w : World) (A : Option Addr) (l : List Rk) : Prop :=
  0 < l.length → ∃ b o, A = some ⟨b, o, none⟩ ∧ ∀ (j : Nat) (x : Rk), l[j]? = some x → x.Wf ∧ w.cell? ⟨b, o + j * 2, none⟩ = some (.string x.h) ∧ w.cell? ⟨b, o + j * 2 + 1, none⟩ = some (.int .u64 (x.k : Int))
theorem Rks.kept {w w' : World} {A : Option Addr} {l : List Rk} (h : Rks w A l) (hb : 0 < l.length → ∀ a, A = some a → w'.heap[a.block]? = w.heap[a.block]?) : Rks w' A l := fun hn => by
  obtain ⟨b, o, rfl, hc⟩ := h hn
  have e := hb hn _ rfl
  refine ⟨b, o, rfl, fun j v hj => ?_⟩
  obtain ⟨h0, h1, h2⟩ := hc j v hj
  exact ⟨h0, (World.cell?_of_block (a := ⟨b, o + j * 2, none⟩) e).trans h1, (World.cell?_of_block (a := ⟨b, o + j * 2 + 1, none⟩) e).trans h2⟩
theorem Rks.lt {w : World} {A : Option Addr} {l : List Rk} (h : Rks w A l) (hn : 0 < l.length) (a : Addr) (ha : A = some a) : a.block < w.heap.size := by
  obtain ⟨b, o, rfl, hc⟩ := h hn
  injection ha with ha
  subst ha
  exact World.block_lt_of_cell? w ⟨b, o + 0 * 2, none⟩ (hc 0 _ (List.getElem?_eq_getElem hn)).2.1
theorem Rks.below {w w' : World} {A : Option Addr} {l : List Rk} (h : Rks w A l) (hb : Below w.heap.size w w') : Rks w' A l :=
  h.kept fun hn a ha => hb.block _ (h.lt hn a ha)
theorem Rks.at_ {w : World} {A : Option Addr} {l : List Rk} (h : Rks w A l) {j : Nat} (hj : j < l.length) : ∃ b o x, A = some ⟨b, o, none⟩ ∧ l[j]? = some x ∧ x.Wf ∧ w.cell? ⟨b, o + j * 2, none⟩ = some (.string x.h) ∧ w.cell? ⟨b, o + j * 2 + 1, none⟩ = some (.int .u64 (x.k : Int)) := by
  obtain ⟨b, o, rfl, hc⟩ := h (by omega)
  exact ⟨b, o, _, rfl, List.getElem?_eq_getElem hj, hc j _ (List.getElem?_eq_getElem hj)⟩
/-- The keys, as they are told. -/
def keyL (l : List Rk) : ByteArray := l.foldl (fun s x => s ++ putHi x.k (8 : Nat)) ⟨#[]⟩
def keysS (g : Nat) (l : List Rk) : ByteArray := putHi g (4 : Nat) ++ putHi (8 * (l.take 16).length) (4 : Nat) ++ keyL (l.take 16)
theorem keyL_step {l : List Rk} {k : Nat} {x : Rk} (h : l[k]? = some x) : keyL (l.take (k + 1)) = keyL (l.take k) ++ putHi x.k (8 : Nat) := by
  unfold keyL
  rw [List.take_add_one, h]
  simp
theorem keyL_size (l : List Rk) : ∀ k, k ≤ l.length → (keyL (l.take k)).size = 8 * k
  | 0, _ => rfl
  | k + 1, h => by
    rw [keyL_step (List.getElem?_eq_getElem (by omega)), ByteArray.size_append, keyL_size l k (by omega), put8]; omega
theorem put4 (x : Nat) : (putHi x ((4 : Nat) : Int)).size = 4 := putHi_size x 4 (by decide) (by decide)
theorem keysS_size (g : Nat) (l : List Rk) : (keysS g l).size = 8 + 8 * (l.take 16).length := by
  unfold keysS
  have h := keyL_size (l.take 16) (l.take 16).length (Nat.le_refl _)
  rw [List.take_length] at h
  rw [ByteArray.size_append, ByteArray.size_append, put4, put4, h]
/-- What the code's List answers. -/
def plV (o : Option (Int × ByteArray)) : Value := .tuple #[.int .i64 (o.getD (0, ⟨#[]⟩)).1, .string (o.getD (0, ⟨#[]⟩)).2, .int .i64 (if o.isSome = true then 0 else 180)]
/-- What the types allow of a command. -/
structure Kc.Wf (c : Kc) : Prop where
  ke : c.ke < 18446744073709551616
  nk : c.nk < 18446744073709551616
  ot : c.ot < 18446744073709551616
  op : In64 c.op
  lu : In64 c.lu
  lb : In64 c.lb
  bl : In64 c.bl
  ty : In64 c.ty
  ap : In64 c.ap
/-- What the code's functions must come to, over worlds in which its tables are laid (T). -/
structure Code18 (T : World → Prop) : Prop where
  bel : ∀ w w', T w → Below w.heap.size w w' → T w'
  change : ∀ (a t : Int) (s : ByteArray) w, T w → In64 a → In64 t → s.size ≤ 100000 → Calls Try.prog 7 #[.int .i64 a, .int .i64 t, .string s] w fun e w' => e = .returned (chV (chX a t s)) ∧ Below w.heap.size w w'
  list : ∀ (c : Kc) w, T w → c.Wf → c.ho.size ≤ 1000 → c.da.size ≤ 1000 → c.rn ≤ 100 → Calls Try.prog 9 #[kcV c] w fun e w' => e = .returned (plV (liX c)) ∧ Below w.heap.size w w'
  keys : ∀ (g : Nat) (A : Option Addr) (c : Nat) (l : List Rk) w, T w → g < 4294967296 → Rks w A l → l.length ≤ c → l.length ≤ 100000 → Calls Try.prog 12 #[.int .u32 (g : Int), .slice A l.length c] w fun e w' => e = .returned (.string (keysS g l)) ∧ Below w.heap.size w w'
theorem tt18 {T : World → Prop} (P : Code18 T) {w v : World} (h : Hid (T w)) (hb : Hid (Below w.heap.size w v)) : T v := P.bel w v h.out hb.out
def lgB (c : Kc) : Bool := decide (1000 < c.ho.size) || decide (1000 < c.da.size) || decide (100 < c.rn)
set_option maxRecDepth 100000 in
set_option maxHeartbeats 4000000 in
theorem large_any (c : Kc) (w : World) : Calls Try.prog 5 #[kcV c] w fun e w' => e = .returned (.bool (lgB c)) ∧ Below w.heap.size w w' := by
  have HR0 := Lib.hid (Blk.new w 26 (kcC c))
  have HB0 := Lib.hid ((Below.refl w.heap.size w).alloc (Nat.le_refl _) (.cells (kcC c) 26))
  have HV := Lib.hid (show lgB c = (decide (1000 < c.ho.size) || decide (1000 < c.da.size) || decide (100 < c.rn)) from rfl)
  by_cases h0 : 1000 < c.ho.size
  · have D0 := Lib.hid (show decide (1000 < c.ho.size) = true from decide_eq_true h0)
    have q0 : (1000 : Int) < (c.ho.size : Int) := by omega
    go_enter Try.func5, Try.ntmps5
    go_upto_region 1 with (fail)
    change Code.wp _ _ _ _ (w.alloc (.cells (kcC c) 26))
    generalize w.alloc (.cells (kcC c) 26) = v0 at *
    obtain ⟨p, hp⟩ : ∃ p, p = w.heap.size := ⟨_, rfl⟩
    rw [← hp] at HR0 ⊢
    clear hp
    have c2 : v0.cell? ⟨p, 2, none⟩ = some (.string c.ho) := HR0.out.cell 2
    have c5 : v0.cell? ⟨p, 5, none⟩ = some (.string c.da) := HR0.out.cell 5
    have c7 : v0.cell? ⟨p, 7, none⟩ = some (.slice c.rA c.rn c.rc) := HR0.out.cell 7
    go_wp2_with (fail)
    go_ret
    exact ⟨by rw [HV.out, D0.out]; rfl, HB0.out⟩
  have D0 := Lib.hid (show decide (1000 < c.ho.size) = false from decide_eq_false h0)
  have q0 : ¬ (1000 : Int) < (c.ho.size : Int) := by omega
  by_cases h1 : 1000 < c.da.size
  · have D1 := Lib.hid (show decide (1000 < c.da.size) = true from decide_eq_true h1)
    have q1 : (1000 : Int) < (c.da.size : Int) := by omega
    go_enter Try.func5, Try.ntmps5
    go_upto_region 1 with (fail)
    change Code.wp _ _ _ _ (w.alloc (.cells (kcC c) 26))
    generalize w.alloc (.cells (kcC c) 26) = v0 at *
    obtain ⟨p, hp⟩ : ∃ p, p = w.heap.size := ⟨_, rfl⟩
    rw [← hp] at HR0 ⊢
    clear hp
    have c2 : v0.cell? ⟨p, 2, none⟩ = some (.string c.ho) := HR0.out.cell 2
    have c5 : v0.cell? ⟨p, 5, none⟩ = some (.string c.da) := HR0.out.cell 5
    have c7 : v0.cell? ⟨p, 7, none⟩ = some (.slice c.rA c.rn c.rc) := HR0.out.cell 7
    go_wp2_with (fail)
    go_ret
    exact ⟨by rw [HV.out, D0.out, D1.out]; rfl, HB0.out⟩
  have D1 := Lib.hid (show decide (1000 < c.da.size) = false from decide_eq_false h1)
  have q1 : ¬ (1000 : Int) < (c.da.size : Int) := by omega
  by_cases h2 : 100 < c.rn
  · have D2 := Lib.hid (show decide (100 < c.rn) = true from decide_eq_true h2)
    have q2 : (100 : Int) < (c.rn : Int) := by omega
    go_enter Try.func5, Try.ntmps5
    go_upto_region 1 with (fail)
    change Code.wp _ _ _ _ (w.alloc (.cells (kcC c) 26))
    generalize w.alloc (.cells (kcC c) 26) = v0 at *
    obtain ⟨p, hp⟩ : ∃ p, p = w.heap.size := ⟨_, rfl⟩
    rw [← hp] at HR0 ⊢
    clear hp
    have c2 : v0.cell? ⟨p, 2, none⟩ = some (.string c.ho) := HR0.out.cell 2
    have c5 : v0.cell? ⟨p, 5, none⟩ = some (.string c.da) := HR0.out.cell 5
    have c7 : v0.cell? ⟨p, 7, none⟩ = some (.slice c.rA c.rn c.rc) := HR0.out.cell 7
    go_wp2_with (fail)
    go_ret
    exact ⟨by rw [HV.out, D0.out, D1.out, D2.out]; rfl, HB0.out⟩
  have D2 := Lib.hid (show decide (100 < c.rn) = false from decide_eq_false h2)
  have q2 : ¬ (100 : Int) < (c.rn : Int) := by omega
  go_enter Try.func5, Try.ntmps5
  go_upto_region 1 with (fail)
  change Code.wp _ _ _ _ (w.alloc (.cells (kcC c) 26))
  generalize w.alloc (.cells (kcC c) 26) = v0 at *
  obtain ⟨p, hp⟩ : ∃ p, p = w.heap.size := ⟨_, rfl⟩
  rw [← hp] at HR0 ⊢
  clear hp
  have c2 : v0.cell? ⟨p, 2, none⟩ = some (.string c.ho) := HR0.out.cell 2
  have c5 : v0.cell? ⟨p, 5, none⟩ = some (.string c.da) := HR0.out.cell 5
  have c7 : v0.cell? ⟨p, 7, none⟩ = some (.slice c.rA c.rn c.rc) := HR0.out.cell 7
  go_wp2_with (fail)
  go_ret
  exact ⟨by rw [HV.out, D0.out, D1.out, D2.out]; rfl, HB0.out⟩
def wkC : Kc := { zK with op := 8, ke := 1, nk := 2, ap := 2 }
def wkS : ByteArray := lsS 1 2 1
theorem wk_li : liX wkC = some (0, wkS) := by kernel_rfl
theorem wk_ch : chX 0 0 wkS = some wkC := by kernel_rfl
theorem wk_byt : byt wkS 7 = 1 ∧ byt wkS 15 = 2 ∧ byt wkS 20 = 1 ∧ wkS.size = 24 := by
  refine ⟨?_, ?_, ?_, ?_⟩ <;> kernel_rfl
theorem wk_wf : wkC.Wf := ⟨by decide, by decide, by decide, by unfold In64; decide, by unfold In64; decide, by unfold In64; decide, by unfold In64; decide, by unfold In64; decide, by unfold In64; decide⟩
set_option maxRecDepth 100000 in
set_option maxHeartbeats 8000000 in
theorem prout_wakes {T : World → Prop} (P : Code18 T) (w : World) (ht : T w) : Calls Try.prog 6 #[] w fun e w' => e = .returned (.bool true) ∧ Below w.heap.size w w' := by
  have HT := Lib.hid ht
  have HL : Hid (∀ v, T v → Calls Try.prog 9 #[kcV wkC] v fun e w' => e = .returned (.tuple #[.int .i64 0, .string wkS, .int .i64 0]) ∧ Below v.heap.size v w') := Lib.hid (fun v hv => by have h := P.list wkC v hv wk_wf (by decide) (by decide) (by decide); rw [wk_li] at h; exact h)
  have HC : Hid (∀ v, T v → Calls Try.prog 7 #[.int .i64 0, .int .i64 0, .string wkS] v fun e w' => e = .returned (.tuple #[kcV wkC, .int .i64 0]) ∧ Below v.heap.size v w') := Lib.hid (fun v hv => by have h := P.change 0 0 wkS v hv (by unfold In64; decide) (by unfold In64; decide) (by rw [wk_byt.2.2.2]; decide); rw [wk_ch] at h; exact h)
  have HK : Hid (∀ v g, T v → Blk v g 46 #[.string ⟨#[97]⟩, .int .u64 7] → Calls Try.prog 12 #[.int .u32 5, .slice (some ⟨g, 0, none⟩) 1 1] v fun e w' => e = .returned (.string (keysS 5 [⟨⟨#[97]⟩, 7⟩])) ∧ Below v.heap.size v w') := Lib.hid (fun v g hv hb => P.keys 5 (some ⟨g, 0, none⟩) 1 [⟨⟨#[97]⟩, 7⟩] v hv (by decide) (fun _ => ⟨g, 0, rfl, fun j x hj => by
    match j, hj with
    | 0, hj => obtain rfl := Option.some.inj hj; exact ⟨⟨by decide⟩, hb.cell 0, hb.cell 1⟩⟩) (by decide) (by decide))
  obtain ⟨b7, b15, b20, bz⟩ := wk_byt
  have hkz : ((keysS 5 [⟨⟨#[97]⟩, 7⟩]).size : Int) = 16 := by rw [keysS_size]; rfl
  generalize keysS 5 [⟨⟨#[97]⟩, 7⟩] = ks at *
  generalize wkS = S at *
  have hx7 := fun w => index_byt S 7 7 rfl (by omega) w
  have hx15 := fun w => index_byt S 15 15 rfl (by omega) w
  have hx20 := fun w => index_byt S 20 20 rfl (by omega) w
  rw [b7] at hx7
  rw [b15] at hx15
  rw [b20] at hx20
  have hsz : (S.size : Int) = 24 := by rw [bz]; rfl
  clear b7 b15 b20 bz ht
  go_enter Try.func6, Try.ntmps6
  go_wp2_with (fail)
  refine (HL.out w HT.out).mono ?_; rintro e v1 ⟨rfl, hb⟩
  have HB := Lib.hid hb; clear hb
  go_wp2_with (fail)
  refine (HC.out v1 (tt18 P HT HB)).mono ?_; rintro e v2 ⟨rfl, hb⟩
  replace HB := Lib.hid (HB.out.trans (hb.mono HB.out.size)); clear hb
  go_upto_region 3 with (fail)
  change Code.wp _ _ _ _ (v2.alloc (.cells (kcC wkC) 26))
  have hal := (Below.refl v2.heap.size v2).alloc (Nat.le_refl _) (.cells (kcC wkC) 26)
  have HX := Lib.hid (Blk.new v2 26 (kcC wkC))
  replace HB := Lib.hid (HB.out.trans (hal.mono HB.out.size))
  generalize v2.alloc (.cells (kcC wkC) 26) = v3 at *
  obtain ⟨g, hg⟩ : ∃ g, g = v2.heap.size := ⟨_, rfl⟩
  rw [← hg] at HX ⊢
  clear hal hg
  have d9 : v3.cell? ⟨g, 9, none⟩ = some (.int .u64 2) := HX.out.cell 9
  have HB4 := Lib.hid (HB.out.alloc HB.out.size (.cells #[.string ⟨#[97]⟩, .int .u64 7] 46))
  go_wp2_with (fail)
  refine (HK.out (v3.alloc (.cells #[.string ⟨#[97]⟩, .int .u64 7] 46)) v3.heap.size (tt18 P HT HB4) (Blk.new v3 46 _)).mono ?_; rintro e v5 ⟨rfl, hb⟩
  have HB5 := Lib.hid (HB4.out.trans (hb.mono HB4.out.size)); clear hb
  go_wp2_with (fail)
  go_ret
  exact ⟨rfl, HB5.out⟩
end Go.Proofs.Ytdggipgieanpeaa
