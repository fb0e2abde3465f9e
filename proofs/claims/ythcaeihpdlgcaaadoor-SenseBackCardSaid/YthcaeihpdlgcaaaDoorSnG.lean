/- What the code's functions must come to; the small example. -/
import Derived.Test.YthcaeihpdlgcaaaDoorSnF
import Derived.Test.YthcaeihpdlgcaaaDoorBits
namespace Go.Proofs.YthcaeihpdlgcaaaDoor
open Go.RowKit
/-- What the types allow. -/
structure Bn (x : Sn) : Prop where
  k : In64 x.k
  a : In64 x.a
  q : In64 x.q
  t : In64 x.t
def okC (o : Option Oc) : Oc := o.getD ⟨0, 0, 0⟩
/-- What the code's functions must come to, over worlds in which its tables are laid (T). -/
structure Code16 (T : World → Prop) : Prop where
  bel : ∀ w w', T w → Below w.heap.size w w' → T w'
  bytes : ∀ (x : Sn) w, T w → Bn x → Calls Tryd.prog 8 #[snV x] w fun e w' => e = .returned (bytV (bytX x)) ∧ Below w.heap.size w w'
  parse : ∀ (s : ByteArray) w, T w → s.size ≤ 100000 → Calls Tryd.prog 10 #[.string s] w fun e w' => e = .returned (parV (parX s)) ∧ Below w.heap.size w w'
  off : ∀ (c t u : Int) w, T w → In64 c → In64 t → In64 u → Calls Tryd.prog 13 #[ouV c t u zR] w fun e w' => e = .returned (.tuple #[.int .i64 (ofX c t u).1, snV (ofX c t u).2]) ∧ Below w.heap.size w w'
  code : ∀ (n : Int) (x : Sn) w, T w → In64 n → Bn x → Calls Tryd.prog 15 #[.int .i64 n, snV x] w fun e w' => e = .returned (.tuple #[.int .i64 (okC (codX n x)).c, .int .i64 (okC (codX n x)).t, .int .i64 (okC (codX n x)).w, .bool (codX n x).isSome]) ∧ Below w.heap.size w w'
theorem tt {T : World → Prop} (P : Code16 T) {w v : World} (h : Hid (T w)) (hb : Hid (Below w.heap.size w v)) : T v := P.bel w v h.out hb.out
theorem in64_small {n : Int} (h : -1 ≤ n ∧ n < 4294967296) : In64 n := by unfold In64; omega
theorem of_bnd (c t u : Int) : In64 (ofX c t u).1 ∧ Bn (ofX c t u).2 := by
  unfold ofX
  split
  · exact ⟨in64_small (by decide), in64_small (by decide), in64_small (by decide), in64_small (by decide), in64_small (by decide)⟩
  split
  · exact ⟨in64_small (by decide), in64_small (by decide), in64_small (by decide), in64_small (by decide), in64_small (by decide)⟩
  split
  · rename_i h; exact ⟨in64_small (by dsimp only; omega), in64_small (by dsimp only; omega), in64_small (by dsimp only; omega), in64_small (by dsimp only; omega), in64_small (by dsimp only; omega)⟩
  all_goals (repeat' split) <;> exact ⟨in64_small (by decide), in64_small (by decide), in64_small (by decide), in64_small (by decide), in64_small (by decide)⟩
theorem may_bnd {x : Sn} (h : mayX x = true) : Bn x := by
  obtain ⟨h1, h2, h3, h4, h5, h6, h7, h8⟩ := of_decide_eq_true h
  exact ⟨in64_small (by omega), in64_small (by omega), in64_small (by omega), in64_small (by omega)⟩
def wkS : ByteArray := bytS ⟨14, 29, 0, 3⟩
theorem wk_bytes : bytX ⟨14, 29, 0, 3⟩ = some wkS := by unfold bytX; rw [if_pos (by decide)]; rfl
theorem wk_byt : byt wkS 0 = 240 ∧ byt wkS 6 = 3 ∧ wkS.size = 18 := by
  obtain ⟨b0, _, _, _, h⟩ := byt_S ⟨14, 29, 0, 3⟩
  refine ⟨b0.trans (if_pos (by decide)), ?_, bytS_size _⟩
  exact (h 3 (by decide)).trans (byt_put (atN ⟨14, 29, 0, 3⟩) 4 3 (by decide) (by decide) (by decide))
set_option maxRecDepth 100000 in
set_option maxHeartbeats 4000000 in
theorem sense_wakes {T : World → Prop} (P : Code16 T) (w : World) (ht : T w) : Calls Tryd.prog 7 #[] w fun e w' => e = .returned (.bool true) ∧ Below w.heap.size w w' := by
  have HT := Lib.hid ht
  have HOF : Hid (∀ v, T v → Calls Tryd.prog 13 #[ouV 3 3 0 zR] v fun e w' => e = .returned (.tuple #[.int .i64 2, snV ⟨14, 29, 0, 3⟩]) ∧ Below v.heap.size v w') := Lib.hid (fun v hv => P.off 3 3 0 v hv (by unfold In64; omega) (by unfold In64; omega) (by unfold In64; omega))
  have HBY : Hid (∀ v, T v → Calls Tryd.prog 8 #[snV ⟨14, 29, 0, 3⟩] v fun e w' => e = .returned (.tuple #[.string wkS, .int .i64 0]) ∧ Below v.heap.size v w') := Lib.hid (fun v hv => by have h := P.bytes ⟨14, 29, 0, 3⟩ v hv (may_bnd (by decide)); rw [wk_bytes] at h; exact h)
  obtain ⟨b0, b6, bz⟩ := wk_byt
  generalize wkS = S at *
  have hx0 := fun w => index_byt S 0 0 rfl (by omega) w
  have hx6 := fun w => index_byt S 6 6 rfl (by omega) w
  rw [b0] at hx0
  rw [b6] at hx6
  have qz : ((S.size : Int) == 18) = true := by rw [bz]; rfl
  clear b0 b6 bz ht
  go_enter Tryd.func7, Tryd.ntmps7
  go_wp2_with (fail)
  refine (HOF.out w HT.out).mono ?_; rintro e v1 ⟨rfl, hb⟩
  have HB1 := Lib.hid hb; clear hb
  go_upto_region 2 with (fail)
  change Code.wp _ _ _ _ (v1.alloc (.cells (snC ⟨14, 29, 0, 3⟩) 23))
  have hal := (Below.refl v1.heap.size v1).alloc (Nat.le_refl _) (.cells (snC ⟨14, 29, 0, 3⟩) 23)
  have HX := Lib.hid (Blk.new v1 23 (snC ⟨14, 29, 0, 3⟩)); have HB := Lib.hid (HB1.out.trans (hal.mono HB1.out.size))
  obtain ⟨p, hp⟩ : ∃ p, p = v1.heap.size := ⟨_, rfl⟩
  rw [← hp] at HX ⊢
  clear hal hp HB1
  generalize v1.alloc (.cells (snC ⟨14, 29, 0, 3⟩) 23) = v2 at *
  refine wp_region_lit ?_
  refine wpList_load_row rfl 23 (.tmp 2) rfl p rfl 23 (snC ⟨14, 29, 0, 3⟩) (0, 0) _ HX.out Tryd.underlying23 rfl sn_info ?_
  go_wp2_with (fail)
  refine (HBY.out _ (tt P HT HB)).mono ?_; rintro e v3 ⟨rfl, hb⟩
  replace HB := Lib.hid (HB.out.trans (hb.mono HB.out.size)); replace HX := Lib.hid (HX.out.below hb HX.out.lt); clear hb
  have c0 : v3.cell? ⟨p, 0, none⟩ = some (.int .i64 14) := HX.out.cell 0
  have c1 : v3.cell? ⟨p, 1, none⟩ = some (.int .i64 29) := HX.out.cell 1
  have c3 : v3.cell? ⟨p, 3, none⟩ = some (.int .i64 3) := HX.out.cell 3
  go_wp2_with (fail)
  go_ret
  exact ⟨rfl, HB.out⟩
end Go.Proofs.YthcaeihpdlgcaaaDoor
