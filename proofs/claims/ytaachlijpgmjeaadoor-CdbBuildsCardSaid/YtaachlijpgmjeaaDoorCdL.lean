/- What the code's functions must come to; the small example. -/
import Derived.Test.YtaachlijpgmjeaaDoorCdX
import Derived.BigQuiet
namespace Go.Proofs.YtaachlijpgmjeaaDoor
open Go.RowKit
theorem wp_region_class {P : Program} {id : Nat} {Q : Exit → Act → World → Prop} {a : Act} {w : World} {l : List Oper} (C : World → Prop) (hm : P.follows .mixedOrders = true) (hB : Region.lexB .any l.toArray = true) (hC : C w.drew)
    (h : wpQuiet P l.toArray C (fun a' => ∀ w', C w' → Q .normal a' w') l a) : (Code.region id l.toArray true).wp P Q a w :=
  wp_region_quiet (C := C) hm hB hC (by simpa using h)
theorem quiet_run {P : Program} {o : Oper} {a : Act} {C : World → Prop} {K : Act → Prop} {v : Value} (h : ∀ w, C w → (execOp a.eval o).run P w = .ok (.value v) w) (hk : K (a.put o.dst v)) : o.quiet P a C K :=
  ⟨v, fun w hw => by unfold Oper.quietAt; rw [h w hw]; exact ⟨rfl, rfl⟩, hk⟩
theorem quiet_call {P : Program} {o : Oper} {a : Act} {C : World → Prop} {K : Act → Prop} {v : Value} {f : FuncId} {args : Array Value} (h : ∀ w, C w → (execOp a.eval o).run P w = .ok (.enter f args) w)
    (hc : ∀ w, C w → Calls P f args w (fun e w' => e = .returned v ∧ C w')) (hk : K (a.put o.dst v)) : o.quiet P a C K :=
  ⟨v, fun w hw => by unfold Oper.quietAt; rw [h w hw]; exact ⟨rfl, hc w hw⟩, hk⟩
theorem class_of (w0 : World) (R : World → Prop) (hR : ∀ v, Below w0.heap.size w0 v → R v) :
    ∃ C : World → Prop, C w0.drew ∧ (∀ v, C v → R v) ∧ (∀ v, C v → Below w0.heap.size w0 v) ∧ (∀ v v', C v → Below v.heap.size v v' → C v') :=
  ⟨fun v => Below w0.heap.size w0 v, (Below.refl _ _).drew, hR, fun _ h => h, fun _ _ h hb => h.trans (hb.mono h.size)⟩
/-- What a Build comes to. -/
def bldS (o : Option ByteArray) : ByteArray := o.getD ⟨#[]⟩
def bldE (o : Option ByteArray) : Int := if o.isSome = true then 0 else 150
def BldOut (o : Option ByteArray) (w : World) (e : Ending) (w' : World) : Prop := e = .returned (.tuple #[.string (bldS o), .int .i64 (bldE o)]) ∧ Below w.heap.size w w'
/-- What the types allow. -/
structure Bnd (x : Ak) : Prop where
  op : -9223372036854775808 ≤ x.op ∧ x.op ≤ 9223372036854775807
  lba : -9223372036854775808 ≤ x.lba ∧ x.lba ≤ 9223372036854775807
  blk : -9223372036854775808 ≤ x.blk ∧ x.blk ≤ 9223372036854775807
  page : -9223372036854775808 ≤ x.page ∧ x.page ≤ 9223372036854775807
  want : -9223372036854775808 ≤ x.want ∧ x.want ≤ 9223372036854775807
  ty : -9223372036854775808 ≤ x.ty ∧ x.ty ≤ 9223372036854775807
theorem okA_bnd {y : Ak} (h : OkA y) : Bnd y := by
  cases h <;> constructor <;> unfold zA <;> dsimp only <;> omega
/-- What the code's functions must come to, for the statements' walks. -/
structure Code15 : Prop where
  parse : ∀ s w, FT w → s.size ≤ 100000 → Calls Tryd.prog 9 #[.string s] w (AskOut (parseS s) w)
  build : ∀ x w, FT w → Bnd x → Calls Tryd.prog 15 #[akV x] w (BldOut (buildS x) w)
  len : ∀ s w, FT w → s.size ≤ 100000 → Calls Tryd.prog 13 #[.string s] w fun e w' => e = .returned (.int .i64 (lenS s : Int)) ∧ Below w.heap.size w w'
  typ : ∀ n w, FT w → Calls Tryd.prog 17 #[.int .i64 n] w fun e w' => e = .returned (.int .i64 (typN n)) ∧ Below w.heap.size w w'
  num : ∀ t w, FT w → Calls Tryd.prog 19 #[.int .i64 t] w fun e w' => e = .returned (.int .i64 (numN t)) ∧ Below w.heap.size w w'
def wakS : ByteArray := ⟨#[40, 0, 0, 0, 0, 5, 0, 0, 2, 0]⟩
def wakA : Ak := { zA with op := 40, lba := 5, blk := 2 }
theorem wak_parse : parseS wakS = some wakA := by rfl
theorem wak_ok : OkA wakA := OkA.ten 40 5 2 false (.inl rfl) (by decide) (by decide) (fun h => by cases h)
theorem wak_build : buildS wakA = some wakS := by
  rw [build_iff.2 ⟨wak_ok, rfl⟩]
  rfl
set_option maxRecDepth 100000 in
set_option maxHeartbeats 4000000 in
theorem wakes_any (P : Code15) (w : World) (ht15 : FT w) : Calls Tryd.prog 8 #[] w fun e w' => e = .returned (.bool true) ∧ Below w.heap.size w w' := by
  have HFT := Lib.hid ht15
  clear ht15
  have HP := Lib.hid (fun v (hv : FT v) => P.parse wakS v hv (by decide))
  have HQ := Lib.hid (fun v (hv : FT v) => P.build wakA v hv (okA_bnd wak_ok))
  have HT := Lib.hid (fun v (hv : FT v) => P.typ 8 v hv)
  have HM := Lib.hid (fun v (hv : FT v) => P.num 2 v hv)
  rw [wak_parse] at HP
  rw [wak_build] at HQ
  go_enter Tryd.func8, Tryd.ntmps8
  go_wp2_with (fail)
  refine (HP.out w HFT.out).mono ?_; rintro e v1 ⟨rfl, hb⟩
  have HB1 := Lib.hid hb; clear hb
  go_upto_region 2 with (fail)
  change Code.wp _ _ _ _ (v1.alloc (.cells (akC wakA) 24))
  have hal := (Below.refl v1.heap.size v1).alloc (Nat.le_refl _) (.cells (akC wakA) 24)
  have HK := Lib.hid (Blk.new v1 24 (akC wakA)); have HB2 := Lib.hid (HB1.out.trans (hal.mono HB1.out.size))
  obtain ⟨p, hp⟩ : ∃ p, p = v1.heap.size := ⟨_, rfl⟩
  rw [← hp] at HK ⊢
  clear hal hp
  generalize v1.alloc (.cells (akC wakA) 24) = v2 at *
  go_wp2_with (fail)
  refine (HQ.out v2 (ft HFT (by assumption))).mono ?_; rintro e v3 ⟨rfl, hb⟩
  have HK3 := Lib.hid (HK.out.below hb HK.out.lt); have HB3 := Lib.hid (HB2.out.trans (hb.mono HB2.out.size)); clear hb
  have c1 : v3.cell? ⟨p, 1, none⟩ = some (.int .i64 5) := HK3.out.cell 1
  have c2 : v3.cell? ⟨p, 2, none⟩ = some (.int .i64 2) := HK3.out.cell 2
  have e1 : errA (some wakA) = 0 := rfl
  have e2 : bldE (some wakS) = 0 := rfl
  have e3 : bldS (some wakS) = ⟨#[40, 0, 0, 0, 0, 5, 0, 0, 2, 0]⟩ := rfl
  go_wp2_with (fail)
  refine (HT.out v3 (ft HFT (by assumption))).mono ?_; rintro e v4 ⟨rfl, hb⟩
  have HB4 := Lib.hid (HB3.out.trans (hb.mono HB3.out.size)); clear hb c1 c2
  rw [show typN 8 = 6 from rfl]
  go_wp2_with (fail)
  refine (HM.out v4 (ft HFT (by assumption))).mono ?_; rintro e v5 ⟨rfl, hb⟩
  have HB5 := Lib.hid (HB4.out.trans (hb.mono HB4.out.size)); clear hb
  rw [show numN 2 = 3 from rfl]
  go_wp2_with (fail)
  go_ret
  exact ⟨rfl, HB5.out⟩
end Go.Proofs.YtaachlijpgmjeaaDoor
