/- A read and a write ask the same by ten bytes and by sixteen: the statement. -/
import Derived.Test.YtaachlijpgmjeaaDoorCdN
namespace Go.Proofs.YtaachlijpgmjeaaDoor
open Go.RowKit
/-- Two boxes of a round, and what stands beneath. -/
structure FoAt (w v : World) (p q : Nat) (x y : Ak) : Prop where
  a : Blk v p 24 (akC x)
  b : Blk v q 24 (akC y)
  bel : Below w.heap.size w v
  lp : w.heap.size ≤ p
  lq : w.heap.size ≤ q
  ne : p ≠ q
theorem FoAt.below {w v v' : World} {p q : Nat} {x y : Ak} (h : FoAt w v p q x y) (hb : Below v.heap.size v v') : FoAt w v' p q x y :=
  ⟨h.a.below hb h.a.lt, h.b.below hb h.b.lt, h.bel.trans (hb.mono h.bel.size), h.lp, h.lq, h.ne⟩
theorem FoAt.from {w v : World} (h : Below w.heap.size w v) (x y : Ak) : FoAt w ((v.alloc (.cells (akC x) 24)).alloc (.cells (akC y) 24)) v.heap.size (v.heap.size + 1) x y := by
  obtain ⟨h1, h2, h3⟩ := two_box v 24 24 x y _ rfl
  exact ⟨h1, h2, h.trans (h3.mono h.size), h.size, Nat.le_succ_of_le h.size, Nat.ne_of_lt (Nat.lt_succ_self _)⟩
theorem FoAt.puts {w v V V' : World} {p q : Nat} {x y x' y' : Ak} (h : FoAt w v p q x y) (k : Blk V p 24 (akC x')) (o : Only (fun k => k = p) v V) (k' : Blk V' q 24 (akC y')) (o' : Only (fun k => k = q) V V') : FoAt w V' p q x' y' :=
  ⟨k.only o' h.ne, k', (h.bel.trans (o.toBelow h.bel.size (fun k hk => by rw [hk]; exact h.lp))).trans (o'.toBelow (Nat.le_trans h.bel.size o.size) (fun k hk => by rw [hk]; exact h.lq)), h.lp, h.lq, h.ne⟩
/-- What a round asks of its two blocks. -/
structure Form (P : Code15) (x y : Ak) (n k : Nat) (f : Bool) (a b : ByteArray) : Prop where
  xl : x.lba = n
  xk : x.blk = k
  xf : x.fu = f
  yl : y.lba = n
  yk : y.blk = k
  yf : y.fu = f
  ba : buildS x = some a
  bb : buildS y = some b
  pa : parseS a = some x
  pb : parseS b = some y
  sa : a.size = 10
  sb : b.size = 16
theorem form_of (P : Code15) {b c n k : Nat} {f : Bool} (hb : b = 40 ∧ c = 136 ∧ f = false ∨ b = 42 ∧ c = 138) (hn : n < 2147483648) (hk : k < 65536) : ∃ s t, Form P { zA with op := (b : Int), lba := (n : Int), blk := (k : Int), fu := f } { zA with op := (c : Int), lba := (n : Int), blk := (k : Int), fu := f } n k f s t := by
  have h1 : f = true → b = 42 := fun h => by
    rcases hb with ⟨_, _, e⟩ | ⟨e, _⟩
    · rw [e] at h; cases h
    · exact e
  have h2 : f = true → c = 138 := fun h => by
    rcases hb with ⟨_, _, e⟩ | ⟨_, e⟩
    · rw [e] at h; cases h
    · exact e
  obtain ⟨s, s1, s2, s3⟩ := form_ten (b := b) (f := f) (by omega) hn hk h1
  obtain ⟨t, t1, t2, t3⟩ := form_six (b := c) (f := f) (by omega) hn hk h2
  exact ⟨s, t, rfl, rfl, rfl, rfl, rfl, rfl, s1, t1, s3, t3, s2, t2⟩
set_option maxRecDepth 100000 in
set_option maxHeartbeats 16000000 in
theorem forms_any (P : Code15) (lba bl : Nat) (f : Bool) (w : World) (ht15 : FT w) : Calls Tryd.prog 7 #[.int .u32 (lba : Int), .int .u32 (bl : Int), .bool f] w fun e w' => e = .returned (.bool true) ∧ Below w.heap.size w w' := by
  have HFT := Lib.hid ht15
  clear ht15
  have HW := Lib.hid (fun v (hv : FT v) => wakes_any P v hv)
  have HB0 := Lib.hid (Below.refl w.heap.size w)
  obtain ⟨n, hn, hn1⟩ : ∃ n : Nat, (lba : Int) % 2147483648 = (n : Int) ∧ n < 2147483648 := ⟨lba % 2147483648, by omega, by omega⟩
  obtain ⟨k, hk, hk1⟩ : ∃ k : Nat, (bl : Int) % 65536 = (k : Int) ∧ k < 65536 := ⟨bl % 65536, by omega, by omega⟩
  have HF0 := Lib.hid (form_of P (b := 40) (c := 136) (f := false) (.inl ⟨rfl, rfl, rfl⟩) hn1 hk1)
  have HF1 := Lib.hid (form_of P (b := 42) (c := 138) (f := f) (.inr ⟨rfl, rfl⟩) hn1 hk1)
  go_enter Tryd.func7, Tryd.ntmps7
  go_upto_region 2 with (fail)
  clear hn hk
  go_wp2_with (fail)
  go_loopw [9] (fun i wr => ∃ j : Nat, j ≤ 2 ∧ i = .int .i64 j ∧ Hid (Below w.heap.size w wr)) (fun i _ => 2 - (intOf i).toNat)
  case atStart => exact ⟨0, by decide, rfl, HB0⟩
  case round =>
    obtain ⟨j, hj, rfl, HR⟩ := hrel
    by_cases h2 : (j : Int) < 2
    · go_upto_region 6 with (fail)
      change Code.wp _ _ _ _ ((wr.alloc (.cells (akC ({ zA with op := ((40 : Nat) : Int), lba := (n : Int), blk := (k : Int), fu := false } : Ak)) 24)).alloc (.cells (akC ({ zA with op := ((136 : Nat) : Int), lba := (n : Int), blk := (k : Int), fu := false } : Ak)) 24))
      have F0 := Lib.hid (FoAt.from HR.out ({ zA with op := ((40 : Nat) : Int), lba := (n : Int), blk := (k : Int), fu := false } : Ak) ({ zA with op := ((136 : Nat) : Int), lba := (n : Int), blk := (k : Int), fu := false } : Ak))
      generalize (wr.alloc (.cells (akC ({ zA with op := ((40 : Nat) : Int), lba := (n : Int), blk := (k : Int), fu := false } : Ak)) 24)).alloc (.cells (akC ({ zA with op := ((136 : Nat) : Int), lba := (n : Int), blk := (k : Int), fu := false } : Ak)) 24) = v0 at *
      obtain ⟨p, hp⟩ : ∃ p, p = wr.heap.size := ⟨_, rfl⟩
      obtain ⟨q, hq⟩ : ∃ q, q = wr.heap.size + 1 := ⟨_, rfl⟩
      rw [← hq] at F0
      rw [← hp] at F0
      try rw [← hq]
      rw [← hp]
      clear hp hq
      by_cases hj1 : j = 1
      all_goals
       first
       | have hjj : j = 1 := hj1
         have qj : ((j : Int) == 1) = true := by rw [beqI]; exact decide_eq_true (by omega)
         clear hjj
         have hpq : ¬ p = q := F0.out.ne
         have hqp : ¬ q = p := Ne.symm F0.out.ne
         have hpb : (p == q) = false := by simp [hpq]
         have hqb : (q == p) = false := by simp [hqp]
         have c0 : v0.cell? ⟨p, 0, none⟩ = some (.int .i64 40) := F0.out.a.cell 0
         have cf0 := F0.out.a.free 0
         have c1 : v0.cell? ⟨p, 1, none⟩ = some (.int .i64 (n : Int)) := F0.out.a.cell 1
         have cf1 := F0.out.a.free 1
         have c2 : v0.cell? ⟨p, 2, none⟩ = some (.int .i64 (k : Int)) := F0.out.a.cell 2
         have cf2 := F0.out.a.free 2
         have c3 : v0.cell? ⟨p, 3, none⟩ = some (.bool false) := F0.out.a.cell 3
         have cf3 := F0.out.a.free 3
         have c4 : v0.cell? ⟨p, 4, none⟩ = some (.int .i64 0) := F0.out.a.cell 4
         have cf4 := F0.out.a.free 4
         have c5 : v0.cell? ⟨p, 5, none⟩ = some (.int .i64 0) := F0.out.a.cell 5
         have cf5 := F0.out.a.free 5
         have c6 : v0.cell? ⟨p, 6, none⟩ = some (.int .i64 0) := F0.out.a.cell 6
         have cf6 := F0.out.a.free 6
         have d0 : v0.cell? ⟨q, 0, none⟩ = some (.int .i64 136) := F0.out.b.cell 0
         have df0 := F0.out.b.free 0
         have d1 : v0.cell? ⟨q, 1, none⟩ = some (.int .i64 (n : Int)) := F0.out.b.cell 1
         have df1 := F0.out.b.free 1
         have d2 : v0.cell? ⟨q, 2, none⟩ = some (.int .i64 (k : Int)) := F0.out.b.cell 2
         have df2 := F0.out.b.free 2
         have d3 : v0.cell? ⟨q, 3, none⟩ = some (.bool false) := F0.out.b.cell 3
         have df3 := F0.out.b.free 3
         have d4 : v0.cell? ⟨q, 4, none⟩ = some (.int .i64 0) := F0.out.b.cell 4
         have df4 := F0.out.b.free 4
         have d5 : v0.cell? ⟨q, 5, none⟩ = some (.int .i64 0) := F0.out.b.cell 5
         have df5 := F0.out.b.free 5
         have d6 : v0.cell? ⟨q, 6, none⟩ = some (.int .i64 0) := F0.out.b.cell 6
         have df6 := F0.out.b.free 6
         go_upto_region 8 with (fail)
         obtain ⟨k1, o1⟩ := ak_put F0.out.a ({ zA with op := ((42 : Nat) : Int), lba := (n : Int), blk := (k : Int), fu := f } : Ak) _ rfl
         obtain ⟨k2, o2⟩ := ak_put (F0.out.b.only o1 (Ne.symm F0.out.ne)) ({ zA with op := ((138 : Nat) : Int), lba := (n : Int), blk := (k : Int), fu := f } : Ak) _ rfl
         have F1 := Lib.hid (F0.out.puts k1 o1 k2 o2)
         clear k1 o1 k2 o2 hpq hqp hpb hqb c0 cf0 c1 cf1 c2 cf2 c3 cf3 c4 cf4 c5 cf5 c6 cf6 d0 df0 d1 df1 d2 df2 d3 df3 d4 df4 d5 df5 d6 df6
         change Code.wp _ _ _ _ ((((((((((((((v0.setCell ⟨p, 0, none⟩ (.int .i64 ({ zA with op := ((42 : Nat) : Int), lba := (n : Int), blk := (k : Int), fu := f } : Ak).op)).setCell ⟨p, 1, none⟩ (.int .i64 ({ zA with op := ((42 : Nat) : Int), lba := (n : Int), blk := (k : Int), fu := f } : Ak).lba)).setCell ⟨p, 2, none⟩ (.int .i64 ({ zA with op := ((42 : Nat) : Int), lba := (n : Int), blk := (k : Int), fu := f } : Ak).blk)).setCell ⟨p, 3, none⟩ (.bool ({ zA with op := ((42 : Nat) : Int), lba := (n : Int), blk := (k : Int), fu := f } : Ak).fu)).setCell ⟨p, 4, none⟩ (.int .i64 ({ zA with op := ((42 : Nat) : Int), lba := (n : Int), blk := (k : Int), fu := f } : Ak).page)).setCell ⟨p, 5, none⟩ (.int .i64 ({ zA with op := ((42 : Nat) : Int), lba := (n : Int), blk := (k : Int), fu := f } : Ak).want)).setCell ⟨p, 6, none⟩ (.int .i64 ({ zA with op := ((42 : Nat) : Int), lba := (n : Int), blk := (k : Int), fu := f } : Ak).ty)).setCell ⟨q, 0, none⟩ (.int .i64 ({ zA with op := ((138 : Nat) : Int), lba := (n : Int), blk := (k : Int), fu := f } : Ak).op)).setCell ⟨q, 1, none⟩ (.int .i64 ({ zA with op := ((138 : Nat) : Int), lba := (n : Int), blk := (k : Int), fu := f } : Ak).lba)).setCell ⟨q, 2, none⟩ (.int .i64 ({ zA with op := ((138 : Nat) : Int), lba := (n : Int), blk := (k : Int), fu := f } : Ak).blk)).setCell ⟨q, 3, none⟩ (.bool ({ zA with op := ((138 : Nat) : Int), lba := (n : Int), blk := (k : Int), fu := f } : Ak).fu)).setCell ⟨q, 4, none⟩ (.int .i64 ({ zA with op := ((138 : Nat) : Int), lba := (n : Int), blk := (k : Int), fu := f } : Ak).page)).setCell ⟨q, 5, none⟩ (.int .i64 ({ zA with op := ((138 : Nat) : Int), lba := (n : Int), blk := (k : Int), fu := f } : Ak).want)).setCell ⟨q, 6, none⟩ (.int .i64 ({ zA with op := ((138 : Nat) : Int), lba := (n : Int), blk := (k : Int), fu := f } : Ak).ty))
         generalize ((((((((((((((v0.setCell ⟨p, 0, none⟩ (.int .i64 ({ zA with op := ((42 : Nat) : Int), lba := (n : Int), blk := (k : Int), fu := f } : Ak).op)).setCell ⟨p, 1, none⟩ (.int .i64 ({ zA with op := ((42 : Nat) : Int), lba := (n : Int), blk := (k : Int), fu := f } : Ak).lba)).setCell ⟨p, 2, none⟩ (.int .i64 ({ zA with op := ((42 : Nat) : Int), lba := (n : Int), blk := (k : Int), fu := f } : Ak).blk)).setCell ⟨p, 3, none⟩ (.bool ({ zA with op := ((42 : Nat) : Int), lba := (n : Int), blk := (k : Int), fu := f } : Ak).fu)).setCell ⟨p, 4, none⟩ (.int .i64 ({ zA with op := ((42 : Nat) : Int), lba := (n : Int), blk := (k : Int), fu := f } : Ak).page)).setCell ⟨p, 5, none⟩ (.int .i64 ({ zA with op := ((42 : Nat) : Int), lba := (n : Int), blk := (k : Int), fu := f } : Ak).want)).setCell ⟨p, 6, none⟩ (.int .i64 ({ zA with op := ((42 : Nat) : Int), lba := (n : Int), blk := (k : Int), fu := f } : Ak).ty)).setCell ⟨q, 0, none⟩ (.int .i64 ({ zA with op := ((138 : Nat) : Int), lba := (n : Int), blk := (k : Int), fu := f } : Ak).op)).setCell ⟨q, 1, none⟩ (.int .i64 ({ zA with op := ((138 : Nat) : Int), lba := (n : Int), blk := (k : Int), fu := f } : Ak).lba)).setCell ⟨q, 2, none⟩ (.int .i64 ({ zA with op := ((138 : Nat) : Int), lba := (n : Int), blk := (k : Int), fu := f } : Ak).blk)).setCell ⟨q, 3, none⟩ (.bool ({ zA with op := ((138 : Nat) : Int), lba := (n : Int), blk := (k : Int), fu := f } : Ak).fu)).setCell ⟨q, 4, none⟩ (.int .i64 ({ zA with op := ((138 : Nat) : Int), lba := (n : Int), blk := (k : Int), fu := f } : Ak).page)).setCell ⟨q, 5, none⟩ (.int .i64 ({ zA with op := ((138 : Nat) : Int), lba := (n : Int), blk := (k : Int), fu := f } : Ak).want)).setCell ⟨q, 6, none⟩ (.int .i64 ({ zA with op := ((138 : Nat) : Int), lba := (n : Int), blk := (k : Int), fu := f } : Ak).ty)) = v1 at *
         obtain ⟨a, b, hf⟩ := HF1.out
         have HFF := Lib.hid hf
         clear hf HF0 HF1 F0
         generalize ({ zA with op := ((42 : Nat) : Int), lba := (n : Int), blk := (k : Int), fu := f } : Ak) = x at *
         generalize ({ zA with op := ((138 : Nat) : Int), lba := (n : Int), blk := (k : Int), fu := f } : Ak) = y at *
       | have qj : ((j : Int) == 1) = false := by rw [beqI]; exact decide_eq_false (by omega)
         go_upto_region 8 with (fail)
         have F1 := Lib.hid F0.out
         obtain ⟨a, b, hf⟩ := HF0.out
         have HFF := Lib.hid hf
         clear hf HF0 HF1 F0
         generalize ({ zA with op := ((40 : Nat) : Int), lba := (n : Int), blk := (k : Int), fu := false } : Ak) = x at *
         generalize ({ zA with op := ((136 : Nat) : Int), lba := (n : Int), blk := (k : Int), fu := false } : Ak) = y at *
         generalize hv1 : v0 = v1 at *
         clear hv1
       have HQX : Hid (∀ v, FT v → Calls Tryd.prog 15 #[akV x] v fun e w' => e = .returned (.tuple #[.string a, .int .i64 0]) ∧ Below v.heap.size v w') := Lib.hid (fun v hv => by have h := P.build x v hv (okA_bnd (build_iff.1 HFF.out.ba).1); rw [HFF.out.ba] at h; exact h)
       have HQY : Hid (∀ v, FT v → Calls Tryd.prog 15 #[akV y] v fun e w' => e = .returned (.tuple #[.string b, .int .i64 0]) ∧ Below v.heap.size v w') := Lib.hid (fun v hv => by have h := P.build y v hv (okA_bnd (build_iff.1 HFF.out.bb).1); rw [HFF.out.bb] at h; exact h)
       have HPX : Hid (∀ v, FT v → Calls Tryd.prog 9 #[.string a] v fun e w' => e = .returned (.tuple #[akV x, .int .i64 0]) ∧ Below v.heap.size v w') := Lib.hid (fun v hv => by have h := P.parse a v hv (by rw [HFF.out.sa]; decide); rw [HFF.out.pa] at h; exact h)
       have HPY : Hid (∀ v, FT v → Calls Tryd.prog 9 #[.string b] v fun e w' => e = .returned (.tuple #[akV y, .int .i64 0]) ∧ Below v.heap.size v w') := Lib.hid (fun v hv => by have h := P.parse b v hv (by rw [HFF.out.sb]; decide); rw [HFF.out.pb] at h; exact h)
       have qa : (a.size : Int) = 10 := by rw [HFF.out.sa]; rfl
       have qb : (b.size : Int) = 16 := by rw [HFF.out.sb]; rfl
       have q1 : (x.lba != y.lba) = false := by rw [HFF.out.xl, HFF.out.yl]; simp
       have q2 : (x.blk != y.blk) = false := by rw [HFF.out.xk, HFF.out.yk]; simp
       have q3 : (x.fu != y.fu) = false := by rw [HFF.out.xf, HFF.out.yf]; simp
       have q4 : (x.lba != (n : Int)) = false := by rw [HFF.out.xl]; simp
       have q5 : (x.blk != (k : Int)) = false := by rw [HFF.out.xk]; simp
       have c0 : v1.cell? ⟨p, 0, none⟩ = some (.int .i64 x.op) := F1.out.a.cell 0
       have c1 : v1.cell? ⟨p, 1, none⟩ = some (.int .i64 x.lba) := F1.out.a.cell 1
       have c2 : v1.cell? ⟨p, 2, none⟩ = some (.int .i64 x.blk) := F1.out.a.cell 2
       have c3 : v1.cell? ⟨p, 3, none⟩ = some (.bool x.fu) := F1.out.a.cell 3
       have c4 : v1.cell? ⟨p, 4, none⟩ = some (.int .i64 x.page) := F1.out.a.cell 4
       have c5 : v1.cell? ⟨p, 5, none⟩ = some (.int .i64 x.want) := F1.out.a.cell 5
       have c6 : v1.cell? ⟨p, 6, none⟩ = some (.int .i64 x.ty) := F1.out.a.cell 6
       go_wp2_with (fail)
       refine (HQX.out v1 (HFT.out.below F1.out.bel)).mono ?_; rintro e v2 ⟨rfl, hb⟩
       have F2 := Lib.hid (F1.out.below hb); clear hb c0 c1 c2 c3 c4 c5 c6
       have d0 : v2.cell? ⟨q, 0, none⟩ = some (.int .i64 y.op) := F2.out.b.cell 0
       have d1 : v2.cell? ⟨q, 1, none⟩ = some (.int .i64 y.lba) := F2.out.b.cell 1
       have d2 : v2.cell? ⟨q, 2, none⟩ = some (.int .i64 y.blk) := F2.out.b.cell 2
       have d3 : v2.cell? ⟨q, 3, none⟩ = some (.bool y.fu) := F2.out.b.cell 3
       have d4 : v2.cell? ⟨q, 4, none⟩ = some (.int .i64 y.page) := F2.out.b.cell 4
       have d5 : v2.cell? ⟨q, 5, none⟩ = some (.int .i64 y.want) := F2.out.b.cell 5
       have d6 : v2.cell? ⟨q, 6, none⟩ = some (.int .i64 y.ty) := F2.out.b.cell 6
       go_wp2_with (fail)
       refine (HQY.out v2 (HFT.out.below F2.out.bel)).mono ?_; rintro e v3 ⟨rfl, hb⟩
       have HB3 := Lib.hid ((F2.out.below hb).bel); clear hb d0 d1 d2 d3 d4 d5 d6
       go_wp2_with (fail)
       refine (HPX.out v3 (ft HFT (by assumption))).mono ?_; rintro e v4 ⟨rfl, hb⟩
       have HB4 := Lib.hid (HB3.out.trans (hb.mono HB3.out.size)); clear hb
       go_upto_region 11 with (fail)
       change Code.wp _ _ _ _ (v4.alloc (.cells (akC x) 24))
       have hal := (Below.refl v4.heap.size v4).alloc (Nat.le_refl _) (.cells (akC x) 24)
       have HX5 := Lib.hid (Blk.new v4 24 (akC x)); have HB5 := Lib.hid (HB4.out.trans (hal.mono HB4.out.size))
       obtain ⟨pp, hp⟩ : ∃ p, p = v4.heap.size := ⟨_, rfl⟩
       rw [← hp] at HX5 ⊢
       clear hal hp 
       generalize v4.alloc (.cells (akC x) 24) = v5 at *
       go_wp2_with (fail)
       refine (HPY.out v5 (ft HFT (by assumption))).mono ?_; rintro e v6 ⟨rfl, hb⟩
       have HB6 := Lib.hid (HB5.out.trans (hb.mono HB5.out.size)); have HX6 := Lib.hid (HX5.out.below hb HX5.out.lt); clear hb
       go_upto_region 12 with (fail)
       change Code.wp _ _ _ _ (v6.alloc (.cells (akC y) 24))
       have hal := (Below.refl v6.heap.size v6).alloc (Nat.le_refl _) (.cells (akC y) 24)
       have HY7 := Lib.hid (Blk.new v6 24 (akC y)); have HB7 := Lib.hid (HB6.out.trans (hal.mono HB6.out.size))
       have HX7 := Lib.hid (HX6.out.below hal HX6.out.lt)
       obtain ⟨pr, hp⟩ : ∃ p, p = v6.heap.size := ⟨_, rfl⟩
       rw [← hp] at HY7 ⊢
       clear hal hp 
       generalize v6.alloc (.cells (akC y) 24) = v7 at *
       have c0 : v7.cell? ⟨pp, 0, none⟩ = some (.int .i64 x.op) := HX7.out.cell 0
       have c1 : v7.cell? ⟨pp, 1, none⟩ = some (.int .i64 x.lba) := HX7.out.cell 1
       have c2 : v7.cell? ⟨pp, 2, none⟩ = some (.int .i64 x.blk) := HX7.out.cell 2
       have c3 : v7.cell? ⟨pp, 3, none⟩ = some (.bool x.fu) := HX7.out.cell 3
       have c4 : v7.cell? ⟨pp, 4, none⟩ = some (.int .i64 x.page) := HX7.out.cell 4
       have c5 : v7.cell? ⟨pp, 5, none⟩ = some (.int .i64 x.want) := HX7.out.cell 5
       have c6 : v7.cell? ⟨pp, 6, none⟩ = some (.int .i64 x.ty) := HX7.out.cell 6
       have d0 : v7.cell? ⟨pr, 0, none⟩ = some (.int .i64 y.op) := HY7.out.cell 0
       have d1 : v7.cell? ⟨pr, 1, none⟩ = some (.int .i64 y.lba) := HY7.out.cell 1
       have d2 : v7.cell? ⟨pr, 2, none⟩ = some (.int .i64 y.blk) := HY7.out.cell 2
       have d3 : v7.cell? ⟨pr, 3, none⟩ = some (.bool y.fu) := HY7.out.cell 3
       have d4 : v7.cell? ⟨pr, 4, none⟩ = some (.int .i64 y.page) := HY7.out.cell 4
       have d5 : v7.cell? ⟨pr, 5, none⟩ = some (.int .i64 y.want) := HY7.out.cell 5
       have d6 : v7.cell? ⟨pr, 6, none⟩ = some (.int .i64 y.ty) := HY7.out.cell 6
       go_wp2_with (fail)
       rotate_left 1
       · rename_i hne; exact absurd (HFF.out.xf.trans HFF.out.yf.symm) hne
       go_roundw
       case rel => exact ⟨j + 1, by omega, by go_num, HB7⟩
       case measure => simp [intOf]; omega
    · go_wp2_with (fail)
      refine (HW.out wr (ft HFT (by assumption))).mono ?_; rintro e v1 ⟨rfl, hb⟩
      have HB1 := Lib.hid (HR.out.trans (hb.mono HR.out.size)); clear hb
      go_wp2_with (fail)
      go_ret
      exact ⟨rfl, HB1.out⟩
end Go.Proofs.YtaachlijpgmjeaaDoor
