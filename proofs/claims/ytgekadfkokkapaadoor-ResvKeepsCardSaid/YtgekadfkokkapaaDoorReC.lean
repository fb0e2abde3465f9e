/- Registrations found by the code's own tests. -/
import Derived.Test.YtgekadfkokkapaaDoorReB
namespace Go.Proofs.YtgekadfkokkapaaDoor
open Go.RowKit
set_option maxHeartbeats 1000000 in
theorem index_host (A : Option Addr) (c : Nat) (l : List Rg) (hs : ByteArray) (g : Nat) (w : World) (hl : Rgs w A l) (hm : l.length ≤ maxLen) (h : w.cell? ⟨g, 0, none⟩ = some (.string hs)) :
    Calls Tryd.prog 51 #[.slice A l.length c, .func (.func 52) #[] #[.pointer (some ⟨g, 0, none⟩)]] w fun e w' => e = .returned (.int .i64 (findQ (isH hs) l)) ∧ Below w.heap.size w w' := by
  unfold maxLen at hm
  have HL := Lib.hid hl
  have HQ := Lib.hid (fun v (hv : Below w.heap.size w v) (x : Rg) => idxClosure_any x hs g v ((hv.cell (p := ⟨g, 0, none⟩) (World.block_lt_of_cell? w _ h)).trans h))
  clear hl h
  obtain ⟨q, hq⟩ : ∃ q, q = (isH hs) := ⟨_, rfl⟩
  rw [← hq] at HQ
  rw [← hq]
  go_enter Tryd.func51, Tryd.ntmps51
  go_wp2
  go_loopw [8] (fun i wr => ∃ k : Nat, k ≤ l.length ∧ i = .int .i64 k ∧ Hid ((l.take k).any q = false) ∧ Hid (Below w.heap.size w wr)) (fun i _ => l.length - (intOf i).toNat)
  case atStart => exact ⟨0, Nat.zero_le _, rfl, Lib.hid rfl, Lib.hid (Below.refl _ _)⟩
  case round =>
    obtain ⟨k, hk, rfl, HR, HB⟩ := hrel
    by_cases hlt : k < l.length
    · obtain ⟨b, o, x, rfl, hx, hz, c0, c1⟩ := ((HL.out.below HB.out).at_ hlt)
      have HX := Lib.hid hx; clear hx
      cases he : q x with
      | true =>
        have HE := Lib.hid he; clear he
        go_wp2_with (fail)
        refine (HQ.out _ HB.out x).mono ?_; rintro e w1 ⟨rfl, hb1⟩
        rw [HE.out]
        have HB1 := Lib.hid (HB.out.trans (hb1.mono HB.out.size)); clear hb1
        go_wp2_with (fail)
        go_ret
        exact ⟨by rw [findQ_here HR.out HX.out HE.out]; rfl, HB1.out⟩
      | false =>
        have HE := Lib.hid he; clear he
        go_wp2_with (fail)
        refine (HQ.out _ HB.out x).mono ?_; rintro e w1 ⟨rfl, hb1⟩
        rw [HE.out]
        have HB1 := Lib.hid (HB.out.trans (hb1.mono HB.out.size)); clear hb1
        go_wp2_with (fail)
        go_roundw
        case rel => exact ⟨k + 1, by omega, by go_num, Lib.hid (by rw [any_take q l k x HX.out, HR.out, HE.out]; rfl), HB1⟩
        case measure => simp [intOf]; omega
    · obtain rfl : k = l.length := by omega
      go_wp2_with (fail)
      go_ret
      have := HR.out
      rw [List.take_length] at this
      exact ⟨by rw [findQ_none this]; rfl, HB.out⟩
set_option maxHeartbeats 1000000 in
theorem index_rem (A : Option Addr) (c : Nat) (l : List Rg) (p : Nat) (A1 : Option Addr) (c1 : Nat) (t : Tl) (m : Cm) (B1 : Option Addr) (e1 : Nat) (es : List Ev) (w : World) (hl : Rgs w A l) (hm : l.length ≤ maxLen) (h : ChAt w p A1 c1 t m B1 e1 es) :
    Calls Tryd.prog 51 #[.slice A l.length c, .func (.func 77) #[.pointer (some ⟨p, 0, none⟩)] #[]] w fun e w' => e = .returned (.int .i64 (findQ (isR t m) l)) ∧ Below w.heap.size w w' := by
  unfold maxLen at hm
  have HL := Lib.hid hl
  have HQ := Lib.hid (fun v (hv : Below w.heap.size w v) (x : Rg) => removes_any x v p A1 c1 t m B1 e1 es (h.below hv))
  clear hl h
  obtain ⟨q, hq⟩ : ∃ q, q = (isR t m) := ⟨_, rfl⟩
  rw [← hq] at HQ
  rw [← hq]
  go_enter Tryd.func51, Tryd.ntmps51
  go_wp2
  go_loopw [8] (fun i wr => ∃ k : Nat, k ≤ l.length ∧ i = .int .i64 k ∧ Hid ((l.take k).any q = false) ∧ Hid (Below w.heap.size w wr)) (fun i _ => l.length - (intOf i).toNat)
  case atStart => exact ⟨0, Nat.zero_le _, rfl, Lib.hid rfl, Lib.hid (Below.refl _ _)⟩
  case round =>
    obtain ⟨k, hk, rfl, HR, HB⟩ := hrel
    by_cases hlt : k < l.length
    · obtain ⟨b, o, x, rfl, hx, hz, c0, c1⟩ := ((HL.out.below HB.out).at_ hlt)
      have HX := Lib.hid hx; clear hx
      cases he : q x with
      | true =>
        have HE := Lib.hid he; clear he
        go_wp2_with (fail)
        refine (HQ.out _ HB.out x).mono ?_; rintro e w1 ⟨rfl, hb1⟩
        rw [HE.out]
        have HB1 := Lib.hid (HB.out.trans (hb1.mono HB.out.size)); clear hb1
        go_wp2_with (fail)
        go_ret
        exact ⟨by rw [findQ_here HR.out HX.out HE.out]; rfl, HB1.out⟩
      | false =>
        have HE := Lib.hid he; clear he
        go_wp2_with (fail)
        refine (HQ.out _ HB.out x).mono ?_; rintro e w1 ⟨rfl, hb1⟩
        rw [HE.out]
        have HB1 := Lib.hid (HB.out.trans (hb1.mono HB.out.size)); clear hb1
        go_wp2_with (fail)
        go_roundw
        case rel => exact ⟨k + 1, by omega, by go_num, Lib.hid (by rw [any_take q l k x HX.out, HR.out, HE.out]; rfl), HB1⟩
        case measure => simp [intOf]; omega
    · obtain rfl : k = l.length := by omega
      go_wp2_with (fail)
      go_ret
      have := HR.out
      rw [List.take_length] at this
      exact ⟨by rw [findQ_none this]; rfl, HB.out⟩
set_option maxHeartbeats 1000000 in
theorem contains_rem (A : Option Addr) (c : Nat) (l : List Rg) (p : Nat) (A1 : Option Addr) (c1 : Nat) (t : Tl) (m : Cm) (B1 : Option Addr) (e1 : Nat) (es : List Ev) (w : World) (hl : Rgs w A l) (hm : l.length ≤ maxLen) (h : ChAt w p A1 c1 t m B1 e1 es) :
    Calls Tryd.prog 76 #[.slice A l.length c, .func (.func 77) #[.pointer (some ⟨p, 0, none⟩)] #[]] w fun e w' => e = .returned (.bool (l.any (isR t m))) ∧ Below w.heap.size w w' := by
  have HF := Lib.hid (findQ_ge (isR t m) l)
  have HI := Lib.hid (index_rem A c l p A1 c1 t m B1 e1 es w hl hm h)
  clear hl hm h
  generalize findQ (isR t m) l = r at *
  go_enter Tryd.func76, Tryd.ntmps76
  go_wp2_with (fail)
  refine HI.out.mono ?_; rintro e w1 ⟨rfl, hb1⟩
  go_wp2_with (fail)
  go_ret
  exact ⟨by rw [← HF.out]; rfl, hb1⟩
set_option maxHeartbeats 1000000 in
theorem indexOf_any (A : Option Addr) (c : Nat) (l : List Rg) (hs : ByteArray) (w : World) (hl : Rgs w A l) (hm : l.length ≤ maxLen) :
    Calls Tryd.prog 35 #[.slice A l.length c, .string hs] w fun e w' => e = .returned (.int .i64 (findQ (isH hs) l)) ∧ Below w.heap.size w w' := by
  have hmf : ∀ (fn : Fn) (first cap : Array Value) (w : World), (Instr.makeFunc fn first cap).run Tryd.prog w = .ok (.func fn first cap) w := fun _ _ _ _ => rfl
  have HB := Lib.hid ((Below.refl w.heap.size w).alloc (Nat.le_refl _) (.cells #[.string hs] 9))
  have HS := Lib.hid (Blk.new w 9 #[.string hs])
  have HI := Lib.hid (index_host A c l hs w.heap.size _ (hl.below HB.out) hm (HS.out.cell 0))
  clear hl hm
  go_enter Tryd.func35, Tryd.ntmps35
  go_wp2_with (fail)
  refine HI.out.mono ?_; rintro e w1 ⟨rfl, hb1⟩
  go_wp2_with (fail)
  go_ret
  exact ⟨rfl, HB.out.trans (hb1.mono HB.out.size)⟩
/-- The key of a host, or 0. -/
def keyR (l : List Rg) (h : ByteArray) : Int := match l.find? (isH h) with | some r => r.k | none => 0
theorem keyR_none {l : List Rg} {h : ByteArray} (hp : regB l h = false) : keyR l h = 0 := by
  unfold keyR
  rw [List.find?_eq_none.2 (fun x hx => by have := (List.any_eq_false.1 hp) x hx; simpa using this)]
theorem keyR_at {l : List Rg} {h : ByteArray} {k : Nat} {x : Rg} (hx : l[k]? = some x) (hk : k = l.findIdx (isH h)) : keyR l h = x.k := by
  have hlt := (List.getElem?_eq_some_iff.1 hx).1
  have : l.find? (isH h) = some x := by rw [← hx, hk]; exact List.find?_eq_getElem?_findIdx ..
  unfold keyR
  rw [this]
set_option maxHeartbeats 1000000 in
theorem key_any (A : Option Addr) (c : Nat) (t : Tl) (hs : ByteArray) (w : World) (hl : Rgs w A t.rs) (hm : t.rs.length ≤ maxLen) :
    Calls Tryd.prog 16 #[tlV A c t, .string hs] w fun e w' => e = .returned (.int .u64 (keyR t.rs hs)) ∧ Below w.heap.size w w' := by
  obtain ⟨h1, h2, h3⟩ := tl_box w A c t _ rfl
  have HT := Lib.hid h1; have HB := Lib.hid h2
  have HL := Lib.hid (hl.below h2)
  have HI := Lib.hid (indexOf_any A c t.rs hs _ HL.out hm)
  unfold maxLen at hm
  clear h1 h2 h3 hl
  cases hr : regB t.rs hs with
  | false =>
    rw [findQ_none (q := isH hs) hr] at HI
    have HK := Lib.hid (keyR_none hr)
    clear hr
    go_enter Tryd.func16, Tryd.ntmps16
    go_upto_region 1 with (fail)
    change Code.wp _ _ _ _ (w.alloc (.cells (tlC A c t) 27))
    generalize w.alloc (.cells (tlC A c t) 27) = w0 at *
    have c0 : w0.cell? ⟨w.heap.size, 0, none⟩ = some (.slice A t.rs.length c) := HT.out.cell 0
    go_wp2_with (fail)
    refine HI.out.mono ?_; rintro e w1 ⟨rfl, hb1⟩
    go_wp2_with (fail)
    go_ret
    exact ⟨by rw [HK.out]; rfl, HB.out.trans (hb1.mono HB.out.size)⟩
  | true =>
    obtain ⟨k, x, hf, hx, _, hk⟩ := findQ_some (q := isH hs) hr
    rw [hf] at HI
    have HK := Lib.hid (keyR_at hx hk)
    have HX := Lib.hid hx
    have hlt := (List.getElem?_eq_some_iff.1 hx).1
    clear hr hf hx hk
    go_enter Tryd.func16, Tryd.ntmps16
    go_upto_region 1 with (fail)
    change Code.wp _ _ _ _ (w.alloc (.cells (tlC A c t) 27))
    generalize w.alloc (.cells (tlC A c t) 27) = w0 at *
    have c0 : w0.cell? ⟨w.heap.size, 0, none⟩ = some (.slice A t.rs.length c) := HT.out.cell 0
    go_wp2_with (fail)
    refine HI.out.mono ?_; rintro e w1 ⟨rfl, hb1⟩
    have c1 : w1.cell? ⟨w.heap.size, 0, none⟩ = some (.slice A t.rs.length c) := (HT.out.below hb1 HT.out.lt).cell 0
    obtain ⟨b, o, y, rfl, hy, hz, d0, d1⟩ := ((HL.out.below hb1).at_ hlt)
    obtain rfl : y = x := Option.some.inj (hy.symm.trans HX.out)
    have HB1 := Lib.hid (HB.out.trans (hb1.mono HB.out.size))
    clear hb1 hy
    have hki : (k : Int) < t.rs.length := by omega
    go_wp2_with (fail)
    go_ret
    exact ⟨by rw [HK.out]; rfl, HB1.out⟩
end Go.Proofs.YtgekadfkokkapaaDoor
