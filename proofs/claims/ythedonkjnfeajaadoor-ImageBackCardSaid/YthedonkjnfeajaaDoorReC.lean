/- Registrations found by the code's own tests. -/
import Derived.Test.YthedonkjnfeajaaDoorReB
namespace Go.Proofs.YthedonkjnfeajaaDoor
open Go.RowKit
set_option maxHeartbeats 1000000 in
theorem index_host (A : Option Addr) (c : Nat) (l : List Rg) (hs : ByteArray) (g : Nat) (w : World) (hl : Rgs w A l) (hm : l.length ≤ maxLen) (h : w.cell? ⟨g, 0, none⟩ = some (.string hs)) :
    Calls Tryd.prog 53 #[.slice A l.length c, .func (.func 64) #[] #[.pointer (some ⟨g, 0, none⟩)]] w fun e w' => e = .returned (.int .i64 (findQ (isH hs) l)) ∧ Below w.heap.size w w' := by
  unfold maxLen at hm
  have HL := Lib.hid hl
  have HQ := Lib.hid (fun v (hv : Below w.heap.size w v) (x : Rg) => idxClosure_any x hs g v ((hv.cell (p := ⟨g, 0, none⟩) (World.block_lt_of_cell? w _ h)).trans h))
  clear hl h
  obtain ⟨q, hq⟩ : ∃ q, q = (isH hs) := ⟨_, rfl⟩
  rw [← hq] at HQ
  rw [← hq]
  go_enter Tryd.func53, Tryd.ntmps53
  go_wp2
  go_loopw [8] (fun i wr => ∃ k : Nat, k ≤ l.length ∧ i = .int .i64 k ∧ Hid ((l.take k).any q = false) ∧ Hid (Below w.heap.size w wr)) (fun i _ => l.length - (intOf i).toNat)
  case atStart => exact ⟨0, Nat.zero_le _, rfl, Lib.hid rfl, Lib.hid (Below.refl _ _)⟩
  case round =>
    obtain ⟨k, hk, rfl, HR, HB⟩ := hrel
    by_cases hlt : k < l.length
    · obtain ⟨b, o, x, rfl, hx, hz, c0, c1⟩ := ((HL.out.below HB.out).at_ hlt)
      have HX := Lib.hid hx; clear hx
      cases he : q x with
      | true =>
        have HE := Lib.hid he; clear he
        go_wp2_with (fail)
        refine (HQ.out _ HB.out x).mono ?_; rintro e w1 ⟨rfl, hb1⟩
        rw [HE.out]
        have HB1 := Lib.hid (HB.out.trans (hb1.mono HB.out.size)); clear hb1
        go_wp2_with (fail)
        go_ret
        exact ⟨by rw [findQ_here HR.out HX.out HE.out]; rfl, HB1.out⟩
      | false =>
        have HE := Lib.hid he; clear he
        go_wp2_with (fail)
        refine (HQ.out _ HB.out x).mono ?_; rintro e w1 ⟨rfl, hb1⟩
        rw [HE.out]
        have HB1 := Lib.hid (HB.out.trans (hb1.mono HB.out.size)); clear hb1
        go_wp2_with (fail)
        go_roundw
        case rel => exact ⟨k + 1, by omega, by go_num, Lib.hid (by rw [any_take q l k x HX.out, HR.out, HE.out]; rfl), HB1⟩
        case measure => simp [intOf]; omega
    · obtain rfl : k = l.length := by omega
      go_wp2_with (fail)
      go_ret
      have := HR.out
      rw [List.take_length] at this
      exact ⟨by rw [findQ_none this]; rfl, HB.out⟩
set_option maxHeartbeats 1000000 in
theorem indexOf_any (A : Option Addr) (c : Nat) (l : List Rg) (hs : ByteArray) (w : World) (hl : Rgs w A l) (hm : l.length ≤ maxLen) :
    Calls Tryd.prog 47 #[.slice A l.length c, .string hs] w fun e w' => e = .returned (.int .i64 (findQ (isH hs) l)) ∧ Below w.heap.size w w' := by
  have hmf : ∀ (fn : Fn) (first cap : Array Value) (w : World), (Instr.makeFunc fn first cap).run Tryd.prog w = .ok (.func fn first cap) w := fun _ _ _ _ => rfl
  have HB := Lib.hid ((Below.refl w.heap.size w).alloc (Nat.le_refl _) (.cells #[.string hs] 9))
  have HS := Lib.hid (Blk.new w 9 #[.string hs])
  have HI := Lib.hid (index_host A c l hs w.heap.size _ (hl.below HB.out) hm (HS.out.cell 0))
  clear hl hm
  go_enter Tryd.func47, Tryd.ntmps47
  go_wp2_with (fail)
  refine HI.out.mono ?_; rintro e w1 ⟨rfl, hb1⟩
  go_wp2_with (fail)
  go_ret
  exact ⟨rfl, HB.out.trans (hb1.mono HB.out.size)⟩
/-- The key of a host, or 0. -/
def keyR (l : List Rg) (h : ByteArray) : Int := match l.find? (isH h) with | some r => r.k | none => 0
theorem keyR_none {l : List Rg} {h : ByteArray} (hp : regB l h = false) : keyR l h = 0 := by
  unfold keyR
  rw [List.find?_eq_none.2 (fun x hx => by have := (List.any_eq_false.1 hp) x hx; simpa using this)]
theorem keyR_at {l : List Rg} {h : ByteArray} {k : Nat} {x : Rg} (hx : l[k]? = some x) (hk : k = l.findIdx (isH h)) : keyR l h = x.k := by
  have hlt := (List.getElem?_eq_some_iff.1 hx).1
  have : l.find? (isH h) = some x := by rw [← hx, hk]; exact List.find?_eq_getElem?_findIdx ..
  unfold keyR
  rw [this]
end Go.Proofs.YthedonkjnfeajaaDoor
