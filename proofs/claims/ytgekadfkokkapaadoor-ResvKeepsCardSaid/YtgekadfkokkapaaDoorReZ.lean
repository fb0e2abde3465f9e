/- What is not large; the rests that the statements call. -/
import Derived.Test.YtgekadfkokkapaaDoorReMa
namespace Go.Proofs.YtgekadfkokkapaaDoor
open Go.RowKit
theorem take_sizes {l : List Rg} {k : Nat} {x : Rg} (h : ∀ y ∈ l.take k, y.h.size ≤ 1000) (hx : l[k]? = some x) (hs : x.h.size ≤ 1000) : ∀ y ∈ l.take (k + 1), y.h.size ≤ 1000 := by
  obtain ⟨hk, rfl⟩ := List.getElem?_eq_some_iff.1 hx
  rw [List.take_succ_eq_append_getElem hk]
  intro y hy
  rcases List.mem_append.1 hy with q | q
  · exact h y q
  · rw [List.mem_singleton.1 q]; exact hs
/-- A table that is not large. -/
def Small (t : Tl) : Prop := t.rs.length ≤ 200 ∧ t.ho.size ≤ 1000 ∧ ∀ x ∈ t.rs, x.h.size ≤ 1000
def LgX (t : Tl) (w : World) (e : Ending) (w' : World) : Prop := ∃ r : Bool, e = .returned (.bool r) ∧ (r = false → Small t) ∧ Below w.heap.size w w'
set_option maxRecDepth 100000 in
set_option maxHeartbeats 2000000 in
theorem largeX_any (A : Option Addr) (c : Nat) (t : Tl) (w : World) (hl : Rgs w A t.rs) (hm : t.rs.length ≤ maxLen) :
    Calls Tryd.prog 11 #[tlV A c t] w (LgX t w) := by
  unfold maxLen at hm
  obtain ⟨h1, h2, h3⟩ := tl_box w A c t _ rfl
  have HT := Lib.hid h1; have HB := Lib.hid h2
  have HL := Lib.hid (hl.below h2)
  clear h1 h2 h3 hl
  by_cases g1 : 200 < t.rs.length
  · have i1 : (200 : Int) < t.rs.length := by omega
    clear g1
    go_enter Tryd.func11, Tryd.ntmps11
    go_upto_region 1 with (fail)
    change Code.wp _ _ _ _ (w.alloc (.cells (tlC A c t) 27))
    generalize w.alloc (.cells (tlC A c t) 27) = w0 at *
    have c0 : w0.cell? ⟨w.heap.size, 0, none⟩ = some (.slice A t.rs.length c) := HT.out.cell 0
    have c2 : w0.cell? ⟨w.heap.size, 2, none⟩ = some (.string t.ho) := HT.out.cell 2
    go_wp2_with (fail)
    go_ret
    exact ⟨true, rfl, (fun h => by cases h), HB.out⟩
  · have i1 : ¬ (200 : Int) < t.rs.length := by omega
    by_cases g2 : 1000 < t.ho.size
    · have i2 : (1000 : Int) < t.ho.size := by omega
      clear g2
      go_enter Tryd.func11, Tryd.ntmps11
      go_upto_region 1 with (fail)
      change Code.wp _ _ _ _ (w.alloc (.cells (tlC A c t) 27))
      generalize w.alloc (.cells (tlC A c t) 27) = w0 at *
      have c0 : w0.cell? ⟨w.heap.size, 0, none⟩ = some (.slice A t.rs.length c) := HT.out.cell 0
      have c2 : w0.cell? ⟨w.heap.size, 2, none⟩ = some (.string t.ho) := HT.out.cell 2
      go_wp2_with (fail)
      go_ret
      exact ⟨true, rfl, (fun h => by cases h), HB.out⟩
    · have i2 : ¬ (1000 : Int) < t.ho.size := by omega
      have HG := Lib.hid (show t.rs.length ≤ 200 ∧ t.ho.size ≤ 1000 by omega)
      clear g1 g2
      go_enter Tryd.func11, Tryd.ntmps11
      go_upto_region 1 with (fail)
      change Code.wp _ _ _ _ (w.alloc (.cells (tlC A c t) 27))
      generalize w.alloc (.cells (tlC A c t) 27) = w0 at *
      have c0 : w0.cell? ⟨w.heap.size, 0, none⟩ = some (.slice A t.rs.length c) := HT.out.cell 0
      have c2 : w0.cell? ⟨w.heap.size, 2, none⟩ = some (.string t.ho) := HT.out.cell 2
      go_wp2_with (fail)
      go_loop [3] (fun i => ∃ k : Nat, k ≤ t.rs.length ∧ i = .int .i64 k ∧ Hid (∀ x ∈ t.rs.take k, x.h.size ≤ 1000)) (fun i => t.rs.length - (intOf i).toNat)
      case atStart => exact ⟨0, Nat.zero_le _, rfl, Lib.hid (fun x hx => by simp at hx)⟩
      case round =>
        obtain ⟨k, hk, rfl, HT1⟩ := hrel
        by_cases hlt : k < t.rs.length
        · obtain ⟨b, o, x, rfl, hx, hz, d0, d1⟩ := HL.out.at_ hlt
          have HX := Lib.hid hx
          clear hx
          by_cases g3 : 1000 < x.h.size
          · have i3 : (1000 : Int) < x.h.size := by omega
            clear g3
            go_wp2_with (fail)
            go_ret
            exact ⟨true, rfl, (fun h => by cases h), HB.out⟩
          · have i3 : ¬ (1000 : Int) < x.h.size := by omega
            have HK := Lib.hid (take_sizes HT1.out HX.out (by omega : x.h.size ≤ 1000))
            clear g3
            go_wp2_with (fail)
            go_round
            case rel => exact ⟨k + 1, by omega, by go_num, HK⟩
            case measure => simp [intOf]; omega
        · obtain rfl : k = t.rs.length := by omega
          go_wp2_with (fail)
          go_ret
          exact ⟨false, rfl, (fun _ => ⟨HG.out.1, HG.out.2, by have := HT1.out; rw [List.take_length] at this; exact this⟩), HB.out⟩
set_option maxHeartbeats 1000000 in
theorem largeC_any (m : Cm) (w : World) : Calls Tryd.prog 21 #[cmV m] w fun e w' => e = .returned (.bool (decide (1000 < m.ho.size))) ∧ Below w.heap.size w w' := by
  have hb := (Below.refl w.heap.size w).alloc (Nat.le_refl _) (.cells (cmC m) 37)
  have HK := Lib.hid (Blk.new w 37 (cmC m)); have HB := Lib.hid hb
  have hd : decide ((1000 : Int) < m.ho.size) = decide (1000 < m.ho.size) := by
    apply decide_eq_decide.2
    omega
  clear hb
  go_enter Tryd.func21, Tryd.ntmps21
  go_upto_region 1 with (fail)
  change Code.wp _ _ _ _ (w.alloc (.cells (cmC m) 37))
  generalize w.alloc (.cells (cmC m) 37) = w0 at *
  have c2 : w0.cell? ⟨w.heap.size, 2, none⟩ = some (.string m.ho) := HK.out.cell 2
  go_wp2_with (fail)
  go_ret
  exact ⟨rfl, HB.out⟩
def modK (k n : Int) : Int := Int.tmod (Int.tmod k n + n) n
end Go.Proofs.YtgekadfkokkapaaDoor
