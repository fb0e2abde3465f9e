/- FrameStacks: frames one behind the other are read one by one. -/
import Derived.Test.YtoejfkalgmdjcaaDoorFrameWakes
namespace Go.Proofs.YtoejfkalgmdjcaaDoor
open Go.RowKit
/-- A list of texts in memory. -/
def Strs (w : World) (A : Option Addr) (xs : List ByteArray) : Prop := 0 < xs.length → ∃ b o, A = some ⟨b, o, none⟩ ∧ ∀ (j : Nat) (v : ByteArray), xs[j]? = some v → w.cell? ⟨b, o + j, none⟩ = some (.string v)
theorem Strs.below {w w' : World} {A : Option Addr} {xs : List ByteArray} (h : Strs w A xs) (hb : Below w.heap.size w w') : Strs w' A xs := fun hn => by
  obtain ⟨b, o, rfl, hc⟩ := h hn
  exact ⟨b, o, rfl, fun j v hj => (hb.cell (p := ⟨b, o + j, none⟩) (World.block_lt_of_cell? _ _ (hc j v hj))).trans (hc j v hj)⟩
theorem Strs.at_ {w : World} {A : Option Addr} {xs : List ByteArray} (h : Strs w A xs) {j : Nat} (hj : j < xs.length) : ∃ b o v, A = some ⟨b, o, none⟩ ∧ xs[j]? = some v ∧ w.cell? ⟨b, o + j, none⟩ = some (.string v) := by
  obtain ⟨b, o, rfl, hc⟩ := h (by omega)
  exact ⟨b, o, _, rfl, List.getElem?_eq_getElem hj, hc j _ (List.getElem?_eq_getElem hj)⟩
/-- The number of frame k. -/
def numK (m k : Nat) : Nat := (m + k) % 18446744073709551616
theorem numK_lt (m k : Nat) : numK m k < 18446744073709551616 := Nat.mod_lt _ (by decide)
def stackF (m : Nat) : Nat → List ByteArray → ByteArray
  | _, [] => ⟨#[]⟩
  | k, t :: ts => putS (numK m k) t ++ stackF m (k + 1) ts
theorem stack_at (m k : Nat) (ts : List ByteArray) (t : ByteArray) (h : ts[k]? = some t) : stackF m k (ts.drop k) = putS (numK m k) t ++ stackF m (k + 1) (ts.drop (k + 1)) := by
  obtain ⟨hk, he⟩ := List.getElem?_eq_some_iff.1 h
  rw [List.drop_eq_getElem_cons hk, he]
  rfl
theorem stack_end (m k : Nat) (ts : List ByteArray) (h : ts.length ≤ k) : stackF m k (ts.drop k) = ⟨#[]⟩ := by
  rw [List.drop_eq_nil_of_le h]
  rfl
/-- What stands of the frames when k of them are built. -/
structure Built (m : Nat) (ts : List ByteArray) (k : Nat) (all : ByteArray) : Prop where
  eq : all ++ stackF m k (ts.drop k) = stackF m 0 ts
  size : all.size ≤ k * 2536
theorem Built.zero (m : Nat) (ts : List ByteArray) : Built m ts 0 ⟨#[]⟩ := ⟨by apply bytes_ext; rw [app_list]; rfl, by rw [Nat.zero_mul]; exact Nat.le_refl _⟩
theorem Built.next {m : Nat} {ts : List ByteArray} {k : Nat} {all t : ByteArray} (h : Built m ts k all) (ht : ts[k]? = some t) (hz : t.size ≤ 2000) : Built m ts (k + 1) (all ++ putS (numK m k) t) := by
  refine ⟨?_, ?_⟩
  · rw [ByteArray.append_assoc, ← stack_at m k ts t ht, h.eq]
  · have := h.size
    have := sec_room t.size
    rw [ByteArray.size_append, putS_size]
    omega
theorem put_wrap (m k : Nat) : IntKind.u64.wrap ((m : Int) + (k : Int)) = ((numK m k : Nat) : Int) := by
  rw [IntKind.wrap_u64]
  unfold numK
  omega
set_option maxRecDepth 100000 in
set_option maxHeartbeats 1000000 in
theorem stacks_in (A : Option Addr) (c : Nat) (ts : List ByteArray) (m : Nat) (w : World) (hs : Strs w A ts) (hm : m < 18446744073709551616) (h : ts.length ≤ 20) (ht : Tab w) :
    Calls Tryd.prog 8 #[.slice A ts.length c, .int .u64 m] w fun e w' => e = .returned (.bool true) ∧ Below w.heap.size w w' := by
  have hi : ¬ (20 : Int) < ts.length := by omega
  have HT := Lib.hid ht; clear ht
  have HM := Lib.hid hm; clear hm
  have HS := Lib.hid hs; clear hs
  go_enter Tryd.func8, Tryd.ntmps8
  go_wp2_with (fail)
  go_loopw [5, 6] (fun all i wr => ∃ (k : Nat) (s : ByteArray), k ≤ ts.length ∧ i = .int .i64 k ∧ all = .string s ∧ Built m ts k s ∧ (∀ j t, j < k → ts[j]? = some t → t.size ≤ 2000) ∧ Below w.heap.size w wr) (fun _ i _ => ts.length - (intOf i).toNat)
  case atStart => exact ⟨0, ⟨#[]⟩, Nat.zero_le _, rfl, rfl, Built.zero m ts, fun j t hj => absurd hj (Nat.not_lt_zero _), Below.refl _ _⟩
  case round =>
    obtain ⟨k, s, hk, rfl, rfl, hbu, hsm, hbl⟩ := hrel
    have HB := Lib.hid hbl; clear hbl
    have HU := Lib.hid hbu; clear hbu
    have HSM := Lib.hid hsm; clear hsm
    by_cases hlt : k < ts.length
    · obtain ⟨b, o, t, rfl, htk, hcell⟩ := (HS.out.below HB.out).at_ hlt
      have HTK := Lib.hid htk; clear htk
      have hki : (k : Int) < ts.length := by omega
      by_cases hz : t.size ≤ 2000
      · have hzi : ¬ (2000 : Int) < t.size := by omega
        have hwr := put_wrap m k
        have hsz := Lib.hid (HU.out.size)
        have hps := putS_size (numK m k) t
        have hsr := sec_room t.size
        have hn := Lib.hid (HU.out.next HTK.out hz)
        go_wp2_with (fail)
        refine (put_ok (numK m k) t _ (by omega) (HT.out.below HB.out)).mono ?_; rintro e w1 ⟨rfl, hb1⟩
        have H1 := Lib.hid (HB.out.trans (hb1.mono HB.out.size)); clear hb1
        have hcat : ¬ 9223372036854775807 < s.size + (putS (numK m k) t).size := by have := hsz.out; omega
        generalize putS (numK m k) t = f at *
        clear hwr hsr hps
        go_wp2
        go_roundw
        case rel =>
          refine ⟨k + 1, _, by omega, by go_num, rfl, hn.out, fun j t' hj ht' => ?_, H1.out⟩
          by_cases hjk : j < k
          · exact HSM.out j t' hjk ht'
          · have : j = k := by omega
            subst this
            rw [HTK.out] at ht'
            injection ht' with ht'
            subst ht'
            exact hz
        case measure => simp [intOf]; omega
      · have hzi : (2000 : Int) < t.size := by omega
        go_wp2_with (fail)
        refine (wakes_any _ (HT.out.below HB.out)).mono ?_; rintro e w1 ⟨rfl, hb1⟩
        have H1 := Lib.hid (HB.out.trans (hb1.mono HB.out.size)); clear hb1
        go_wp2
        go_ret
        exact ⟨rfl, H1.out⟩
    · obtain rfl : k = ts.length := by omega
      have hall : s = stackF m 0 (ts.drop 0) := by
        have := HU.out.eq
        rw [stack_end m _ ts (Nat.le_refl _), app_nil] at this
        exact this
      have HA := Lib.hid hall; clear hall
      have hsz : s.size ≤ 100000 := by have := HU.out.size; omega
      go_wp2_with (fail)
      go_loopw [5, 9] (fun all i wx => ∃ (j : Nat) (r : ByteArray), j ≤ ts.length ∧ i = .int .i64 j ∧ all = .string r ∧ r = stackF m j (ts.drop j) ∧ r.size ≤ 100000 ∧ Below w.heap.size w wx) (fun _ i _ => ts.length - (intOf i).toNat)
      case atStart => exact ⟨0, s, Nat.zero_le _, rfl, rfl, HA.out, hsz, HB.out⟩
      case round =>
        obtain ⟨j, r, hj, rfl, rfl, hrr, hrs, hb2⟩ := hrel
        have HB2 := Lib.hid hb2; clear hb2
        have HR := Lib.hid hrr; clear hrr
        by_cases hlt : j < ts.length
        · obtain ⟨b, o, t, rfl, htk, hcell⟩ := (HS.out.below HB2.out).at_ hlt
          have htz := HSM.out j t hlt htk
          have hji : (j : Int) < ts.length := by omega
          have hwr := put_wrap m j
          have hst := HR.out.trans (stack_at m j ts t htk)
          have hpo := put_of (numK m j) t (stackF m (j + 1) (ts.drop (j + 1))) (numK_lt m j) (by omega)
          rw [← hst] at hpo
          have hg := Lib.hid (hpo.got (by omega))
          have hps := putS_size (numK m j) t
          have hrest : r.extract (512 * secF t.size) r.size = stackF m (j + 1) (ts.drop (j + 1)) := by
            rw [hst, extR _ _ _ _ (by omega), ← hps]
            have hz2 : (putS (numK m j) t ++ stackF m (j + 1) (ts.drop (j + 1))).size - (putS (numK m j) t).size = (stackF m (j + 1) (ts.drop (j + 1))).size := by rw [ByteArray.size_append]; omega
            rw [hz2, Nat.sub_self]
            exact extAll _ _ (Nat.le_refl _)
          have hle : 512 * secF t.size ≤ r.size := hpo.size
          obtain ⟨S, hS⟩ : ∃ S, S = 512 * secF t.size := ⟨_, rfl⟩
          rw [← hS] at hrest hle hg
          have hle2 : ¬ (r.size : Int) < S := by omega
          have hle3 : (S : Int) ≤ r.size := by omega
          have hSz := ext_size r S r.size (Nat.le_refl _)
          have HRE := Lib.hid hrest; clear hrest
          clear hps hpo hst
          have HSS := Lib.hid hS; clear hS
          go_wp2_with (fail)
          refine (get_any r _ (by unfold maxLen; omega) (HT.out.below HB2.out)).mono ?_; rintro e w1 ⟨rfl, hb1⟩
          have hcell1 : w1.cell? ⟨b, o + j, none⟩ = some (.string t) := (hb1.cell (p := ⟨b, o + j, none⟩) (World.block_lt_of_cell? _ _ hcell)).trans hcell
          have H1 := Lib.hid (HB2.out.trans (hb1.mono HB2.out.size)); clear hb1
          rw [hg.out]
          go_wp2_with (fail)
          go_roundw
          case rel => exact ⟨j + 1, _, by omega, by go_num, rfl, HRE.out, by omega, H1.out⟩
          case measure => simp [intOf]; omega
        · obtain rfl : j = ts.length := by omega
          have hnil : r = ⟨#[]⟩ := HR.out.trans (stack_end m _ ts (Nat.le_refl _))
          subst hnil
          go_wp2_with (fail)
          refine (wakes_any _ (HT.out.below HB2.out)).mono ?_; rintro e w1 ⟨rfl, hb1⟩
          have H1 := Lib.hid (HB2.out.trans (hb1.mono HB2.out.size)); clear hb1
          go_wp2
          go_ret
          exact ⟨rfl, H1.out⟩
theorem stacks_any (A : Option Addr) (c : Nat) (ts : List ByteArray) (m : Nat) (w : World) (hs : Strs w A ts) (hm : m < 18446744073709551616) (ht : Tab w) :
    Calls Tryd.prog 8 #[.slice A ts.length c, .int .u64 m] w fun e w' => e = .returned (.bool true) ∧ Below w.heap.size w w' := by
  by_cases h : ts.length ≤ 20
  · exact stacks_in A c ts m w hs hm h ht
  · have hi : (20 : Int) < ts.length := by omega
    have HT := Lib.hid ht; clear ht
    go_enter Tryd.func8, Tryd.ntmps8
    go_wp2_with (fail)
    refine (wakes_any _ HT.out).mono ?_; rintro e w1 ⟨rfl, hb1⟩
    go_wp2
    go_ret
    exact ⟨rfl, hb1⟩
end Go.Proofs.YtoejfkalgmdjcaaDoor
