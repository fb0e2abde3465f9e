/- A change's readers: is who asks registered, is the reservation taken over. -/
import Derived.Test.YtgekadfkokkapaaDoorReC
namespace Go.Proofs.YtgekadfkokkapaaDoor
open Go.RowKit
def regdB (t : Tl) (m : Cm) : Bool := (m.ke != 0) && (m.ke == keyR t.rs m.ho)
/-- The class of worlds in which a change stands. -/
theorem class_ch {w0 : World} {p : Nat} {A : Option Addr} {c : Nat} {t : Tl} {m : Cm} {B : Option Addr} {e : Nat} {es : List Ev} (h : ChAt w0 p A c t m B e es) :
    ∃ C : World → Prop, C w0.drew ∧ (∀ v, C v → ChAt v p A c t m B e es) ∧ (∀ v, C v → Below w0.heap.size w0 v) ∧ (∀ v v', C v → Below v.heap.size v v' → C v') :=
  class_of w0 (fun v => ChAt v p A c t m B e es) (fun _ hb => h.below hb)
set_option maxHeartbeats 1000000 in
theorem isRegd_zero (w : World) (p : Nat) (A : Option Addr) (c : Nat) (t : Tl) (m : Cm) (B : Option Addr) (e : Nat) (es : List Ev) (h : ChAt w p A c t m B e es) (hn : (m.ke != 0) = false) :
    Calls Tryd.prog 70 #[.pointer (some ⟨p, 0, none⟩)] w fun e w' => e = .returned (.bool false) ∧ Below w.heap.size w w' := by
  have HN := Lib.hid hn
  clear hn
  have HCH := Lib.hid h
  clear h
  go_enter Tryd.func70, Tryd.ntmps70
  go_upto_region 1 with (fail)
  obtain ⟨C, hC0, hCl, hCi, hCm⟩ := class_ch HCH.out
  have HC0 := Lib.hid hC0; have HL := Lib.hid hCl; have HCi := Lib.hid hCi; have HCm := Lib.hid hCm
  clear hC0 hCl hCi hCm
  refine wp_region_class C (by kernel_rfl) (by kernel_rfl) HC0.out ?_
  go_big_quiet_want
  go_big_quiet_op
  first | go_big_quiet_on | (refine ⟨_, fun _ _ => rfl, ?_⟩; go_big_quiet_on)
  go_big_quiet_want
  go_big_quiet_op
  first | go_big_quiet_on | (refine ⟨_, fun _ _ => rfl, ?_⟩; go_big_quiet_on)
  go_big_quiet_want
  go_big_quiet_op
  first | go_big_quiet_on | (refine ⟨_, fun _ _ => rfl, ?_⟩; go_big_quiet_on)
  go_big_quiet_want
  go_big_quiet_op
  first | go_big_quiet_on | (refine ⟨_, fun _ _ => rfl, ?_⟩; go_big_quiet_on)
  go_big_quiet_want
  refine quiet_run (v := .int .u64 m.ke) (fun v hv => by have hr := (HL.out v hv).r; obtain ⟨c0, c1, c2, c3, c4, c7, c13, c14, c15, c16, c17, c18⟩ := hr; go_simp) ?_
  simp only [Act.put, List.setIfInBounds_toArray, List.set_cons_zero, List.set_cons_succ]
  go_big_quiet_on
  go_big_quiet_want
  refine quiet_run (v := .bool false) (fun v hv => by have := HN.out; go_simp) ?_
  simp only [Act.put, List.setIfInBounds_toArray, List.set_cons_zero, List.set_cons_succ]
  go_big_quiet_on
  go_big_quiet_want
  go_big_quiet_op
  first | go_big_quiet_on | (refine ⟨_, fun _ _ => rfl, ?_⟩; go_big_quiet_on)
  go_big_quiet_skip
  go_big_quiet_skip
  go_big_quiet_skip
  go_big_quiet_skip
  go_big_quiet_skip
  go_big_quiet_skip
  go_big_quiet_skip
  go_big_quiet_skip
  go_big_quiet_skip
  go_big_quiet_skip
  go_big_quiet_skip
  go_big_quiet_skip
  go_big_quiet_skip
  go_big_quiet_skip
  go_big_quiet_skip
  go_big_quiet_skip
  go_big_quiet_want
  go_big_quiet_op
  first | go_big_quiet_on | (refine ⟨_, fun _ _ => rfl, ?_⟩; go_big_quiet_on)
  go_big_quiet_want
  go_big_quiet_op
  first | go_big_quiet_on | (refine ⟨_, fun _ _ => rfl, ?_⟩; go_big_quiet_on)

  intro w9 hC9
  have HB9 := Lib.hid (HCi.out w9 hC9)
  clear hC9
  go_wp2_with (fail)
  go_ret
  exact ⟨rfl, HB9.out⟩
set_option maxHeartbeats 1000000 in
theorem isRegd_key (w : World) (p : Nat) (A : Option Addr) (c : Nat) (t : Tl) (m : Cm) (B : Option Addr) (e : Nat) (es : List Ev) (h : ChAt w p A c t m B e es) (hn : (m.ke != 0) = true) (hm : t.rs.length ≤ maxLen) :
    Calls Tryd.prog 70 #[.pointer (some ⟨p, 0, none⟩)] w fun e w' => e = .returned (.bool (m.ke == keyR t.rs m.ho)) ∧ Below w.heap.size w w' := by
  have HN := Lib.hid hn
  clear hn
  have HCH := Lib.hid h
  clear h
  go_enter Tryd.func70, Tryd.ntmps70
  go_upto_region 1 with (fail)
  obtain ⟨C, hC0, hCl, hCi, hCm⟩ := class_ch HCH.out
  have HC0 := Lib.hid hC0; have HL := Lib.hid hCl; have HCi := Lib.hid hCi; have HCm := Lib.hid hCm
  clear hC0 hCl hCi hCm
  have HK := Lib.hid (fun v (hv : C v) => key_any A c t m.ho v (HL.out v hv).rgs hm)
  refine wp_region_class C (by kernel_rfl) (by kernel_rfl) HC0.out ?_
  go_big_quiet_want
  go_big_quiet_op
  first | go_big_quiet_on | (refine ⟨_, fun _ _ => rfl, ?_⟩; go_big_quiet_on)
  go_big_quiet_want
  go_big_quiet_op
  first | go_big_quiet_on | (refine ⟨_, fun _ _ => rfl, ?_⟩; go_big_quiet_on)
  go_big_quiet_want
  go_big_quiet_op
  first | go_big_quiet_on | (refine ⟨_, fun _ _ => rfl, ?_⟩; go_big_quiet_on)
  go_big_quiet_want
  go_big_quiet_op
  first | go_big_quiet_on | (refine ⟨_, fun _ _ => rfl, ?_⟩; go_big_quiet_on)
  go_big_quiet_want
  refine quiet_run (v := .int .u64 m.ke) (fun v hv => by have hr := (HL.out v hv).r; obtain ⟨c0, c1, c2, c3, c4, c7, c13, c14, c15, c16, c17, c18⟩ := hr; go_simp) ?_
  simp only [Act.put, List.setIfInBounds_toArray, List.set_cons_zero, List.set_cons_succ]
  go_big_quiet_on
  go_big_quiet_want
  refine quiet_run (v := .bool true) (fun v hv => by have := HN.out; go_simp) ?_
  simp only [Act.put, List.setIfInBounds_toArray, List.set_cons_zero, List.set_cons_succ]
  go_big_quiet_on
  go_big_quiet_want
  go_big_quiet_op
  first | go_big_quiet_on | (refine ⟨_, fun _ _ => rfl, ?_⟩; go_big_quiet_on)
  go_big_quiet_want
  go_big_quiet_op
  first | go_big_quiet_on | (refine ⟨_, fun _ _ => rfl, ?_⟩; go_big_quiet_on)
  go_big_quiet_want
  go_big_quiet_op
  first | go_big_quiet_on | (refine ⟨_, fun _ _ => rfl, ?_⟩; go_big_quiet_on)
  go_big_quiet_want
  go_big_quiet_op
  first | go_big_quiet_on | (refine ⟨_, fun _ _ => rfl, ?_⟩; go_big_quiet_on)
  go_big_quiet_want
  go_big_quiet_op
  first | go_big_quiet_on | (refine ⟨_, fun _ _ => rfl, ?_⟩; go_big_quiet_on)
  go_big_quiet_want
  refine quiet_run (v := .int .u64 m.ke) (fun v hv => by have hr := (HL.out v hv).r; obtain ⟨c0, c1, c2, c3, c4, c7, c13, c14, c15, c16, c17, c18⟩ := hr; go_simp) ?_
  simp only [Act.put, List.setIfInBounds_toArray, List.set_cons_zero, List.set_cons_succ]
  go_big_quiet_on
  go_big_quiet_want
  go_big_quiet_op
  first | go_big_quiet_on | (refine ⟨_, fun _ _ => rfl, ?_⟩; go_big_quiet_on)
  go_big_quiet_want
  go_big_quiet_op
  first | go_big_quiet_on | (refine ⟨_, fun _ _ => rfl, ?_⟩; go_big_quiet_on)
  go_big_quiet_want
  go_big_quiet_op
  first | go_big_quiet_on | (refine ⟨_, fun _ _ => rfl, ?_⟩; go_big_quiet_on)
  go_big_quiet_want
  refine quiet_run (v := tlV A c t) (fun v hv => by have hr := (HL.out v hv).r; obtain ⟨c0, c1, c2, c3, c4, c7, c13, c14, c15, c16, c17, c18⟩ := hr; go_simp) ?_
  simp only [Act.put, List.setIfInBounds_toArray, List.set_cons_zero, List.set_cons_succ]
  go_big_quiet_on
  go_big_quiet_want
  go_big_quiet_op
  first | go_big_quiet_on | (refine ⟨_, fun _ _ => rfl, ?_⟩; go_big_quiet_on)
  go_big_quiet_want
  go_big_quiet_op
  first | go_big_quiet_on | (refine ⟨_, fun _ _ => rfl, ?_⟩; go_big_quiet_on)
  go_big_quiet_want
  go_big_quiet_op
  first | go_big_quiet_on | (refine ⟨_, fun _ _ => rfl, ?_⟩; go_big_quiet_on)
  go_big_quiet_want
  go_big_quiet_op
  first | go_big_quiet_on | (refine ⟨_, fun _ _ => rfl, ?_⟩; go_big_quiet_on)
  go_big_quiet_want
  refine quiet_run (v := .string m.ho) (fun v hv => by have hr := (HL.out v hv).r; obtain ⟨c0, c1, c2, c3, c4, c7, c13, c14, c15, c16, c17, c18⟩ := hr; go_simp) ?_
  simp only [Act.put, List.setIfInBounds_toArray, List.set_cons_zero, List.set_cons_succ]
  go_big_quiet_on
  go_big_quiet_want
  refine quiet_call (f := 16) (args := #[tlV A c t, .string m.ho]) (fun v _ => by go_simp) (fun v hv => (HK.out v hv).mono (fun e w' h => ⟨h.1, HCm.out v w' hv h.2⟩)) ?_
  simp only [Act.put, List.setIfInBounds_toArray, List.set_cons_zero, List.set_cons_succ]
  go_big_quiet_on
  go_big_quiet_want
  refine quiet_run (v := .bool (m.ke == keyR t.rs m.ho)) (fun v hv => by rfl) ?_
  simp only [Act.put, List.setIfInBounds_toArray, List.set_cons_zero, List.set_cons_succ]
  go_big_quiet_on
  go_big_quiet_want
  go_big_quiet_op
  first | go_big_quiet_on | (refine ⟨_, fun _ _ => rfl, ?_⟩; go_big_quiet_on)
  go_big_quiet_want
  go_big_quiet_op
  first | go_big_quiet_on | (refine ⟨_, fun _ _ => rfl, ?_⟩; go_big_quiet_on)

  intro w9 hC9
  have HB9 := Lib.hid (HCi.out w9 hC9)
  clear hC9
  go_wp2_with (fail)
  go_ret
  exact ⟨rfl, HB9.out⟩
theorem isRegd_any (w : World) (p : Nat) (A : Option Addr) (c : Nat) (t : Tl) (m : Cm) (B : Option Addr) (e : Nat) (es : List Ev) (h : ChAt w p A c t m B e es) (hm : t.rs.length ≤ maxLen) :
    Calls Tryd.prog 70 #[.pointer (some ⟨p, 0, none⟩)] w fun e w' => e = .returned (.bool (regdB t m)) ∧ Below w.heap.size w w' := by
  cases hn : (m.ke != 0) with
  | false =>
    rw [show regdB t m = false by unfold regdB; rw [hn]; rfl]
    exact isRegd_zero w p A c t m B e es h hn
  | true =>
    rw [show regdB t m = (m.ke == keyR t.rs m.ho) by unfold regdB; rw [hn, Bool.true_and]]
    exact isRegd_key w p A c t m B e es h hn hm
end Go.Proofs.YtgekadfkokkapaaDoor
