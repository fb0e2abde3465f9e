/- The document's Forget. -/
import Derived.Test.YtacogfllnhopoaaUnV
namespace Go.Proofs.Ytacogfllnhopoaa
open Go.RowKit Go.Maps
/-- Of the first k what is ho's is forgotten, all else is as in f. -/
structure FgAt (f : PF) (ho : ByteArray) (k : Nat) (l : List Wt) : Prop where
  good : GoodL l
  done : ∀ j x, j < k → l[j]? = some x → x.ho = ho → x.zs = []
  rest : ∀ l' h', ¬ h' = ho → fq l l' h' = f l' h'
theorem FgAt.all {f : PF} {ho : ByteArray} {k : Nat} {l : List Wt} (h : FgAt f ho k l) (hk : l.length ≤ k) : fq l = forgetF f ho := by
  funext l' h'
  unfold forgetF
  split
  · rename_i hh
    subst hh
    rcases fq_cases h.good.once l' h' with ⟨x, hx, hi, e⟩ | ⟨_, e⟩
    · rw [e]
      obtain ⟨j, hj⟩ := List.getElem?_of_mem hx
      exact h.done j x (by have := (List.getElem?_eq_some_iff.1 hj).1; omega) hj hi.2
    · exact e
  · rename_i hh
    exact h.rest l' h' hh
set_option maxHeartbeats 1000000 in
theorem rforget_any {mb : Nat} (w : World) {G : Nat → Prop} {p : Nat} {f : PF} (h : RQ mb w G p f) (ho : ByteArray) :
    Calls Try.prog 13 #[.pointer (some ⟨p, 0, none⟩), .string ho] w fun e w' => e = .returned (.tuple #[]) ∧ RqOut mb G w p (forgetF f ho) w' := by
  obtain ⟨l0, h1, rfl, hg, hlb⟩ := h
  have HLB := Lib.hid hlb
  clear hlb
  have HQ := Lib.hid h1; have HF0 := Lib.hid (show FgAt (fq l0) ho 0 l0 from ⟨hg, fun j x hj => by omega, fun _ _ _ => rfl⟩); have HLN := Lib.hid h1.len
  clear h1 hg
  go_enter Try.func13, Try.ntmps13
  go_wp2
  go_loopw [4] (fun i wr => ∃ (k : Nat) (l : List Wt), i = .int .i64 (k : Int) ∧ Hid (k ≤ l.length ∧ l.length = l0.length ∧ FgAt (fq l0) ho k l ∧ Rq wr G p l ∧ Only G w wr)) (fun i _ => l0.length - (intOf i).toNat)
  case atStart => exact ⟨0, l0, rfl, Lib.hid ⟨by omega, rfl, HF0, HQ, Only.refl _ _⟩⟩
  case round =>
    obtain ⟨k, l, rfl, HR⟩ := hrel
    obtain ⟨A, c, hp, hr⟩ := HR.out.2.2.2.1.row
    by_cases hlt : k < l.length
    · have hki : (k : Int) < (l.length : Int) := by omega
      obtain ⟨x, hx⟩ : ∃ x, l[k]? = some x := ⟨_, List.getElem?_eq_getElem hlt⟩
      obtain ⟨g, rfl, _, c0, c1, c2, f2, _⟩ := hr k x hx
      have hwr : IntKind.i64.wrap ((k : Int) + 1) = (k : Int) + 1 := IntWalk.i64_in _ (by have := HLN.out; have := HR.out.2.1; omega)
      have HX := Lib.hid hx; have HK := Lib.hid hlt; have HP := Lib.hid hp
      clear hr hx hlt c0
      by_cases h2 : x.ho = ho
      · have e2 : x.ho.toList = ho.toList := by rw [h2]
        have HPUT := Lib.hid (HR.out.2.2.2.1.put (y := ⟨x.lu, x.ho, [], none, 0⟩) HX rfl rfl ⟨Nat.le_refl _, fun hn => by simp at hn⟩ rfl HP)
        have HNX : Hid (FgAt (fq l0) ho (k + 1) (l.set k ⟨x.lu, x.ho, [], none, 0⟩)) := by
          have hf := HR.out.2.2.1
          have hg := hf.good.set (y := ⟨x.lu, x.ho, [], none, 0⟩) HX rfl rfl (by simp)
          refine ⟨hg, fun j z hj hz hzo => ?_, fun l' h' hh => ?_⟩
          · rw [List.getElem?_set] at hz
            split at hz
            · split at hz
              · cases hz; rfl
              · cases hz
            · rename_i hne
              exact hf.done j z (by omega) hz hzo
          · rw [fq_set (y := ⟨x.lu, x.ho, [], none, 0⟩) hf.good HX ⟨rfl, rfl⟩ rfl rfl, upd_other (fun e => hh (e.2.trans h2))]
            exact hf.rest l' h' hh
        clear h2
        go_wp2
        go_roundw
        case rel => exact ⟨k + 1, l.set k ⟨x.lu, x.ho, [], none, 0⟩, by go_num, Lib.hid ⟨by rw [List.length_set]; exact HK, by rw [List.length_set]; exact HR.out.2.1, HNX, HPUT.out.1, HR.out.2.2.2.2.trans HPUT.out.2 (fun i hi => .inl hi)⟩⟩
        case measure => simp [intOf]; have := HK.out; have := HR.out.2.1; omega
      · have e2 : ¬ x.ho.toList = ho.toList := fun hh => h2 (bytes_ext hh)
        have e3 : (x.ho.toList == ho.toList) = false := by simpa using e2
        have HNX : Hid (FgAt (fq l0) ho (k + 1) l) := ⟨HR.out.2.2.1.good, fun j z hj hz hzo => by
          rcases Nat.lt_succ_iff_lt_or_eq.1 hj with h | rfl
          · exact HR.out.2.2.1.done j z h hz hzo
          · rw [HX.out] at hz; cases hz; exact absurd hzo h2, HR.out.2.2.1.rest⟩
        clear h2
        go_wp2
        go_roundw
        case rel => exact ⟨k + 1, l, by go_num, Lib.hid ⟨HK, HR.out.2.1, HNX, HR.out.2.2.2⟩⟩
        case measure => simp [intOf]; have := HK.out; have := HR.out.2.1; omega
    · have hkk : k = l.length := by have := HR.out.1; omega
      subst hkk
      clear hr
      go_wp2
      go_end0
      exact ⟨rfl, HR.out.2.2.2.2, G, ⟨l, HR.out.2.2.2.1, HR.out.2.2.1.all (Nat.le_refl _), HR.out.2.2.1.good, Nat.le_trans (Nat.le_of_eq HR.out.2.1) HLB.out⟩, fun _ h => .inl h⟩
end Go.Proofs.Ytacogfllnhopoaa
