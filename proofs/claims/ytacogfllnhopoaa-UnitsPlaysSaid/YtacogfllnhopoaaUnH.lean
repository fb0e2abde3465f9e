/- Add, whatever it is asked; New; a Units that nobody made. -/
import Derived.Test.YtacogfllnhopoaaUnF
import Derived.Test.YtacogfllnhopoaaUnG
namespace Go.Proofs.Ytacogfllnhopoaa
open Go.RowKit Go.Maps
theorem addB_no {f : PF} {l : Int} {h : ByteArray} {x : Int} (hb : addB f l h x = false) : addF f l h x = f := by unfold addF; rw [if_neg (by rw [hb]; simp)]
theorem addB_yes {f : PF} {l : Int} {h : ByteArray} {x : Int} (hb : addB f l h x = true) : addF f l h x = upd f l h (push8 (f l h) x) := by unfold addF; rw [if_pos hb]
theorem add_any (w : World) {F : Nat → Prop} {p : Nat} {f : PF} (hU : Un w F p f) (l : Int) (h : ByteArray) (x : Int) (hk : IsKv (kv l h)) (hs : h.size ≤ maxLen) :
    Calls Try.prog 8 #[.pointer (some ⟨p, 0, none⟩), .int .i64 l, .string h, .int .i64 x] w fun e w' => e = .returned (.bool (addB f l h x)) ∧ UnOut F w p (addF f l h x) w' := by
  cases hl : (decide (0 ≤ l) && decide (l < 8)) with
  | false =>
    have hb : addB f l h x = false := by unfold addB; rw [hl]; simp
    rw [hb, addB_no hb]
    exact (add_lun w p l h x hl).mono fun e w' ⟨h1, h2⟩ => ⟨h1, hU.out h2⟩
  | true =>
    cases hn : nameB h with
    | false =>
      have hb : addB f l h x = false := by unfold addB; rw [hn]; simp
      rw [hb, addB_no hb]
      exact (add_name w p l h x hl hs hn).mono fun e w' ⟨h1, h2⟩ => ⟨h1, hU.out h2⟩
    | true =>
      cases hx : (decide (1 ≤ x) && decide (x ≤ 4)) with
      | false =>
        have hb : addB f l h x = false := by unfold addB; rw [hx]; simp
        rw [hb, addB_no hb]
        exact (add_why w p l h x hl hs hn hx).mono fun e w' ⟨h1, h2⟩ => ⟨h1, hU.out h2⟩
      | true =>
        have hbb : addB f l h x = decide ((f l h).getLast? ≠ some x) := by unfold addB; rw [hl, hn, hx]; rfl
        have hU' := hU
        obtain ⟨b, h1, h2, h3, h4, ⟨es, clock, hm, he, hc, ha⟩, h6⟩ := hU
        obtain ⟨A, n, c, hnl, hrow, hent, hlook, hpos⟩ := find_row he hc hk
        have h8 : n ≤ 8 := by
          by_cases h0 : f l h = []
          · rw [hnl, h0]; simp
          · rw [hnl]; exact (h6 l h h0).2.2.2
        rcases Nat.eq_zero_or_pos n with h0 | h0
        · have hz : f l h = [] := List.length_eq_zero_iff.1 (by omega)
          have hb : addB f l h x = true := by rw [hbb, hz]; simp
          rw [hb, addB_yes hb]
          exact add_first w h1 h2 h3 h4 hm he hc ha h6 l h x hl hs hk hn hx A n c _ hrow hent hlook h0 hz
        · obtain ⟨g, rfl, _, _⟩ := hpos h0
          by_cases hla : (f l h).getLast? = some x
          · have hb : addB f l h x = false := by rw [hbb, hla]; simp
            rw [hb, addB_no hb]
            exact (add_same w h1 h2 h3 h4 hm he hc ha h6 l h x hl hs hn hx g n c _ hrow hent hlook h0 h8 hla).mono fun e w' ⟨k1, k2⟩ => ⟨k1, hU'.out k2⟩
          · have hb : addB f l h x = true := by rw [hbb]; simpa using hla
            rw [hb, addB_yes hb]
            by_cases h7 : n ≤ 7
            · exact add_more w h1 h2 h3 h4 hm he hc ha h6 l h x hl hs hk hn hx g n c _ hrow hent hlook h0 h7 hla
            · obtain rfl : n = 8 := by omega
              exact add_full w h1 h2 h3 h4 hm he hc ha h6 l h x hl hs hk hn hx g c _ hrow hent hlook hnl.symm hla
def noF : PF := fun _ _ => []
theorem new_any (w : World) : Calls Try.prog 7 #[] w fun e w' => ∃ p, e = .returned (.pointer (some ⟨p, 0, none⟩)) ∧ w.heap.size ≤ p ∧ Below w.heap.size w w' ∧ ∃ F, Un w' F p noF ∧ ∀ k, F k → w.heap.size ≤ k := by
  have hmm := @run_makeMap Try.prog
  go_enter Try.func7, Try.ntmps7
  go_wp2
  go_ret
  have h1 := Mp.new w
  have h2 := Blk.new (w.alloc (.map #[] 0)) 49 #[.map (some w.heap.size)]
  have hsz : ((w.alloc (.map #[] 0)).alloc (.cells #[.map (some w.heap.size)] 49)).heap.size = w.heap.size + 2 := by simp
  have hs1 : (w.alloc (.map #[] 0)).heap.size = w.heap.size + 1 := by simp
  refine ⟨w.heap.size + 1, rfl, by omega, ((Below.refl _ w).alloc (Nat.le_refl _) _).alloc (by simp) _, fun k => k = w.heap.size ∨ k = w.heap.size + 1, ⟨w.heap.size, hs1 ▸ h2, .inr rfl, .inl rfl, fun k hk => by rw [hsz]; omega, ⟨#[], 0, h1.keep (Below.heap_alloc _ _ _ (by rw [hs1]; omega)), by simp, fun l h hn => absurd rfl hn, by simp⟩, fun l h hn => absurd rfl hn⟩, fun k hk => by omega⟩
theorem take_nil (w : World) (l : Int) (h : ByteArray) : Calls Try.prog 10 #[.pointer none, .int .i64 l, .string h] w fun e w' => e = .returned (.tuple #[.int .i64 0, .bool false]) ∧ w = w' := by
  go_enter Try.func10, Try.ntmps10
  go_wp2_with (go_at_call 14; refine (wait_nil _ _ _).mono ?_; rintro e w1 ⟨rfl, rfl⟩)
  go_ret2
  exact ⟨rfl, rfl⟩
theorem forget_nil (w : World) (h : ByteArray) : Calls Try.prog 12 #[.pointer none, .string h] w fun e w' => e = .returned (.tuple #[]) ∧ w = w' := by
  go_enter Try.func12, Try.ntmps12
  go_wp2
  refine bodyPost_ret (results_none rfl _ _ _) rfl ?_
  exact ⟨rfl, rfl⟩
theorem hosts_nil (w : World) (l : Int) : Calls Try.prog 17 #[.pointer none, .int .i64 l] w fun e w' => e = .returned (.slice none 0 0) ∧ w = w' := by
  go_enter Try.func17, Try.ntmps17
  go_wp2
  go_ret
  exact ⟨rfl, rfl⟩
end Go.Proofs.Ytacogfllnhopoaa
