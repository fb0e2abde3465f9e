/- What a change makes of good tables: they stay good; who is told; what is not good changes nothing. -/
import Derived.Test.YtgekadfkokkapaaDoorReMa
namespace Go.Proofs.YtgekadfkokkapaaDoor
open Go.RowKit
theorem told_mem {y : Int} {q : Rg → Bool} {l : List Rg} {ev : Ev} (h : ev ∈ told y q l) : ∃ r ∈ l, q r = true ∧ ev.h = r.h := by
  unfold told at h
  obtain ⟨r, hr, rfl⟩ := List.mem_map.1 h
  obtain ⟨h1, h2⟩ := List.mem_filter.1 hr
  exact ⟨r, h1, h2, rfl⟩
theorem outR_erase (l : List Rg) (h : ByteArray) : outR l h = l.eraseIdx (l.findIdx (isH h)) := by
  unfold outR
  rw [List.eraseIdx_eq_take_drop_succ]
theorem outR_sub (l : List Rg) (h : ByteArray) : (outR l h).Sublist l := by
  rw [outR_erase]
  exact List.eraseIdx_sublist ..
theorem outR_mem {l : List Rg} {h : ByteArray} {x : Rg} (hx : x ∈ l) (hn : x.h ≠ h) : x ∈ outR l h := by
  rw [outR_erase, List.mem_eraseIdx_iff_getElem?]
  obtain ⟨i, hi, rfl⟩ := List.getElem_of_mem hx
  refine ⟨i, fun e => ?_, List.getElem?_eq_getElem hi⟩
  have hlt : l.findIdx (isH h) < l.length := by rw [← e]; exact hi
  have := List.findIdx_getElem (p := isH h) (w := hlt)
  have h2 := eqS_iff.1 this
  apply hn
  rw [← h2]
  congr 1
  subst e
  rfl
theorem pos_of_reg {l : List Rg} {h : ByteArray} (hr : regB l h = true) : 0 < l.length := by
  obtain ⟨x, hx, _⟩ := regB_iff.1 hr
  exact List.length_pos_of_mem hx
theorem sh_of {n : Int} (ht : typeB n = true) (hs : ¬ shB n = true) : 1 ≤ n ∧ n ≤ 4 := by
  have h1 := type_iff.1 ht
  have h2 : ¬ (n = 5 ∨ n = 6) := fun h => hs (sh_iff.2 h)
  omega
theorem hold_good {t : Tl} {m : Cm} (hg : RegsP t.rs) (ht : typeB m.ty = true) (hr : regB t.rs m.ho = true) : GoodP (holdT t m) := by
  refine ⟨hg, ?_⟩
  show HoldP { t with ty := m.ty, ho := if shB m.ty then ⟨#[]⟩ else m.ho }
  by_cases hs : shB m.ty = true
  · exact .inr (.inl ⟨sh_iff.1 hs, by show (if shB m.ty then _ else _) = _; rw [if_pos hs], pos_of_reg hr⟩)
  · exact .inr (.inr ⟨sh_of ht hs, by show regB t.rs (if shB m.ty then _ else _) = true; rw [if_neg hs]; exact hr⟩)
theorem end_good {t : Tl} (hg : RegsP t.rs) : GoodP (endT t) := ⟨hg, .inl ⟨rfl, rfl⟩⟩
theorem setAp_good {t : Tl} {m : Cm} (hg : GoodP t) : GoodP (setAp t m) := ⟨hg.toRegsP, hg.hold⟩
theorem unreg_good {t : Tl} {m : Cm} (hg : GoodP t) : GoodP (unregT t m) := by
  unfold unregT
  by_cases hr : regB t.rs m.ho = true
  · rw [if_pos hr]
    have hR : RegsP (unT t m).rs := hg.toRegsP.sub (outR_sub _ _)
    by_cases hl : lastB t m = true
    · rw [if_pos hl]; exact end_good hR
    · rw [if_neg hl]
      have hl' : lastB t m = false := by simpa using hl
      unfold lastB at hl'
      rw [Bool.or_eq_false_iff] at hl'
      have h1 := eqS_no.1 hl'.1
      have h2 := of_decide_eq_false hl'.2
      refine ⟨hR, ?_⟩
      rcases hg.hold with h | ⟨ha, hb, _⟩ | ⟨ha, hb⟩
      · exact .inl h
      · exact .inr (.inl ⟨ha, hb, by omega⟩)
      · obtain ⟨x, hx, he⟩ := regB_iff.1 hb
        exact .inr (.inr ⟨ha, regB_iff.2 ⟨x, outR_mem hx (by rw [he]; exact h1), he⟩⟩)
  · rw [if_neg hr]; exact hg
theorem keyed_hosts (l : List Rg) (h : ByteArray) (k : Int) : (keyed l h k).map (·.h) = l.map (·.h) := by
  unfold keyed
  rw [List.map_set]
  apply List.ext_getElem?
  intro j
  by_cases hj : l.findIdx (isH h) = j
  · subst hj
    by_cases hlt : l.findIdx (isH h) < l.length
    · rw [List.getElem?_set_self (by rw [List.length_map]; exact hlt), List.getElem?_map, List.getElem?_eq_getElem hlt]
      simp [List.getD, List.getElem?_eq_getElem hlt]
    · rw [List.getElem?_eq_none (by rw [List.length_set, List.length_map]; omega), List.getElem?_eq_none (by rw [List.length_map]; omega)]
  · rw [List.getElem?_set_ne hj]
theorem once_hosts {l : List Rg} : Once l ↔ (l.map (·.h)).Pairwise (· ≠ ·) := by rw [List.pairwise_map]
theorem regB_hosts {l l' : List Rg} (e : l.map (·.h) = l'.map (·.h)) (h : ByteArray) (hr : regB l h = true) : regB l' h = true := by
  obtain ⟨x, hx, he⟩ := regB_iff.1 hr
  have : x.h ∈ l'.map (·.h) := by rw [← e]; exact List.mem_map_of_mem hx
  obtain ⟨y, hy, hz⟩ := List.mem_map.1 this
  exact regB_iff.2 ⟨y, hy, hz.trans he⟩
theorem key_good {t : Tl} {m : Cm} (hg : GoodP t) (hk : m.nk ≠ 0) : GoodP (keyT t m) := by
  have e := keyed_hosts t.rs m.ho m.nk
  have hl : (keyed t.rs m.ho m.nk).length = t.rs.length := by unfold keyed; rw [List.length_set]
  refine ⟨⟨by show (keyed t.rs m.ho m.nk).length ≤ 16; rw [hl]; exact hg.len, fun x hx => ?_, fun x hx => ?_, ?_⟩, ?_⟩
  · have : x.h ∈ t.rs.map (·.h) := by rw [← e]; exact List.mem_map_of_mem hx
    obtain ⟨y, hy, hz⟩ := List.mem_map.1 this
    rw [← hz]; exact hg.nm y hy
  · have hx' : x ∈ keyed t.rs m.ho m.nk := hx
    unfold keyed at hx'
    rcases List.mem_or_eq_of_mem_set hx' with q | q
    · exact hg.ky x q
    · rw [q]; exact hk
  · apply once_hosts.2
    show ((keyed t.rs m.ho m.nk).map (·.h)).Pairwise _
    rw [e]
    exact once_hosts.1 hg.un
  · rcases hg.hold with h | ⟨ha, hb, hc⟩ | ⟨ha, hb⟩
    · exact .inl h
    · exact .inr (.inl ⟨ha, hb, by show 0 < (keyed t.rs m.ho m.nk).length; rw [hl]; exact hc⟩)
    · exact .inr (.inr ⟨ha, regB_hosts e.symm _ hb⟩)
theorem new_good {t : Tl} {m : Cm} (hg : GoodP t) (hk : m.nk ≠ 0) (hn : nameB m.ho = true) (hr : regB t.rs m.ho = false) (h16 : t.rs.length ≠ 16) : GoodP (newT t m) := by
  have h1 := hg.len
  refine ⟨⟨by show (t.rs ++ [(⟨m.ho, m.nk⟩ : Rg)]).length ≤ 16; rw [List.length_append]; simp; omega, fun x hx => ?_, fun x hx => ?_, ?_⟩, ?_⟩
  · rcases List.mem_append.1 hx with q | q
    · exact hg.nm x q
    · obtain rfl := List.mem_singleton.1 q; exact hn
  · rcases List.mem_append.1 hx with q | q
    · exact hg.ky x q
    · obtain rfl := List.mem_singleton.1 q; exact hk
  · show (t.rs ++ [(⟨m.ho, m.nk⟩ : Rg)]).Pairwise _
    refine List.pairwise_append.2 ⟨hg.un, List.pairwise_singleton .., fun a ha b hb => ?_⟩
    obtain rfl := List.mem_singleton.1 hb
    exact regB_no.1 hr a ha
  · rcases hg.hold with h | ⟨ha, hb, _⟩ | ⟨ha, hb⟩
    · exact .inl h
    · exact .inr (.inl ⟨ha, hb, by show 0 < (t.rs ++ [_]).length; rw [List.length_append]; simp⟩)
    · obtain ⟨x, hx, he⟩ := regB_iff.1 hb
      exact .inr (.inr ⟨ha, regB_iff.2 ⟨x, List.mem_append_left _ hx, he⟩⟩)
theorem reg_good {t : Tl} {m : Cm} (hg : GoodP t) (hn : nameB m.ho = true) : GoodP (regT t m) := by
  unfold regT
  split
  · exact hg
  · split
    · exact setAp_good (unreg_good hg)
    · rename_i hk
      split
      · exact setAp_good (key_good hg hk)
      · rename_i hr
        split
        · exact hg
        · rename_i h16
          exact setAp_good (new_good hg hk hn (by simpa using hr) h16)
theorem resv_good {t : Tl} {m : Cm} (hg : GoodP t) : GoodP (resvT t m) := by
  unfold resvT
  split
  · exact hg
  · rename_i ht
    split
    · exact hg
    · rename_i hr
      split
      · exact hold_good hg.toRegsP (by simpa using ht) (regd_reg (by simpa using hr))
      · exact hg
theorem rel_good {t : Tl} {m : Cm} (hg : GoodP t) : GoodP (relT t m) := by
  unfold relT
  split
  · exact end_good hg.toRegsP
  · exact hg
theorem clr_good {t : Tl} : GoodP (clrT t) := ⟨⟨Nat.zero_le _, (fun x hx => by cases hx), (fun x hx => by cases hx), List.Pairwise.nil⟩, .inl ⟨rfl, rfl⟩⟩
theorem clear_good {t : Tl} {m : Cm} (hg : GoodP t) : GoodP (clearT t m) := by
  unfold clearT
  split
  · exact clr_good
  · exact hg
theorem stays_own {t : Tl} {m : Cm} (hr : regB t.rs m.ho = true) : regB (leftT t m).rs m.ho = true := by
  obtain ⟨x, hx, he⟩ := regB_iff.1 hr
  refine regB_iff.2 ⟨x, List.mem_filter.2 ⟨hx, ?_⟩, he⟩
  show (!(!eqS x.h m.ho && _)) = true
  rw [show eqS x.h m.ho = true from eqS_iff.2 he]
  rfl
theorem left_good {t : Tl} {m : Cm} (hg : GoodP t) (hr : regB t.rs m.ho = true) (hk : takesB t m = false) : GoodP (leftT t m) := by
  refine ⟨hg.toRegsP.sub List.filter_sublist, ?_⟩
  rcases hg.hold with h | ⟨ha, hb, _⟩ | ⟨ha, hb⟩
  · exact .inl h
  · exact .inr (.inl ⟨ha, hb, pos_of_reg (stays_own hr)⟩)
  · refine .inr (.inr ⟨ha, ?_⟩)
    have hs : ¬ shB t.ty = true := fun h => by have := sh_iff.1 h; omega
    unfold takesB at hk
    rw [if_neg (by omega), if_neg hs] at hk
    have hk' := of_decide_eq_false hk
    obtain ⟨x, hx, he⟩ := regB_iff.1 hb
    have hxk : x.k ≠ m.ot := fun e => hk' (by rw [← e, ← he]; exact keyR_of hg.un hx)
    refine regB_iff.2 ⟨x, List.mem_filter.2 ⟨hx, ?_⟩, he⟩
    show (!(!eqS x.h m.ho && (decide (x.k = m.ot) || (decide (m.ot = 0) && shB t.ty)))) = true
    rw [decide_eq_false hxk, show shB t.ty = false by simpa using hs]
    simp
theorem pre_reg {t : Tl} {m : Cm} (hc : preCode t m = 1) : typeB m.ty = true ∧ regdB t m = true := by
  unfold preCode at hc
  cases h1 : typeB m.ty with
  | false => rw [h1, if_pos rfl] at hc; exact absurd hc (by decide)
  | true =>
    cases h2 : regdB t m with
    | false => rw [h1, h2, if_neg (by decide), if_pos rfl] at hc; exact absurd hc (by decide)
    | true => exact ⟨rfl, rfl⟩
theorem pre_good {t : Tl} {m : Cm} (hg : GoodP t) : GoodP (preT t m) := by
  unfold preT
  split
  · rename_i hc
    obtain ⟨h1, h2⟩ := pre_reg hc
    have hr := regd_reg h2
    split
    · exact hold_good (hg.toRegsP.sub List.filter_sublist) h1 (stays_own hr)
    · rename_i hk
      exact left_good hg hr (by simpa using hk)
  · exact hg
theorem do_good {t : Tl} {m : Cm} (hg : GoodP t) : GoodP (doT t m) := by
  unfold doT
  split
  · rename_i h
    have hn := (doG_iff.1 h).2.2
    split
    · exact reg_good hg hn
    split
    · exact resv_good hg
    split
    · exact rel_good hg
    split
    · exact clear_good hg
    · exact pre_good hg
  · exact hg
theorem do_gen (t : Tl) (m : Cm) : (doT t m).ge = t.ge ∨ (doT t m).ge = incG t.ge := by
  unfold doT
  split
  · split
    · unfold regT
      split
      · exact .inl rfl
      · split
        · show (unregT t m).ge = _ ∨ _
          unfold unregT
          split
          · split <;> exact .inr rfl
          · exact .inl rfl
        · split
          · exact .inr rfl
          · split
            · exact .inl rfl
            · exact .inr rfl
    split
    · unfold resvT
      split
      · exact .inl rfl
      · split
        · exact .inl rfl
        · split <;> exact .inl rfl
    split
    · unfold relT
      split <;> exact .inl rfl
    split
    · unfold clearT
      split
      · exact .inr rfl
      · exact .inl rfl
    · unfold preT
      split
      · split <;> exact .inr rfl
      · exact .inl rfl
  · exact .inl rfl
theorem do_told {t : Tl} {m : Cm} {ev : Ev} (h : ev ∈ doE t m) : GoodP t ∧ ev.h ≠ m.ho ∧ regB t.rs ev.h = true := by
  unfold doE at h
  split at h
  · rename_i hd
    refine ⟨(doG_iff.1 hd).2.1, ?_⟩
    have key : ∀ (y : Int) (q : Rg → Bool) (l : List Rg), (∀ r, q r = true → eqS r.h m.ho = false) → (∀ r ∈ l, r ∈ t.rs) → ev ∈ told y q l → ev.h ≠ m.ho ∧ regB t.rs ev.h = true := by
      intro y q l hq hl hm
      obtain ⟨r, hr, h1, h2⟩ := told_mem hm
      exact ⟨by rw [h2]; exact eqS_no.1 (hq r h1), regB_iff.2 ⟨r, hl r hr, h2.symm⟩⟩
    have hO : ∀ r, isO m r = true → eqS r.h m.ho = false := fun r hr => by
      have : (!eqS r.h m.ho) = true := hr
      simpa using this
    have hR : ∀ r, isR t m r = true → eqS r.h m.ho = false := fun r hr => by
      have : (!eqS r.h m.ho && _) = true := hr
      rw [Bool.and_eq_true] at this
      simpa using this.1
    split at h
    · unfold regE at h
      split at h
      · cases h
      · split at h
        · unfold unregE endE at h
          split at h
          · split at h
            · cases h
            · rw [List.nil_append] at h
              exact key 3 _ _ hO (fun r hr => (outR_sub t.rs m.ho).subset hr) h
          · cases h
        · cases h
    split at h
    · cases h
    split at h
    · unfold relE endE at h
      split at h
      · split at h
        · cases h
        · rw [List.nil_append] at h
          exact key 3 _ _ hO (fun r hr => hr) h
      · cases h
    split at h
    · unfold clearE at h
      split at h
      · rw [List.nil_append] at h
        exact key 4 _ _ hO (fun r hr => hr) h
      · cases h
    · unfold preE at h
      split at h
      · rw [List.nil_append] at h
        exact key 2 _ _ hR (fun r hr => hr) h
      · cases h
  · cases h
theorem do_not {t : Tl} {m : Cm} (h : doC t m ≠ 1) : doT t m = t ∧ doE t m = [] := by
  unfold doC at h
  unfold doT doE
  by_cases hd : doG t m = true
  · rw [if_pos hd] at h
    rw [if_pos hd, if_pos hd]
    by_cases h8 : m.op = 8
    · rw [if_pos h8] at h
      rw [if_pos h8, if_pos h8]
      unfold regCode at h
      unfold regT regE
      split at h
      · rename_i hc
        rw [if_pos hc, if_pos hc]
        exact ⟨rfl, rfl⟩
      · rename_i hc
        split at h
        · exact absurd rfl h
        · rename_i hk
          split at h
          · exact absurd rfl h
          · rename_i hr
            split at h
            · rename_i h16
              rw [if_neg hc, if_neg hk, if_neg hr, if_pos h16, if_neg hc, if_neg hk]
              exact ⟨rfl, rfl⟩
            · exact absurd rfl h
    rw [if_neg h8] at h
    rw [if_neg h8, if_neg h8]
    by_cases h9 : m.op = 9
    · rw [if_pos h9] at h
      rw [if_pos h9, if_pos h9]
      refine ⟨?_, rfl⟩
      unfold resvCode at h
      unfold resvT
      split at h
      · rename_i hc; rw [if_pos hc]
      · rename_i hc
        split at h
        · rename_i hr; rw [if_neg hc, if_pos hr]
        · rename_i hr
          split at h
          · exact absurd rfl h
          · rename_i hz; rw [if_neg hc, if_neg hr, if_neg hz]
    rw [if_neg h9] at h
    rw [if_neg h9, if_neg h9]
    by_cases h10 : m.op = 10
    · rw [if_pos h10] at h
      rw [if_pos h10, if_pos h10]
      have hb : relB t m = false := by
        unfold relCode at h
        unfold relB
        split at h
        · rename_i hc; rw [hc, Bool.false_and]
        · split at h
          · exact absurd rfl h
          · split at h
            · rename_i hq
              have : (m.ty == t.ty) = false := by simpa [bne] using hq
              rw [this, Bool.and_false, Bool.and_false]
            · exact absurd rfl h
      unfold relT relE
      rw [hb]
      exact ⟨rfl, rfl⟩
    rw [if_neg h10] at h
    rw [if_neg h10, if_neg h10]
    by_cases h11 : m.op = 11
    · rw [if_pos h11] at h
      rw [if_pos h11, if_pos h11]
      unfold clearCode at h
      unfold clearT clearE
      split at h
      · exact absurd rfl h
      · rename_i hc; rw [if_neg hc, if_neg hc]; exact ⟨rfl, rfl⟩
    rw [if_neg h11] at h
    rw [if_neg h11, if_neg h11]
    unfold preT preE
    rw [if_neg h, if_neg h]
    exact ⟨rfl, rfl⟩
  · rw [if_neg hd, if_neg hd]
    exact ⟨rfl, rfl⟩
theorem do_yes {t : Tl} {m : Cm} (h : doC t m = 1) : doG t m = true := by
  cases hd : doG t m with
  | true => rfl
  | false =>
    unfold doC at h
    rw [hd, if_neg (by decide)] at h
    exact absurd h (by decide)
theorem do_fence {t : Tl} {m : Cm} (hk : keyR t.rs m.ho = 0) (h8 : m.op ≠ 8) : doC t m ≠ 1 := by
  have hr : regdB t m = false := by
    cases h0 : regdB t m with
    | false => rfl
    | true =>
      obtain ⟨a, b⟩ := regd_iff.1 h0
      rw [hk] at b
      exact absurd b a
  unfold doC
  by_cases hd : doG t m = true
  · rw [if_pos hd, if_neg h8]
    split
    · unfold resvCode
      split
      · decide
      · first | decide | (rw [if_pos hr]; decide)
    split
    · unfold relCode
      first | decide | (rw [if_pos hr]; decide)
    split
    · unfold clearCode
      first | decide | (rw [hr]; decide)
    · unfold preCode
      split
      · decide
      · first | decide | (rw [if_pos hr]; decide)
  · rw [if_neg hd]; decide
theorem others_length {l : List Rg} (hu : Once l) {h : ByteArray} (hr : regB l h = true) : (l.filter (fun r => !eqS r.h h)).length + 1 = l.length := by
  induction l with
  | nil => cases hr
  | cons x l ih =>
    have hp := List.pairwise_cons.1 hu
    by_cases he : x.h = h
    · rw [List.filter_cons_of_neg (by rw [eqS_iff.2 he]; decide)]
      have : l.filter (fun r => !eqS r.h h) = l := by
        rw [List.filter_eq_self]
        intro y hy
        have : y.h ≠ h := fun e => hp.1 y hy (by rw [he, e])
        rw [eqS_no.2 this]; rfl
      rw [this]
      simp
    · rw [List.filter_cons_of_pos (by rw [eqS_no.2 he]; rfl)]
      have hr' : regB l h = true := by
        obtain ⟨y, hy, hz⟩ := regB_iff.1 hr
        rcases List.mem_cons.1 hy with rfl | hy
        · exact absurd hz he
        · exact regB_iff.2 ⟨y, hy, hz⟩
      have := ih hp.2 hr'
      simp
      omega
end Go.Proofs.YtgekadfkokkapaaDoor
