/- What the code's table finds is what an outcome is told by, and what is told. -/
import Derived.Test.YthcaeihpdlgcaaaDoorSnP
namespace Go.Proofs.YthcaeihpdlgcaaaDoor
open Go.RowKit
/-- The row of an outcome: its own, or that of what is no outcome. -/
def rowO (c t u : Int) : Rw := (rwT.find? (oB c t u)).getD (rwI 6)
theorem fit32 (t : Int) : fitB t 32 = decide (0 ≤ t ∧ t < 4294967296) := rfl
theorem of_row (c t u : Int) : ofX c t u = ((rowO c t u).s, senR (rowO c t u) t) := by
  unfold rowO ofX
  by_cases h1 : c = 1
  · subst h1
    rw [if_pos rfl, find_yes (k := 0) (by decide) rfl (fun j hj => absurd hj (by omega))]; rfl
  rw [if_neg h1]
  by_cases h2 : c = 2
  · subst h2
    rw [if_pos rfl]; rfl
  rw [if_neg h2]
  by_cases h3 : c = 3
  · subst h3
    by_cases h : 0 ≤ t ∧ t < 4294967296
    · rw [if_pos ⟨rfl, h⟩]
      have hf : fitB t 32 = true := by rw [fit32]; exact decide_eq_true h
      have hr : rwT.find? (oB 3 t u) = some (rwI 2) := find_yes (k := 2) (by decide) (by show (true && true && (false || fitB t 32)) = true; rw [hf]; rfl) (fun j hj => by
        have : j = 0 ∨ j = 1 := by omega
        rcases this with rfl | rfl <;> rfl)
      rw [hr]; rfl
    · rw [if_neg (fun q => h q.2)]
      have hf : fitB t 32 = false := by rw [fit32]; exact decide_eq_false h
      have hr : rwT.find? (oB 3 t u) = none := find_no (fun j hj => by
        by_cases hj2 : j = 2
        · subst hj2; show (true && true && (false || fitB t 32)) = false; rw [hf]; rfl
        · have : j = 0 ∨ j = 1 ∨ j = 3 ∨ j = 4 ∨ j = 5 ∨ j = 6 ∨ j = 7 ∨ j = 8 ∨ j = 9 ∨ j = 10 := by omega
          rcases this with rfl | rfl | rfl | rfl | rfl | rfl | rfl | rfl | rfl | rfl <;> rfl)
      rw [hr]; rfl
  rw [if_neg (fun q => h3 q.1)]
  by_cases h4 : c = 4
  · subst h4
    rw [if_pos rfl]; rfl
  rw [if_neg h4]
  by_cases h5 : c = 5
  · subst h5
    rw [if_pos rfl]; rfl
  rw [if_neg h5]
  by_cases h6 : c = 6
  · subst h6
    rw [if_pos rfl]; rfl
  rw [if_neg h6]
  by_cases h7 : c = 7
  · subst h7
    by_cases u1 : u = 1
    · subst u1; rw [if_pos ⟨rfl, rfl⟩]; rfl
    rw [if_neg (fun q => u1 q.2)]
    by_cases u2 : u = 2
    · subst u2; rw [if_pos ⟨rfl, rfl⟩]; rfl
    rw [if_neg (fun q => u2 q.2)]
    by_cases u3 : u = 3
    · subst u3; rw [if_pos ⟨rfl, rfl⟩]; rfl
    rw [if_neg (fun q => u3 q.2)]
    by_cases u4 : u = 4
    · subst u4; rw [if_pos ⟨rfl, rfl⟩]; rfl
    rw [if_neg (fun q => u4 q.2)]
    have hr : rwT.find? (oB 7 t u) = none := find_no (fun j hj => by
      have h0 : (u == 1) = false := by simpa using u1
      have h1 : (u == 2) = false := by simpa using u2
      have h2 : (u == 3) = false := by simpa using u3
      have h3 : (u == 4) = false := by simpa using u4
      have : j = 0 ∨ j = 1 ∨ j = 2 ∨ j = 3 ∨ j = 4 ∨ j = 5 ∨ j = 6 ∨ j = 7 ∨ j = 8 ∨ j = 9 ∨ j = 10 := by omega
      rcases this with rfl | rfl | rfl | rfl | rfl | rfl | rfl | rfl | rfl | rfl | rfl
      any_goals rfl
      · show (true && (false || (u == 1)) && true) = false; rw [h0]; rfl
      · show (true && (false || (u == 2)) && true) = false; rw [h1]; rfl
      · show (true && (false || (u == 3)) && true) = false; rw [h2]; rfl
      · show (true && (false || (u == 4)) && true) = false; rw [h3]; rfl)
    rw [hr]; rfl
  rw [if_neg (fun q => h7 q.1), if_neg (fun q => h7 q.1), if_neg (fun q => h7 q.1), if_neg (fun q => h7 q.1)]
  by_cases h8 : c = 8
  · subst h8; rfl
  have hr : rwT.find? (oB c t u) = none := find_no (fun j hj => by
    have e1 : (c == 1) = false := by simpa using h1
    have e2 : (c == 2) = false := by simpa using h2
    have e3 : (c == 3) = false := by simpa using h3
    have e4 : (c == 4) = false := by simpa using h4
    have e5 : (c == 5) = false := by simpa using h5
    have e6 : (c == 6) = false := by simpa using h6
    have e7 : (c == 7) = false := by simpa using h7
    have e8 : (c == 8) = false := by simpa using h8
    have hh : (c == (rwI j).c) = false := by
      have : j = 0 ∨ j = 1 ∨ j = 2 ∨ j = 3 ∨ j = 4 ∨ j = 5 ∨ j = 6 ∨ j = 7 ∨ j = 8 ∨ j = 9 ∨ j = 10 := by omega
      rcases this with rfl | rfl | rfl | rfl | rfl | rfl | rfl | rfl | rfl | rfl | rfl <;> assumption
    unfold oB
    rw [hh]; rfl)
  rw [hr]; rfl
/-- What is told by a status and a sense, by the table. -/
def ocR (r : Rw) (t : Int) : Oc := ⟨r.c, if r.c = 3 then t else 0, r.w⟩
theorem cod_differ (t : Int) (h : 0 ≤ t ∧ t < 4294967296) : codX 2 ⟨14, 29, 0, t⟩ = some ⟨3, t, 0⟩ := by
  have hn : ∀ o ∈ (cands t).take 10, decide (ofX o.c o.t o.w = (2, (⟨14, 29, 0, t⟩ : Sn))) = false := by
    intro o ho
    have : o = ⟨1, 0, 0⟩ ∨ o = ⟨2, 0, 0⟩ ∨ o = ⟨4, 0, 0⟩ ∨ o = ⟨5, 0, 0⟩ ∨ o = ⟨6, 0, 0⟩ ∨ o = ⟨8, 0, 0⟩ ∨ o = ⟨7, 0, 1⟩ ∨ o = ⟨7, 0, 2⟩ ∨ o = ⟨7, 0, 3⟩ ∨ o = ⟨7, 0, 4⟩ := by simpa [cands] using ho
    rcases this with rfl | rfl | rfl | rfl | rfl | rfl | rfl | rfl | rfl | rfl <;> exact decide_eq_false (fun h => by simp [ofX] at h)
  have hy : decide (ofX 3 t 0 = (2, (⟨14, 29, 0, t⟩ : Sn))) = true := decide_eq_true (by unfold ofX; rw [if_neg (by decide), if_neg (by decide), if_pos ⟨rfl, h⟩])
  unfold codX
  have hc : cands t = (cands t).take 10 ++ [⟨3, t, 0⟩] := rfl
  show List.find? (fun o => decide (ofX o.c o.t o.w = (2, (⟨14, 29, 0, t⟩ : Sn)))) (cands t) = _
  rw [hc, List.find?_append, List.find?_eq_none.2 (fun o ho => by rw [hn o ho]; decide)]
  simp only [Option.none_or, List.find?_cons, hy]
theorem pB_yes {n : Int} {x : Sn} {r : Rw} (h : pB n x r = true) : n = r.s ∧ tkB r x.t = true ∧ x = senR r x.t := by
  unfold pB at h
  simpa [and_assoc] using h
theorem cod_row (n : Int) (x : Sn) (r : Rw) (h : rwT.find? (pB n x) = some r) : codX n x = some (ocR r x.t) := by
  have hm := List.mem_of_find?_eq_some h
  obtain ⟨h1, h2, h3⟩ := pB_yes (List.find?_some h)
  have hr : r = rwI 0 ∨ r = rwI 1 ∨ r = rwI 2 ∨ r = rwI 3 ∨ r = rwI 4 ∨ r = rwI 5 ∨ r = rwI 6 ∨ r = rwI 7 ∨ r = rwI 8 ∨ r = rwI 9 ∨ r = rwI 10 := by simpa [rwT, rwI] using hm
  clear h hm
  obtain ⟨k, a, q, t⟩ := x
  rcases hr with rfl | rfl | rfl | rfl | rfl | rfl | rfl | rfl | rfl | rfl | rfl
  case inr.inr.inl =>
    have e := Sn.mk.inj h3
    obtain ⟨e1, e2, e3, _⟩ := e
    subst h1
    have e1' : k = 14 := e1
    have e2' : a = 29 := e2
    have e3' : q = 0 := e3
    subst e1' e2' e3'
    have h2' : (false || fitB t 32) = true := h2
    rw [fit32] at h2'
    exact cod_differ t (by simpa using h2')
  all_goals
    have e := Sn.mk.inj h3
    obtain ⟨e1, e2, e3, e4⟩ := e
    subst h1
    have e4' : t = -1 := e4
    subst e4'
    rw [e1, e2, e3]
    rfl
theorem cod_none (n : Int) (x : Sn) (h : rwT.find? (pB n x) = none) : codX n x = none := by
  have hn : ∀ k, k < 11 → pB n x (rwI k) = false := fun k hk => by
    have := List.find?_eq_none.1 h (rwI k) (by rw [← rwI_at (show k < rwT.length from hk)]; exact List.getElem_mem _)
    simpa using this
  cases hc : codX n x with
  | none => rfl
  | some o =>
    exfalso
    have ho := cod_of hc
    have hm := List.mem_of_find?_eq_some (show (cands x.t).find? _ = some o from hc)
    obtain ⟨k, a, q, t⟩ := x
    have hd : o = ⟨1, 0, 0⟩ ∨ o = ⟨2, 0, 0⟩ ∨ o = ⟨4, 0, 0⟩ ∨ o = ⟨5, 0, 0⟩ ∨ o = ⟨6, 0, 0⟩ ∨ o = ⟨8, 0, 0⟩ ∨ o = ⟨7, 0, 1⟩ ∨ o = ⟨7, 0, 2⟩ ∨ o = ⟨7, 0, 3⟩ ∨ o = ⟨7, 0, 4⟩ ∨ o = ⟨3, t, 0⟩ := by simpa [cands] using hm
    rcases hd with rfl | rfl | rfl | rfl | rfl | rfl | rfl | rfl | rfl | rfl | rfl
    case inr.inr.inr.inr.inr.inr.inr.inr.inr.inr =>
      by_cases ht : 0 ≤ t ∧ t < 4294967296
      · have e : (2, (⟨14, 29, 0, t⟩ : Sn)) = (n, ⟨k, a, q, t⟩) := by rw [← ho]; unfold ofX; rw [if_neg (show ¬ (3 : Int) = 1 by decide), if_neg (show ¬ (3 : Int) = 2 by decide), if_pos ⟨rfl, ht⟩]
        have h2 := hn 2 (by decide)
        rw [← (Prod.mk.inj e).1, ← (Prod.mk.inj e).2] at h2
        have hf : fitB t 32 = true := by rw [fit32]; exact decide_eq_true ht
        have : (true && (false || fitB t 32) && decide ((⟨14, 29, 0, t⟩ : Sn) = ⟨14, 29, 0, t⟩)) = false := h2
        rw [hf, decide_eq_true rfl] at this
        cases this
      · have e : (2, (⟨3, 12, 0, -1⟩ : Sn)) = (n, ⟨k, a, q, t⟩) := by
          rw [← ho]; unfold ofX
          rw [if_neg (show ¬ (3 : Int) = 1 by decide), if_neg (show ¬ (3 : Int) = 2 by decide), if_neg (fun q => ht q.2)]
          rfl
        have h2 := hn 6 (by decide)
        rw [← (Prod.mk.inj e).1, ← (Prod.mk.inj e).2] at h2
        cases h2
    · have h2 := hn 0 (by decide); rw [← (Prod.mk.inj ho).1, ← (Prod.mk.inj ho).2] at h2; cases h2
    · have h2 := hn 1 (by decide); rw [← (Prod.mk.inj ho).1, ← (Prod.mk.inj ho).2] at h2; cases h2
    · have h2 := hn 3 (by decide); rw [← (Prod.mk.inj ho).1, ← (Prod.mk.inj ho).2] at h2; cases h2
    · have h2 := hn 4 (by decide); rw [← (Prod.mk.inj ho).1, ← (Prod.mk.inj ho).2] at h2; cases h2
    · have h2 := hn 5 (by decide); rw [← (Prod.mk.inj ho).1, ← (Prod.mk.inj ho).2] at h2; cases h2
    · have h2 := hn 6 (by decide); rw [← (Prod.mk.inj ho).1, ← (Prod.mk.inj ho).2] at h2; cases h2
    · have h2 := hn 7 (by decide); rw [← (Prod.mk.inj ho).1, ← (Prod.mk.inj ho).2] at h2; cases h2
    · have h2 := hn 8 (by decide); rw [← (Prod.mk.inj ho).1, ← (Prod.mk.inj ho).2] at h2; cases h2
    · have h2 := hn 9 (by decide); rw [← (Prod.mk.inj ho).1, ← (Prod.mk.inj ho).2] at h2; cases h2
    · have h2 := hn 10 (by decide); rw [← (Prod.mk.inj ho).1, ← (Prod.mk.inj ho).2] at h2; cases h2
end Go.Proofs.YthcaeihpdlgcaaaDoor
