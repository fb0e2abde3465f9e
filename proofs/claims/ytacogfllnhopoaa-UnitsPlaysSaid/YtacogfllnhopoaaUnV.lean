/- The document's Take. -/
import Derived.Test.YtacogfllnhopoaaUnU
namespace Go.Proofs.Ytacogfllnhopoaa
open Go.RowKit Go.Maps
theorem rtake_none {mb : Nat} (w : World) {G : Nat → Prop} {p : Nat} {f : PF} (h : RQ mb w G p f) (lu : Int) (ho : ByteArray) (h0 : f lu ho = []) :
    Calls Try.prog 11 #[.pointer (some ⟨p, 0, none⟩), .int .i64 lu, .string ho] w fun e w' => e = .returned (.tuple #[.int .i64 0, .bool false]) ∧ w = w' := by
  obtain ⟨l, h1, rfl, hg, hlb⟩ := h
  have HLB := Lib.hid hlb
  clear hlb
  obtain ⟨A, c, hp, hr⟩ := h1.row
  have HF := Lib.hid (find_any w h1 lu ho); have HR := Lib.hid hr; have HG := Lib.hid hg; have H0 := Lib.hid h0
  clear h1 hr hg h0
  go_enter Try.func11, Try.ntmps11
  go_wp2_with (fail)
  refine HF.out.mono ?_
  rintro e w' ⟨rfl, ⟨k, x, rfl, hx, hi⟩ | ⟨rfl, hno⟩⟩
  · obtain ⟨g, rfl, _, c0, c1, c2, _, _⟩ := HR k x hx
    have hz : x.zs = [] := (fq_at HG hx hi).symm.trans H0
    have hk : (k : Int) < (l.length : Int) := by have := (List.getElem?_eq_some_iff.1 hx).1; omega
    rw [hz] at c2
    clear hx hi c0 c1 hz
    go_wp2
    go_ret2
    exact ⟨rfl, rfl⟩
  · clear hno
    go_wp2
    go_ret2
    exact ⟨rfl, rfl⟩
set_option maxHeartbeats 1000000 in
theorem rtake_some {mb : Nat} (w : World) {G : Nat → Prop} {p : Nat} {f : PF} (h : RQ mb w G p f) (lu : Int) (ho : ByteArray) (y : Int) (zt : List Int) (h0 : f lu ho = y :: zt) :
    Calls Try.prog 11 #[.pointer (some ⟨p, 0, none⟩), .int .i64 lu, .string ho] w fun e w' => e = .returned (.tuple #[.int .i64 y, .bool true]) ∧ RqOut mb G w p (upd f lu ho zt) w' := by
  obtain ⟨l, h1, rfl, hg, hlb⟩ := h
  have HLB := Lib.hid hlb
  clear hlb
  obtain ⟨A, c, hp, hr⟩ := h1.row
  have HF := Lib.hid (find_any w h1 lu ho); have HR := Lib.hid hr; have HG := Lib.hid hg; have H0 := Lib.hid h0; have HQ := Lib.hid h1; have HP := Lib.hid hp
  clear h1 hr hg h0
  go_enter Try.func11, Try.ntmps11
  go_wp2_with (fail)
  refine HF.out.mono ?_
  rintro e w' ⟨rfl, ⟨k, x, rfl, hx, hi⟩ | ⟨rfl, hno⟩⟩
  · obtain ⟨g, rfl, _, c0, c1, c2, f2, hok⟩ := HR k x hx
    have hz : x.zs = y :: zt := (fq_at HG hx hi).symm.trans H0
    have hk : (k : Int) < (l.length : Int) := by have := (List.getElem?_eq_some_iff.1 hx).1; omega
    obtain ⟨g', o, cur, hA, hGg, hB, hcur⟩ := hok.2 (by rw [hz]; simp)
    have hy : w.cell? ⟨g', o, none⟩ = some (.int .i64 y) := (hB.cell o).trans (by have := hcur 0 y (by rw [hz]; rfl); simpa using this)
    obtain ⟨n, hn⟩ : ∃ n, n = x.zs.length := ⟨_, rfl⟩
    have hnz : n = zt.length + 1 := by rw [hn, hz]; rfl
    obtain ⟨d, hd⟩ : ∃ d, d = x.c := ⟨_, rfl⟩
    have hnd : n ≤ d := by rw [hn, hd]; exact hok.1
    rw [hA, ← hn, ← hd] at c2
    have hput := fun (A' : Option Addr) (d' : Nat) (hok' : WtOk w G ⟨x.lu, x.ho, zt, A', d'⟩) => HQ.out.put (y := ⟨x.lu, x.ho, zt, A', d'⟩) hx rfl rfl hok' rfl HP
    have HPUT := Lib.hid hput
    have HS := Lib.hid (fun (A' : Option Addr) (d' : Nat) => (show fq (l.set k ⟨x.lu, x.ho, zt, A', d'⟩) = upd (fq l) lu ho zt from fq_set HG hx hi rfl rfl))
    have HGS := Lib.hid (fun (A' : Option Addr) (d' : Nat) => (show GoodL (l.set k ⟨x.lu, x.ho, zt, A', d'⟩) from HG.out.set hx rfl rfl (by have := (HG.out.fine x (List.mem_of_getElem? hx)).2.2.2; rw [hz] at this; simp at this ⊢; omega)))
    have HOK := Lib.hid (show zt.length + 1 ≤ d ∧ ∀ i z, zt[i]? = some z → cur[o + 1 + i]? = some (.int .i64 z) from ⟨hnz ▸ hnd, fun i z hzz => by have := hcur (i + 1) z (by rw [hz]; simpa using hzz); rw [← this]; congr 1; omega⟩)
    have HBB := Lib.hid hB; have HGG := Lib.hid hGg; have HNZ := Lib.hid hnz
    have hi1 : (1 : Int) ≤ (n : Int) := by omega
    have hi2 : (n : Int) ≤ (d : Int) := by omega
    have hi3 : (0 : Int) < (n : Int) := by omega
    have hi4 : ((n : Int) == 0) = false := by simpa using (show ¬ (n : Int) = 0 by omega)
    clear hx hi c0 c1 hz hok hA hGg hB hcur hput hn hnz hd
    have HEND : Hid (∀ (A' : Option Addr), ((∃ o', A' = some ⟨g', o + 1, none⟩ ∧ o' = o) ∨ zt = []) → ∀ V, V = w.setCell ⟨g, k * 3 + 2, none⟩ (.slice A' (n - 1) (d - 1)) → RqOut mb G w p (upd (fq l) lu ho zt) V.drew) := fun A' hA' V hV => by
      have hok' : WtOk w G ⟨x.lu, x.ho, zt, A', d - 1⟩ := by
        refine ⟨by show zt.length ≤ d - 1; have := HOK.out.1; omega, fun hpos => ?_⟩
        rcases hA' with ⟨_, e, _⟩ | e
        · exact ⟨g', o + 1, cur, e, HGG, HBB, HOK.out.2⟩
        · rw [e] at hpos; simp at hpos
      obtain ⟨k1, k2⟩ := HPUT.out A' (d - 1) hok'
      have e1 : n - 1 = zt.length := by have := HNZ.out; omega
      rw [e1] at hV
      subst hV
      exact ⟨k2.drew, G, ⟨_, k1.keep (S := nobody) ((Only.refl _ _).drew) (fun _ _ h => h), HS.out A' (d - 1), HGS.out A' (d - 1), by rw [List.length_set]; exact HLB.out⟩, fun _ h => .inl h⟩
    by_cases hd1 : d = 1
    · have hn1 : n = 1 := by omega
      have HZ := Lib.hid (show zt = [] from List.length_eq_zero_iff.1 (by have := HNZ.out; omega))
      subst hd1 hn1
      go_wp2
      go_region
      all_goals (
        go_wp2
        go_ret2
        exact ⟨rfl, HEND.out _ (.inr HZ.out) _ rfl⟩)
    · have hd2 : ¬ d - 1 = 0 := by omega
      go_wp2
      go_region
      all_goals (
        go_wp2
        go_ret2
        exact ⟨rfl, HEND.out _ (.inl ⟨o, rfl, rfl⟩) _ rfl⟩)
  · exact absurd ((fq_none hno).symm.trans H0.out) (by simp)
theorem rtake_any {mb : Nat} (w : World) {G : Nat → Prop} {p : Nat} {f : PF} (h : RQ mb w G p f) (lu : Int) (ho : ByteArray) :
    Calls Try.prog 11 #[.pointer (some ⟨p, 0, none⟩), .int .i64 lu, .string ho] w fun e w' => e = .returned (.tuple #[.int .i64 ((f lu ho).headD 0), .bool (decide (f lu ho ≠ []))]) ∧ RqOut mb G w p (takeF f lu ho) w' := by
  unfold takeF
  cases hz : f lu ho with
  | nil =>
    refine (rtake_none w h lu ho hz).mono ?_
    rintro e w' ⟨rfl, rfl⟩
    refine ⟨rfl, ?_⟩
    rw [List.drop_nil, upd_noop hz]
    exact h.out (Below.refl _ _)
  | cons y zt =>
    have e1 : decide (y :: zt ≠ []) = true := by simp
    rw [e1]
    exact rtake_some w h lu ho y zt hz
end Go.Proofs.Ytacogfllnhopoaa
