/- A table read off a text: the walk. -/
import Derived.Test.YthedonkjnfeajaaDoorImC
import Derived.Laws.EntriesVeiled
namespace Go.Proofs.YthedonkjnfeajaaDoor
open Go.RowKit
abbrev fnP (n : Nat) : Value := .func (.func 60) #[] #[.pointer (some ⟨n, 0, none⟩)]
theorem first_boxes (w : World) (s : ByteArray) : ∀ v, v = ((w.alloc (.cells tlZ 27)).alloc (.cells #[.string s] 9)).alloc (.cells #[fnP (w.heap.size + 1)] 70) →
    RdW (w.heap.size + 1) (w.heap.size + 1 + 1) s v ∧ Blk v w.heap.size 27 tlZ ∧ Below w.heap.size w v ∧ v.heap.size = w.heap.size + 3 := by
  rintro v rfl
  refine ⟨⟨?_, ?_⟩, ((Blk.new w _ _).alloc _).alloc _, (((Below.refl w.heap.size w).alloc (Nat.le_refl _) _).alloc (by simp) _).alloc (by simp; omega) _, by simp⟩
  · have := (Blk.new (w.alloc (.cells tlZ 27)) 9 #[.string s]).alloc (.cells #[fnP (w.heap.size + 1)] 70)
    simpa using this
  · have := Blk.new ((w.alloc (.cells tlZ 27)).alloc (.cells #[.string s] 9)) 70 #[fnP (w.heap.size + 1)]
    simpa using this
abbrev tZ : Tl := ⟨[], 0, ⟨#[]⟩, 0, false⟩
theorem RdI.first {w w3 : World} {s : ByteArray} (hr : RdW (w.heap.size + 1) (w.heap.size + 1 + 1) s w3) (h1 : Blk w3 w.heap.size 27 tlZ) (h2 : Below w.heap.size w w3) :
    RdI w w3.heap.size s none 0 tZ (w3.alloc (.cells tlZ 27)) :=
  ⟨hr.alloc _, Blk.new w3 _ _, h1.alloc _, Own.nil _ _, h2.alloc h2.size _, hr.way.lt⟩
theorem number_i {w0 w : World} {T : Nat} {s : ByteArray} {A : Option Addr} {c : Nat} {t : Tl} (n : Nat) (M : List UInt8) (h : RdI w0 T s A c t w) (hs : s.size ≤ 100000) (hL : lst s = M) (h1 : 1 ≤ n) (h8 : n ≤ 8) :
    Calls Tryd.prog 42 #[.int .i64 (n : Int), .pointer (some ⟨w0.heap.size + 1 + 1, 0, none⟩)] w fun e w' => e = .returned (.int .u64 (numL n M : Nat)) ∧ ∃ s', s'.size ≤ 100000 ∧ lst s' = M.drop n ∧ RdI w0 T s' A c t w' := by
  refine (number_any n s _ _ w (Nat.le_trans hs (by decide)) h1 h8 h.rd).mono fun e w' ⟨e1, e2, e3⟩ => ⟨by rw [e1, hL], _, Nat.le_trans (drpS_size n s) hs, by rw [lst_drpS, hL], h.took e2 e3⟩
theorem take_i {w0 w : World} {T : Nat} {s : ByteArray} {A : Option Addr} {c : Nat} {t : Tl} (n : Nat) (M : List UInt8) (h : RdI w0 T s A c t w) (hs : s.size ≤ 100000) (hL : lst s = M) (h8 : n ≤ 100000) :
    Calls Tryd.prog 60 #[.int .i64 (n : Int), .pointer (some ⟨w0.heap.size + 1, 0, none⟩)] w fun e w' => e = .returned (.string (baL (M.take n))) ∧ ∃ s', s'.size ≤ 100000 ∧ lst s' = M.drop n ∧ RdI w0 T s' A c t w' := by
  refine (take_rd n s _ _ w (Nat.le_trans hs (by decide)) h8 h.rd).mono fun e w' ⟨e1, e2, e3⟩ => ⟨?_, _, Nat.le_trans (drpS_size n s) hs, by rw [lst_drpS, hL], h.took e2 e3⟩
  rw [e1, ← hL, ← lst_takS, baL_lst]
/-- Where the registrations are being read: so many are. -/
def RdL (w0 : World) (T : Nat) (M : List UInt8) (t : Tl) (k : Nat) (w : World) : Prop :=
  ∃ s A c, s.size ≤ 100000 ∧ lst s = (rdS M k).2 ∧ RdI w0 T s A c ⟨(rdS M k).1, t.ty, t.ho, t.ge, t.ap⟩ w
theorem RdI.done {w0 v : World} {T : Nat} {s : ByteArray} {A : Option Addr} {c : Nat} {t : Tl} (h : RdI w0 T s A c t v) : ∀ V, V = (((((v.setCell ⟨w0.heap.size, 0, none⟩ (.slice A t.rs.length c)).setCell ⟨w0.heap.size, 1, none⟩ (.int .i64 t.ty)).setCell ⟨w0.heap.size, 2, none⟩ (.string t.ho)).setCell ⟨w0.heap.size, 3, none⟩ (.int .u32 t.ge)).setCell ⟨w0.heap.size, 4, none⟩ (.bool t.ap)) →
    Blk V w0.heap.size 27 (tlC A c t) ∧ Own V w0.heap.size A c t.rs ∧ Below w0.heap.size w0 V := by
  rintro V rfl
  have o0 := Only.refl (fun k => k = w0.heap.size) v
  have o1 := o0.setCell (p := ⟨w0.heap.size, 0, none⟩) (.inl rfl) (.slice A t.rs.length c)
  have o2 := o1.setCell (p := ⟨w0.heap.size, 1, none⟩) (.inl rfl) (.int .i64 t.ty)
  have o3 := o2.setCell (p := ⟨w0.heap.size, 2, none⟩) (.inl rfl) (.string t.ho)
  have o4 := o3.setCell (p := ⟨w0.heap.size, 3, none⟩) (.inl rfl) (.int .u32 t.ge)
  have hO := o4.setCell (p := ⟨w0.heap.size, 4, none⟩) (.inl rfl) (.bool t.ap)
  exact ⟨(((((h.res.put 0 _).put 1 _).put 2 _).put 3 _).put 4 _), own_took h.own h.res (by decide) hO, h.bel.trans (hO.toBelow h.bel.size (fun k hk => by omega))⟩
end Go.Proofs.YthedonkjnfeajaaDoor
