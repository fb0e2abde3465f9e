/- What the statements' walks share: a table's box along calls; remainders. -/
import Derived.Test.YtgekadfkokkapaaDoorReWk
import Derived.Test.YtgekadfkokkapaaDoorReX
import Derived.Test.YtgekadfkokkapaaDoorReSt
import Derived.Test.YtgekadfkokkapaaDoorReMb
namespace Go.Proofs.YtgekadfkokkapaaDoor
open Go.RowKit
theorem mod_any (k : Int) (n : Nat) (h : 1 ≤ n) (hn : n ≤ 1000000) (w : World) : Calls Tryd.prog 27 #[.int .i64 k, .int .i64 (n : Int)] w fun e w' => e = .returned (.int .i64 (k % (n : Int))) ∧ w = w' := by
  have h1 : k.tmod n < n := Int.tmod_lt_of_pos _ (by omega)
  have h2 : -(n : Int) < k.tmod n := by
    have := Int.lt_tmod_of_pos k (show (0 : Int) < n by omega)
    omega
  have h3 : (k.tmod n + n) % (n : Int) = k % n := by rw [Int.add_emod_right, Int.tmod_def, Int.sub_mul_emod_self_left]
  have H3 := Lib.hid h3
  clear h3
  go_enter Tryd.func27, Tryd.ntmps27
  go_wp2
  go_ret
  exact ⟨by rw [← H3.out]; rfl, rfl⟩
/-- A table's box along the calls of a statement. -/
structure BxAt (w v : World) (A : Option Addr) (c : Nat) (t : Tl) : Prop where
  b : Blk v w.heap.size 27 (tlC A c t)
  l : Rgs v A t.rs
  tb : RTab v
  bel : Below w.heap.size w v
theorem BxAt.below {w v v' : World} {A : Option Addr} {c : Nat} {t : Tl} (h : BxAt w v A c t) (hb : Below v.heap.size v v') : BxAt w v' A c t :=
  ⟨h.b.below hb h.b.lt, h.l.below hb, h.tb.below hb, h.bel.trans (hb.mono h.bel.size)⟩
theorem BxAt.from (w : World) (A : Option Addr) (c : Nat) (t : Tl) (hl : Rgs w A t.rs) (ht : RTab w) : BxAt w (w.alloc (.cells (tlC A c t) 27)) A c t := by
  obtain ⟨h1, h2, h3⟩ := tl_box w A c t _ rfl
  exact ⟨h1, hl.below h2, ht.below h2, h2⟩
def DoAs (u : Tl) (ev : List Ev) (cd : Int) (w : World) (e : Ending) (w' : World) : Prop :=
  ∃ A' c' B' e', e = .returned (.tuple #[tlV A' c' u, .slice B' ev.length e', .int .i64 cd]) ∧ Own w' w.heap.size A' c' u.rs ∧ OwnE w' w.heap.size B' e' ev ∧ Below w.heap.size w w'
theorem do_as {A : Option Addr} {c : Nat} {t : Tl} {m : Cm} {w : World} {u : Tl} {ev : List Ev} {cd : Int} (hl : Rgs w A t.rs) (hN : Small t) (hs : m.ho.size ≤ 1000) (hrt : RTab w) (h1 : doT t m = u) (h2 : doE t m = ev) (h3 : doC t m = cd) :
    Calls Tryd.prog 22 #[tlV A c t, cmV m] w (DoAs u ev cd w) := by
  subst h1 h2 h3
  refine (do_any A c t m w hl (Nat.le_trans hN.1 (by decide)) hN.2.2 hN.2.1 hs hrt).mono ?_
  rintro e w' ⟨A', c', B', e', h⟩
  exact ⟨A', c', B', e', h⟩
/-- What stands behind 'Do(CopyTable(t), c)' in a box of its own. -/
def DoBox (w0 : World) (u : Tl) (ev : List Ev) (v : World) (p : Nat) (_A5 : Option Addr) (_c5 : Nat) (A6 : Option Addr) (c6 : Nat) (B6 : Option Addr) (e6 : Nat) : Prop :=
  Below w0.heap.size w0 v ∧ w0.heap.size ≤ p ∧ Blk v p 27 (tlC A6 c6 u) ∧ Own v w0.heap.size A6 c6 u.rs ∧ OwnE v w0.heap.size B6 e6 ev
theorem DoBox.made {w0 v v' : World} {u : Tl} {ev : List Ev} {p : Nat} {A5 : Option Addr} {c5 : Nat} {A6 : Option Addr} {c6 : Nat} {B6 : Option Addr} {e6 : Nat} (hb : Below w0.heap.size w0 v) (hp : w0.heap.size ≤ p) (hz : Blk v p 27 tlZ) (ho : Own v w0.heap.size A6 c6 u.rs) (he : OwnE v w0.heap.size B6 e6 ev)
    (hk : Blk v' p 27 (tlC A6 c6 u)) (hon : Only (fun k => k = p) v v') : DoBox w0 u ev v' p A5 c5 A6 c6 B6 e6 := by
  have hap : (Value.slice A6 u.rs.length c6).ownBlock ≠ some p := own_apart ho.1 hz (by decide)
  have hae : (Value.slice B6 ev.length e6).ownBlock ≠ some p := own_apart he hz (by decide)
  exact ⟨hb.trans (hon.toBelow hb.size (fun k hk => by rw [hk]; exact hp)), hp, hk, ⟨own_keep ho.1 fun g hg => hon.block g (ho.1.lt g hg).2 (fun e => hap (hg.trans (congrArg some e))), ho.2⟩, own_keep he fun g hg => hon.block g (he.lt g hg).2 (fun e => hae (hg.trans (congrArg some e)))⟩
theorem tlC_one (A : Option Addr) (c : Nat) (t : Tl) : (tlC A c t).all (·.oneCell') = true := by simp [tlC, Value.oneCell']
theorem OwnE.base {w : World} {n0 n : Nat} {A : Option Addr} {c : Nat} {l : List Ev} (h : OwnE w n A c l) (hn : n0 ≤ n) : OwnE w n0 A c l :=
  own_base h (fun g hg => Nat.le_trans hn (h.lt g hg).1)
theorem Small.good {t : Tl} (h : GoodP t) (hh : t.ho.size ≤ 1000) : Small t :=
  ⟨Nat.le_trans h.len (by decide), hh, fun x hx => Nat.le_trans (h.toRegsP.sizes x hx) (by decide)⟩
theorem good_ho {t : Tl} (h : GoodP t) : t.ho.size ≤ 64 := by
  rcases h.hold with ⟨_, e⟩ | ⟨_, e, _⟩ | ⟨_, e⟩
  · rw [e]; decide
  · rw [e]; decide
  · obtain ⟨x, hx, he⟩ := regB_iff.1 e
    rw [← he]; exact h.toRegsP.sizes x hx
theorem GoodP.small {t : Tl} (h : GoodP t) : Small t := Small.good h (Nat.le_trans (good_ho h) (by decide))
end Go.Proofs.YtgekadfkokkapaaDoor
