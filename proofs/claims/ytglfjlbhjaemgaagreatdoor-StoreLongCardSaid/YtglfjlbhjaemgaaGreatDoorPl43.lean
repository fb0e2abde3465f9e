/- store's statements: the steps that came in, opened. store: any arguments; what is of other units stays. store: a store of one's own, and blocks that are none of its. store's statements: Seen. store's statements: Seen, walked. store: Units and Open, and what stays. store's statements: two states that tell the same. -/
import Derived.Test.YtglfjlbhjaemgaaGreatDoorPl40
import Derived.Test.YtglfjlbhjaemgaaGreatDoorPl42
import Derived.Deep.Slices
import Derived.Deep.Fields
import Derived.Test.YtglfjlbhjaemgaaGreatDoorPl37
import Derived.Test.YtglfjlbhjaemgaaGreatDoorPl32
namespace Go.Proofs.YtglfjlbhjaemgaaGreatDoor
open Go.ChangeShapes Go.WideShapes Go.ChangeAt Go.RowKit Go.Deep
def inI64 (k : Int) : Prop := -9223372036854775808 ≤ k ∧ k ≤ 9223372036854775807
structure Sq where
  kind : Int
  lun : Int
  lba : Int
  n : Int
  fill : UInt8
  text : ByteArray
  A : Option Addr
  ca : Nat
  rs : List (Int × Int)
  B : Option Addr
  cb : Nat
  kl : Nat
def Sq.cells (s : Sq) : Array Value := #[.int .i64 s.kind, .int .i64 s.lun, .int .i64 s.lba, .int .i64 s.n, .int .u8 (s.fill.toNat : Int), .string s.text, .slice s.A s.rs.length s.ca, .slice s.B s.kl s.cb]
structure Sq.Ok (w : World) (s : Sq) : Prop where
  lba : inI64 s.lba
  text : s.text.size ≤ 140737488355328
  rngs : RngI w s.A s.rs
  each : ∀ r ∈ s.rs, inI64 r.1 ∧ inI64 r.2
open Go.RowKit
open Ext (Ex Exts exV ExtsF textX)
/-- Behind a call: the other units are as they were. -/
def Oth (w0 : World) (s p q n : Nat) (V : List Un) (m : Nat) (lun : Int) (e : Ending) (w' : World) : Prop :=
  ∃ r V' Vp', e = .returned (.int .i64 r) ∧ Us w0 w' s p q n V' Vp' m ∧ V'.length = V.length ∧ ∀ j : Nat, (j : Int) ≠ lun → V'[j]? = V[j]?
set_option maxRecDepth 100000 in
theorem Oth.same {w0 w w' : World} {S : Nat → Prop} {s p q n : Nat} {x : St} {j : Jn} {st : Sto} {V Vp : List Un} {m : Nat} {lun r : Int} (hb : Below w0.heap.size w0 w) (hs : ∀ k, S k → w0.heap.size ≤ k) (ho : SOut S w s p q n x j st w') (hi : Inv n x j st V Vp) (h1 : x.ops ≤ m * 17000001) (h2 : j.num ≤ m + 10) (h3 : st.ch ≤ m) : Oth w0 s p q n V (m + 1) lun (.returned (.int .i64 r)) w' :=
  ⟨r, V, Vp, rfl, Us.of hb hs ho hi (Nat.le_trans h1 (Nat.mul_le_mul_right 17000001 (Nat.le_succ m))) (Nat.le_trans h2 (Nat.add_le_add_right (Nat.le_succ m) 10)) (Nat.le_succ_of_le h3), rfl, fun _ _ => rfl⟩
theorem Oth.set {w0 w' : World} {s p q n : Nat} {V Vp : List Un} {m i : Nat} {u : Un} {r : Int} (h : Us w0 w' s p q n (V.set i u) Vp m) : Oth w0 s p q n V m (i : Int) (.returned (.int .i64 r)) w' :=
  ⟨r, V.set i u, Vp, rfl, h, List.length_set, fun j hj => List.getElem?_set_ne (by omega)⟩
open Go.RowKit
open Ext (Ex Exts exV ExtsF textX)
/-- A store of one's own; K: blocks made by others behind w0, which it does not touch. -/
structure Uk (w0 w : World) (K : Nat → Prop) (s p q n : Nat) (V Vp : List Un) (m : Nat) : Prop where
  has : ∃ S x j st, Has w S s p q n x j st ∧ (∀ k, S k → w0.heap.size ≤ k) ∧ (∀ k, K k → ¬ S k) ∧ Inv n x j st V Vp ∧ x.ops ≤ m * 17000001 ∧ j.num ≤ m + 10 ∧ st.ch ≤ m
  lt : ∀ k, K k → k < w.heap.size
  lo : ∀ k, K k → w0.heap.size ≤ k
  below : Below w0.heap.size w0 w
theorem Uk.of {w0 w : World} {s p q n : Nat} {V Vp : List Un} {m : Nat} (h : Us w0 w s p q n V Vp m) : Uk w0 w (fun _ => False) s p q n V Vp m := by
  obtain ⟨S, x, j, st, hh, hs, r⟩ := h.has
  exact ⟨⟨S, x, j, st, hh, hs, fun k hk => hk.elim, r⟩, fun k hk => hk.elim, fun k hk => hk.elim, h.below⟩
theorem Uk.us {w0 w : World} {K : Nat → Prop} {s p q n : Nat} {V Vp : List Un} {m : Nat} (h : Uk w0 w K s p q n V Vp m) : Us w0 w s p q n V Vp m := by
  obtain ⟨S, x, j, st, hh, hs, _, r⟩ := h.has
  exact ⟨⟨S, x, j, st, hh, hs, r⟩, h.below⟩
/-- What is made now is none of the store's. -/
theorem Uk.more {w0 w w' : World} {K : Nat → Prop} {s p q n : Nat} {V Vp : List Un} {m : Nat} (h : Uk w0 w K s p q n V Vp m) (hb : Below w.heap.size w w') : Uk w0 w' (fun k => K k ∨ (w.heap.size ≤ k ∧ k < w'.heap.size)) s p q n V Vp m := by
  obtain ⟨S, x, j, st, hh, hs, hk, r⟩ := h.has
  have h0 := h.below.size
  exact ⟨⟨S, x, j, st, hh.below hb, hs, fun k hK => hK.elim (hk k) (fun h1 hS => absurd (hh.lt k hS) (by omega)), r⟩, fun k hK => hK.elim (fun h1 => Nat.lt_of_lt_of_le (h.lt k h1) hb.size) (fun h1 => h1.2), fun k hK => hK.elim (h.lo k) (fun h1 => Nat.le_trans h0 h1.1), h.below.trans (hb.mono h0)⟩
theorem Uk.sub {w0 w : World} {K K' : Nat → Prop} {s p q n : Nat} {V Vp : List Un} {m : Nat} (h : Uk w0 w K s p q n V Vp m) (hs : ∀ k, K' k → K k) : Uk w0 w K' s p q n V Vp m := by
  obtain ⟨S, x, j, st, hh, h1, hk, r⟩ := h.has
  exact ⟨⟨S, x, j, st, hh, h1, fun k h2 => hk k (hs k h2), r⟩, fun k h2 => h.lt k (hs k h2), fun k h2 => h.lo k (hs k h2), h.below⟩
theorem SU.keep {w w' : World} {S T : Nat → Prop} {s p q n : Nat} {x : St} {j : Jn} (h : SU w S s p q n x j) (ho : Only T w w') (hd : ∀ k, S k → ¬ T k) (ht : ¬ T gTab) : SU w' S s p q n x j := by
  obtain ⟨J, hj, hb, h1, h2, h3⟩ := h.both
  exact ⟨⟨J, hj.keep ho (fun k hk => hd k (h2 k hk)) ht, hb.only ho (hd s h3), h1, h2, h3⟩, fun k hk => Nat.lt_of_lt_of_le (h.lt k hk) ho.size, h.far⟩
theorem Has.keep {w w' : World} {S T : Nat → Prop} {s p q n : Nat} {x : St} {j : Jn} {st : Sto} (h : Has w S s p q n x j st) (ho : Only T w w') (hd : ∀ k, S k → ¬ T k) (ht : ¬ T gTab) : Has w' S s p q n x j st := by
  rcases h with h | ⟨h, r⟩
  · exact .inl (h.keep ho hd ht)
  · exact .inr ⟨h.keep ho hd ht, r⟩
/-- One of those blocks turns. -/
theorem Uk.turn {w0 w w' : World} {K : Nat → Prop} {s p q n : Nat} {V Vp : List Un} {m : Nat} (h : Uk w0 w K s p q n V Vp m) (ht : Tab w0) (ho : Only K w w') : Uk w0 w' (fun k => K k ∨ (w.heap.size ≤ k ∧ k < w'.heap.size)) s p q n V Vp m := by
  obtain ⟨S, x, j, st, hh, hs, hk, r⟩ := h.has
  have h0 := h.below.size
  have hfar : ¬ K gTab := lo_far ht h.lo
  exact ⟨⟨S, x, j, st, hh.keep ho (fun k h1 h2 => hk k h2 h1) hfar, hs, fun k hK => hK.elim (hk k) (fun h1 hS => absurd (hh.lt k hS) (by omega)), r⟩, fun k hK => hK.elim (fun h1 => Nat.lt_of_lt_of_le (h.lt k h1) ho.size) (fun h1 => h1.2), fun k hK => hK.elim (h.lo k) (fun h1 => Nat.le_trans h0 h1.1), below_go h.below ho h.lo⟩
theorem Uk.out {w0 w w' : World} {K S : Nat → Prop} {s p q n : Nat} {x : St} {j : Jn} {st : Sto} {V Vp : List Un} {m : Nat} (h : Uk w0 w K s p q n V Vp m) (hh : ∀ k, S k → w0.heap.size ≤ k) (hk : ∀ k, K k → ¬ S k) (ho : SOut S w s p q n x j st w') (hi : Inv n x j st V Vp) (h1 : x.ops ≤ m * 17000001) (h2 : j.num ≤ m + 10) (h3 : st.ch ≤ m) : Uk w0 w' K s p q n V Vp m ∧ ∀ k, K k → w'.heap[k]? = w.heap[k]? := by
  obtain ⟨S', hsd, hon, hg⟩ := ho
  refine ⟨⟨⟨S', x, j, st, .inl hsd, grew_lo hg hh h.below.size, fun k hK hS => ?_, hi, h1, h2, h3⟩, fun k hK => Nat.lt_of_lt_of_le (h.lt k hK) hon.size, h.lo, below_go h.below hon hh⟩, fun k hK => hon.block k (h.lt k hK) (hk k hK)⟩
  rcases hg k hS with h4 | h4
  · exact hk k hK h4
  · have := h.lt k hK; omega
theorem read_uk {w0 w : World} {K : Nat → Prop} {s p q n : Nat} {V Vp : List Un} {m : Nat} (h : Uk w0 w K s p q n V Vp m) {lun lba k : Nat} {u : Un} (hu : V[lun]? = some u) (hk : (lba : Int) + k ≤ u.n) :
    Calls Tryz.prog 22 #[.pointer (some ⟨s, 0, none⟩), .int .i64 (lun : Int), .int .i64 (lba : Int), .int .i64 (k : Int)] w fun e w' => e = .returned (.tuple #[.string (u.rd lba k), .int .i64 0]) ∧ Uk w0 w' K s p q n V Vp m ∧ ∀ k, K k → w'.heap[k]? = w.heap[k]? := by
  obtain ⟨S, x, j, st, hh, hs, hK, hi, h1, h2, h3⟩ := h.has
  obtain ⟨t, ht, rfl⟩ := hi.un hu
  have hb := hi.big
  refine (sread_ok w hh hi.bad hi.down lun t ht (hi.tells.oks t (List.mem_of_getElem? ht)) lba k hk (fun b a hba => by
    have := hi.tells.apart.range lun t ht b a hba
    omega)).mono ?_
  rintro e w' ⟨rfl, ho⟩
  exact ⟨rfl, h.out hs hK ho hi h1 h2 h3⟩
theorem recorded_uk {w0 w : World} {K : Nat → Prop} {s p q n : Nat} {V Vp : List Un} {m : Nat} (h : Uk w0 w K s p q n V Vp m) {lun : Nat} {u : Un} (hu : V[lun]? = some u) :
    Calls Tryz.prog 32 #[.pointer (some ⟨s, 0, none⟩), .int .i64 (lun : Int)] w fun e w' => e = .returned (.tuple #[.string u.rc, .int .i64 0]) ∧ Uk w0 w' K s p q n V Vp m ∧ ∀ k, K k → w'.heap[k]? = w.heap[k]? := by
  obtain ⟨S, x, j, st, hh, hs, hK, hi, h1, h2, h3⟩ := h.has
  obtain ⟨t, ht, rfl⟩ := hi.un hu
  refine (recorded_ok w hh lun t ht (hi.tells.oks t (List.mem_of_getElem? ht)) hi.bad hi.down).mono ?_
  rintro e w' ⟨rfl, ho⟩
  exact ⟨rfl, h.out hs hK ho hi h1 h2 h3⟩
open Go.RowKit
open Ext (Ex Exts exV ExtsF textX)
def unBlks (u : Un) : List ByteArray := (List.range u.n.toNat).map fun k => u.rd k 1
theorem unBlks_len (u : Un) : (unBlks u).length = u.n.toNat := by simp [unBlks]
theorem unBlks_get {u : Un} {k : Nat} (h : k < u.n.toNat) : (unBlks u)[k]? = some (u.rd k 1) := by
  unfold unBlks
  rw [List.getElem?_map, List.getElem?_range h]
  rfl
theorem unBlks_next {u : Un} {k : Nat} (h : k < u.n.toNat) : ((unBlks u).take (k + 1)).map Value.string = ((unBlks u).take k).map Value.string ++ [.string (u.rd k 1)] := by
  rw [List.take_add_one, unBlks_get h]
  simp
/-- Blocks that are none of the store's grow. -/
theorem Uk.grew {w0 w w' : World} {K : Nat → Prop} {s p q n : Nat} {V Vp : List Un} {m : Nat} {row : Option Nat} (h : Uk w0 w K s p q n V Vp m) (ht : Tab w0) (hg : w.grownBy w' row) (hr : ∀ g, row = some g → K g) : Uk w0 w' (fun k => K k ∨ (w.heap.size ≤ k ∧ k < w'.heap.size)) s p q n V Vp m ∧ ∀ k, K k → some k ≠ row → w'.heap[k]? = w.heap[k]? :=
  ⟨h.turn ht ((Only.refl K w).grown hg (fun k hk => .inl (hr k hk))), fun k hk hne => hg.block k (h.lt k hk) hne⟩
/-- The row of a unit's blocks, on its way, in a block from B on. -/
structure Inn (w0 vs v : World) (KO K : Nat → Prop) (s p q n m : Nat) (V Vp : List Un) (u : Un) (k : Nat) (A : Option Addr) (c : Nat) : Prop where
  uk : Uk w0 v K s p q n V Vp m
  old : ∀ g, KO g → K g ∧ v.heap[g]? = vs.heap[g]?
  size : vs.heap.size ≤ v.heap.size
  own : K vs.heap.size
  blk : Blk v vs.heap.size 165 #[.slice A k c, .slice none 0 0, .string ⟨#[]⟩]
  row : v.ownsRow (vs.heap.size + 1) 9 1 (.slice A k c) k (((unBlks u).take k).map .string)
  inn : ∀ g, (Value.slice A k c).ownBlock = some g → K g
/-- What stands in the row of units of one of them. -/
def RowOk (v : World) (K : Nat → Prop) (xs : List Value) (j : Nat) (u : Un) : Prop :=
  ∃ A c, xs[j * 3]? = some (.slice A u.n.toNat c) ∧ xs[j * 3 + 2]? = some (.string u.rc) ∧ v.ownsRow 0 9 1 (.slice A u.n.toNat c) u.n.toNat ((unBlks u).map .string) ∧ ∀ g, (Value.slice A u.n.toNat c).ownBlock = some g → K g
structure Ouw (w0 v : World) (B0 : Nat) (K : Nat → Prop) (s p q n m : Nat) (V Vp : List Un) (i : Nat) (ov : Value) (xs : List Value) : Prop where
  uk : Uk w0 v K s p q n V Vp m
  row : v.ownsRow B0 165 3 ov i xs
  inn : ∀ g, ov.ownBlock = some g → K g
  each : ∀ j u, j < i → V[j]? = some u → RowOk v K xs j u
theorem info_un8 : (Tryz.prog.info? 165).map (fun i => (i.zero, i.size, i.bytes)) = some (some (.agg #[.slice none 0 0, .slice none 0 0, .string ⟨#[]⟩]), 3, 64) := by kernel_rfl
/-- A unit begins. -/
theorem Inn.begin {w0 v : World} {K : Nat → Prop} {s p q n m : Nat} {V Vp : List Un} {u : Un} (h : Uk w0 v K s p q n V Vp m) : Inn w0 v (v.alloc (.cells #[.slice none 0 0, .slice none 0 0, .string ⟨#[]⟩] 165)) K (fun k => K k ∨ (v.heap.size ≤ k ∧ k < (v.alloc (.cells #[.slice none 0 0, .slice none 0 0, .string ⟨#[]⟩] 165)).heap.size)) s p q n m V Vp u 0 none 0 := by
  have hb := (Below.refl v.heap.size v).alloc (Nat.le_refl _) (.cells #[.slice none 0 0, .slice none 0 0, .string ⟨#[]⟩] 165)
  exact ⟨h.more hb, fun g hg => ⟨.inl hg, hb.block g (h.lt g hg)⟩, hb.size, .inr ⟨Nat.le_refl _, by simp⟩, Blk.new v _ _, World.ownsRow_nil _ _ _ _, fun g hg => by simp [Value.ownBlock] at hg⟩
theorem Inn.read {w0 vs v v' : World} {KO K : Nat → Prop} {s p q n m : Nat} {V Vp : List Un} {u : Un} {k : Nat} {A : Option Addr} {c : Nat} (h : Inn w0 vs v KO K s p q n m V Vp u k A c) (hu : Uk w0 v' K s p q n V Vp m) (hk : ∀ k, K k → v'.heap[k]? = v.heap[k]?) : Inn w0 vs v' KO K s p q n m V Vp u k A c :=
  ⟨hu, fun g hg => ⟨(h.old g hg).1, (hk g (h.old g hg).1).trans (h.old g hg).2⟩, Nat.le_of_lt (hu.lt _ h.own), h.own, (hk _ h.own).trans h.blk, own_keep h.row fun g hg => hk g (h.inn g hg), h.inn⟩
theorem Inn.more {w0 vs v v' : World} {KO K : Nat → Prop} {s p q n m : Nat} {V Vp : List Un} {u : Un} {k : Nat} {A : Option Addr} {c : Nat} (h : Inn w0 vs v KO K s p q n m V Vp u k A c) (hb : Below v.heap.size v v') : Inn w0 vs v' KO (fun k => K k ∨ (v.heap.size ≤ k ∧ k < v'.heap.size)) s p q n m V Vp u k A c :=
  ⟨h.uk.more hb, fun g hg => ⟨.inl (h.old g hg).1, (hb.block g (h.uk.lt g (h.old g hg).1)).trans (h.old g hg).2⟩, Nat.le_trans h.size hb.size, .inl h.own, h.blk.below hb h.blk.lt, own_keep h.row fun g hg => hb.block g (h.uk.lt g (h.inn g hg)), fun g hg => .inl (h.inn g hg)⟩
theorem row_lo {v : World} {B e size n : Nat} {w : Value} {xs : List Value} (h : v.ownsRow B e size w n xs) : ∀ g, w.ownBlock = some g → B ≤ g := fun g hg => (h.lt g hg).1
/-- One more block is appended to the row, and the row stored. -/
theorem Inn.app {w0 vs v v2 : World} {KO K : Nat → Prop} {s p q n m : Nat} {V Vp : List Un} {u : Un} {k : Nat} {A A' : Option Addr} {c c' : Nat} (h : Inn w0 vs v KO K s p q n m V Vp u k A c) (ht : Tab w0) (hKO : ∀ g, KO g → g < vs.heap.size) (hk : k < u.n.toNat) (hown : v2.ownsRow (vs.heap.size + 1) 9 1 (.slice A' (k + 1) c') (k + 1) (((unBlks u).take k).map Value.string ++ [.string (u.rd k 1)])) (hg : v.grownBy v2 (Value.slice A k c).ownBlock) (hat : (Value.slice A' (k + 1) c').ownBlock = (Value.slice A k c).ownBlock ∨ (Value.slice A' (k + 1) c').ownBlock = some v.heap.size) :
    ∃ K', Inn w0 vs (v2.setCell ⟨vs.heap.size, 0, none⟩ (.slice A' (k + 1) c')) KO K' s p q n m V Vp u (k + 1) A' c' := by
  obtain ⟨u1, u2⟩ := h.uk.grew ht hg h.inn
  have hrow : ∀ g, (Value.slice A k c).ownBlock = some g → vs.heap.size + 1 ≤ g := row_lo h.row
  have hne : ∀ g, g ≤ vs.heap.size → some g ≠ (Value.slice A k c).ownBlock := fun g hgl e => by have := hrow g e.symm; omega
  have hsz : (v2.setCell ⟨vs.heap.size, 0, none⟩ (.slice A' (k + 1) c')).heap.size = v2.heap.size := by simp
  have hinn : ∀ g, (Value.slice A' (k + 1) c').ownBlock = some g → K g ∨ (v.heap.size ≤ g ∧ g < v2.heap.size) := fun g hgo => by
    rcases hat with e | e
    · exact .inl (h.inn g (e.symm.trans hgo))
    · rw [e] at hgo
      have := Option.some.inj hgo
      subst this
      have := hown.lt _ e
      exact .inr ⟨Nat.le_refl _, this.2⟩
  have hon : Only (fun k => K k ∨ (v.heap.size ≤ k ∧ k < v2.heap.size)) v2 (v2.setCell ⟨vs.heap.size, 0, none⟩ (.slice A' (k + 1) c')) := (Only.refl _ v2).setCell (p := ⟨vs.heap.size, 0, none⟩) (.inl (.inl h.own)) _
  have hb2 : Blk v2 vs.heap.size 165 #[.slice A k c, .slice none 0 0, .string ⟨#[]⟩] := (u2 _ h.own (hne _ (Nat.le_refl _))).trans h.blk
  have hset : ∀ g, g ≠ vs.heap.size → (v2.setCell ⟨vs.heap.size, 0, none⟩ (.slice A' (k + 1) c')).heap[g]? = v2.heap[g]? := fun g hgn => Below.heap_setCell _ _ _ _ hgn
  refine ⟨_, (u1.turn ht hon).sub (K' := fun k => K k ∨ (v.heap.size ≤ k ∧ k < v2.heap.size)) (fun k hk => .inl hk), fun g hgk => ?_, ?_, .inl h.own, ?_, ?_, hinn⟩
  · have hlt := hKO g hgk
    exact ⟨.inl (h.old g hgk).1, (hset g (by omega)).trans ((u2 g (h.old g hgk).1 (hne g (by omega))).trans (h.old g hgk).2)⟩
  · rw [hsz]; exact Nat.le_trans h.size hg.size
  · exact hb2.put 0 (.slice A' (k + 1) c')
  · rw [unBlks_next hk]
    exact own_keep hown fun g hgo => hset g (by have := row_lo hown g hgo; omega)
theorem own_blk {w : World} {base e size n g : Nat} {v : Value} {xs : List Value} (h : w.ownsRow base e size v n xs) (hg : v.ownBlock = some g) : ∃ cs, Blk w g e cs := by
  rcases h.2 with ⟨rfl, _⟩ | ⟨g', cap, cur, rfl, _, hb, _⟩
  · cases hg
  · obtain rfl : g' = g := Option.some.inj hg
    exact ⟨cur, hb⟩
/-- A unit is done. -/
theorem Inn.close {w0 vs v v5 : World} {B0 : Nat} {KO K : Nat → Prop} {s p q n m i : Nat} {V Vp : List Un} {u : Un} {A : Option Addr} {c : Nat} {ov ov' : Value} {xs : List Value} (h : Inn w0 vs v KO K s p q n m V Vp u u.n.toNat A c) (ho : Ouw w0 vs B0 KO s p q n m V Vp i ov xs) (ht : Tab w0) (hu : V[i]? = some u)
    (hown : v5.ownsRow B0 165 3 ov' (i + 1) (xs ++ [.slice A u.n.toNat c, .slice none 0 0, .string u.rc])) (hg : ((v.setCell ⟨vs.heap.size, 2, none⟩ (.string u.rc)).alloc (.cells #[.slice A u.n.toNat c, .slice none 0 0, .string u.rc] 165)).grownBy v5 ov.ownBlock)
    (hat : ov'.ownBlock = ov.ownBlock ∨ ov'.ownBlock = some ((v.setCell ⟨vs.heap.size, 2, none⟩ (.string u.rc)).alloc (.cells #[.slice A u.n.toNat c, .slice none 0 0, .string u.rc] 165)).heap.size) :
    ∃ K', Ouw w0 v5 B0 K' s p q n m V Vp (i + 1) ov' (xs ++ [.slice A u.n.toNat c, .slice none 0 0, .string u.rc]) ∧ ∀ g, KO g → some g ≠ ov.ownBlock → K' g ∧ v5.heap[g]? = vs.heap[g]? := by
  have hKO := ho.uk.lt
  have hovK : ∀ g, ov.ownBlock = some g → K g := fun g hgo => (h.old g (ho.inn g hgo)).1
  have hovB : ∀ g, ov.ownBlock = some g → g < vs.heap.size := fun g hgo => hKO g (ho.inn g hgo)
  obtain ⟨v3, hv3⟩ : ∃ v3, v.setCell ⟨vs.heap.size, 2, none⟩ (.string u.rc) = v3 := ⟨_, rfl⟩
  have hon : Only K v v3 := by rw [← hv3]; exact (Only.refl _ v).setCell (p := ⟨vs.heap.size, 2, none⟩) (.inl h.own) _
  have hset : ∀ g, g ≠ vs.heap.size → v3.heap[g]? = v.heap[g]? := fun g hgn => by rw [← hv3]; exact Below.heap_setCell _ _ _ _ hgn
  have hs3 : v3.heap.size = v.heap.size := by rw [← hv3]; simp
  rw [hv3] at hg hat
  have hb4 := (Below.refl v3.heap.size v3).alloc (Nat.le_refl _) (.cells #[.slice A u.n.toNat c, .slice none 0 0, .string u.rc] 165)
  generalize v3.alloc (.cells #[.slice A u.n.toNat c, .slice none 0 0, .string u.rc] 165) = v4 at *
  have uk3 := (h.uk.turn ht hon).sub (K' := K) (fun k hk => .inl hk)
  have uk4 := uk3.more hb4
  obtain ⟨uk5, hk5⟩ := uk4.grew ht hg (fun g hgo => .inl (hovK g hgo))
  have e4 : ∀ g, K g → g ≠ vs.heap.size → v4.heap[g]? = v.heap[g]? := fun g hgk hgn => (hb4.block g (by rw [hs3]; exact h.uk.lt g hgk)).trans (hset g hgn)
  have hxl := ho.row.1
  refine ⟨_, ⟨uk5, hown, fun g hgo => ?_, fun j u' hj hu' => ?_⟩, fun g hgk hne => ⟨.inl (.inl (h.old g hgk).1), (hk5 g (.inl (h.old g hgk).1) hne).trans ((e4 g (h.old g hgk).1 (by have := hKO g hgk; omega)).trans (h.old g hgk).2)⟩⟩
  · rcases hat with e | e
    · exact .inl (.inl (hovK g (e.symm.trans hgo)))
    · have hlt := (hown.lt g hgo).2
      rw [e] at hgo
      have := Option.some.inj hgo
      exact .inr ⟨by omega, hlt⟩
  · by_cases hji : j < i
    · obtain ⟨A1, c1, x0, x2, x3, x4⟩ := ho.each j u' hji hu'
      refine ⟨A1, c1, ?_, ?_, own_keep x3 fun g hgo => ?_, fun g hgo => .inl (.inl (h.old g (x4 g hgo)).1)⟩
      · rw [List.getElem?_append_left (by omega)]; exact x0
      · rw [List.getElem?_append_left (by omega)]; exact x2
      · have hgK := x4 g hgo
        have hgB := hKO g hgK
        have hne : some g ≠ ov.ownBlock := fun e => by
          obtain ⟨cs, hcs⟩ := own_blk ho.row e.symm
          exact own_apart x3 hcs (by decide) hgo
        exact (hk5 g (.inl (h.old g hgK).1) hne).trans ((e4 g (h.old g hgK).1 (by omega)).trans (h.old g hgK).2)
    · obtain rfl : j = i := by omega
      rw [hu] at hu'
      obtain rfl := Option.some.inj hu'
      have hr := h.row
      rw [List.take_of_length_le (by rw [unBlks_len]; exact Nat.le_refl _)] at hr
      have hr0 := own_base (base' := 0) hr (fun _ _ => Nat.zero_le _)
      refine ⟨A, c, ?_, ?_, own_keep hr0 fun g hgo => ?_, fun g hgo => .inl (.inl (h.inn g hgo))⟩
      · rw [List.getElem?_append_right (by omega), hxl, Nat.sub_self]; rfl
      · rw [List.getElem?_append_right (by omega), hxl, show j * 3 + 2 - j * 3 = 2 by omega]; rfl
      · have hgr := row_lo h.row g hgo
        have hne : some g ≠ ov.ownBlock := fun e => by have := hovB g e.symm; omega
        exact (hk5 g (.inl (h.inn g hgo)) hne).trans (e4 g (h.inn g hgo) (by omega))
theorem Inn.outer {w0 vs v : World} {B0 : Nat} {KO K : Nat → Prop} {s p q n m i k : Nat} {V Vp : List Un} {u : Un} {A : Option Addr} {c : Nat} {ov : Value} {xs : List Value} (h : Inn w0 vs v KO K s p q n m V Vp u k A c) (ho : Ouw w0 vs B0 KO s p q n m V Vp i ov xs) (x : Value) (cs : Array Value) :
    ((v.setCell ⟨vs.heap.size, 2, none⟩ x).alloc (.cells cs 165)).ownsRow B0 165 3 ov i xs := by
  refine own_keep ho.row fun g hgo => ?_
  have hK := ho.inn g hgo
  have hB := ho.uk.lt g hK
  have e1 : ((v.setCell ⟨vs.heap.size, 2, none⟩ x).alloc (.cells cs 165)).heap[g]? = (v.setCell ⟨vs.heap.size, 2, none⟩ x).heap[g]? := ((Below.refl _ _).alloc (Nat.le_refl _) _).block g (by have := h.uk.lt g (h.old g hK).1; simp; omega)
  rw [e1]
  exact (Below.heap_setCell _ _ _ _ (show g ≠ vs.heap.size by omega)).trans (h.old g hK).2
open Go.RowKit
open Ext (Ex Exts exV ExtsF textX)
set_option maxRecDepth 100000 in
set_option maxHeartbeats 4000000 in
theorem seen_uk {w0 w : World} {K1 : Nat → Prop} {s p q n : Nat} {V Vp : List Un} {m : Nat} (h : Uk w0 w K1 s p q n V Vp m) (ht : Tab w0) (A : Option Addr) (c : Nat) (hl : Uns w0 A (V.map fun u => (u.n, u.id))) :
    Calls Tryz.prog 29 #[.pointer (some ⟨s, 0, none⟩), .slice A V.length c] w fun e w' => ∃ K ov xs, e = .returned (.tuple #[ov, .bool true]) ∧ Ouw w0 w' w.heap.size K s p q n m V Vp V.length ov xs ∧ ∀ k, K1 k → K k ∧ w'.heap[k]? = w.heap[k]? := by
  have hVn : ∀ u ∈ V, 1 ≤ u.n ∧ u.n ≤ 4096 := by
    obtain ⟨S, x, j, st, _, _, _, hi, _⟩ := h.has
    intro u hu
    rw [hi.view] at hu
    obtain ⟨t, ht, rfl⟩ := List.mem_map.1 hu
    exact ⟨(hi.tells.oks t ht).n1, (hi.tells.oks t ht).n2⟩
  have hV8 : V.length ≤ 8 := by
    obtain ⟨S, x, j, st, _, _, _, hi, _⟩ := h.has
    rw [hi.view, List.length_map]
    exact hi.tells.few
  have H := Lib.hid h; have HT := Lib.hid ht; have HL := Lib.hid hl; have HVN := Lib.hid hVn
  obtain ⟨iu, hiu, zu0, zu1, zu2⟩ := info_parts info_un8
  obtain ⟨is, his, zs0, zs1, zs2⟩ := info_parts info9
  clear h ht hl hVn
  go_enter Tryz.func29, Tryz.ntmps29
  go_wp2_with (fail)
  go_loopw [6, 7] (fun o i v => ∃ (K : Nat → Prop) (xs : List Value) (k : Nat), i = .int .i64 k ∧ k ≤ V.length ∧ Ouw w0 v w.heap.size K s p q n m V Vp k o xs ∧ w.heap.size ≤ v.heap.size ∧ ∀ k, K1 k → K k ∧ v.heap[k]? = w.heap[k]?) (fun _ i _ => V.length - (intOf i).toNat)
  case atStart => exact ⟨K1, [], 0, rfl, Nat.zero_le _, ⟨H.out, World.ownsRow_nil _ _ _ _, fun g hg => by simp [Value.ownBlock] at hg, fun j u hj => absurd hj (Nat.not_lt_zero _)⟩, Nat.le_refl _, fun k hk => ⟨hk, rfl⟩⟩
  case round =>
    obtain ⟨K, xs, i, rfl, hi, hou, hwz, hk1⟩ := hrel
    have HWZ := Lib.hid hwz
    have HOU := Lib.hid hou
    have HK1 := Lib.hid hk1
    clear hou hk1 hwz
    generalize wr = v at *
    by_cases hlt : i < V.length
    · have hki : (i : Int) < (V.length : Int) := by omega
      have hu := List.getElem?_eq_getElem hlt
      have hnn := HVN.out V[i] (List.getElem_mem _)
      generalize V[i] = u at hu hnn
      have HU := Lib.hid hu; have HNN := Lib.hid hnn
      obtain ⟨nb, hnb⟩ : ∃ nb : Nat, u.n = (nb : Int) := ⟨u.n.toNat, by omega⟩
      have HNB := Lib.hid hnb
      obtain ⟨b, o, u', rfl, hat, l0, l1⟩ := HL.out.at_ (j := i) (by rw [List.length_map]; exact hlt)
      obtain rfl : (u.n, u.id) = u' := by
        rw [List.getElem?_map, hu] at hat
        exact Option.some.inj hat
      simp only at l0
      rw [hnb] at l0
      have HL0 := Lib.hid l0
      have HI0 := Lib.hid (Inn.begin (u := u) HOU.out.uk)
      obtain ⟨K0, hK0⟩ : ∃ K0 : Nat → Prop, K0 = fun k => K k ∨ (v.heap.size ≤ k ∧ k < (v.alloc (.cells #[.slice none 0 0, .slice none 0 0, .string ⟨#[]⟩] 165)).heap.size) := ⟨_, rfl⟩
      rw [← hK0] at HI0
      clear hat l1 l0 hu hnn hnb hK0
      go_wp2_with (fail)
      go_loopw [9] (fun kk v2 => ∃ (K2 : Nat → Prop) (A2 : Option Addr) (c2 k : Nat), kk = .int .i64 k ∧ k ≤ nb ∧ Inn w0 v v2 K K2 s p q n m V Vp u k A2 c2) (fun kk _ => nb - (intOf kk).toNat)
      case atStart => exact ⟨K0, none, 0, 0, rfl, Nat.zero_le _, HI0.out⟩
      case round =>
        obtain ⟨K2, A2, c2, k, rfl, hk, hin⟩ := hrel
        have HIN := Lib.hid hin
        have l0 : wr.cell? ⟨b, o + i * 2, none⟩ = some (.int .i64 (nb : Int)) := (hin.uk.below.cell (World.block_lt_of_cell? _ _ HL0.out)).trans HL0.out
        clear hin HI0
        generalize wr = v2 at *
        by_cases hlk : k < nb
        · have hkk : (k : Int) < (nb : Int) := by omega
          have hwk : IntKind.i64.wrap ((k : Int) + 1) = ((k + 1 : Nat) : Int) := by
            have h1 := HNN.out
            have h2 := HNB.out
            rw [i64w _ (by omega)]; omega
          have HRD := Lib.hid (read_uk HIN.out.uk HU.out (lba := k) (k := 1) (by have := HNB.out; omega))
          have HKN := Lib.hid (show k < u.n.toNat by have := HNB.out; omega)
          have HK4 := Lib.hid (show k ≤ 4096 by have := HNB.out; have := HNN.out; omega)
          obtain ⟨z, hz⟩ : ∃ z, u.rd k 1 = z := ⟨_, rfl⟩
          have HZ := Lib.hid hz
          rw [hz] at HRD
          clear hz
          go_wp2_with (fail)
          refine HRD.out.mono ?_; rintro e v3 ⟨rfl, huk, hkp⟩
          have HI3 := Lib.hid (HIN.out.read huk hkp)
          clear huk hkp HRD l0
          have e0 : v3.cell? ⟨v.heap.size, 0, none⟩ = some (.slice A2 k c2) := (HI3.out.blk.cell 0).trans rfl
          have HI4 := Lib.hid (HI3.out.more ((Below.refl v3.heap.size v3).alloc (Nat.le_refl _) (.cells #[.string z] 9)))
          have HNW := Lib.hid (Blk.new v3 9 #[.string z])
          have HCN : Hid (∀ j y, [Value.string z][j]? = some y → (v3.alloc (.cells #[.string z] 9)).cell? ((⟨v3.heap.size, 0, none⟩ : Addr).add j) = some y) := Lib.hid (fun j y hj => by
            match j, hj with
            | 0, hj =>
              obtain rfl := Option.some.inj hj
              rw [Addr.add_lit]
              exact (HNW.out.cell 0).trans rfl)
          go_wp2_with (at_builtin; refine wpList_append_own_at _ rfl (.tmp 40) (.tmp 42) _ rfl (v.heap.size + 1) 9 is _ 1 16 Tryz.underlying101 his zs0 zs1 zs2 rfl (by omega) (.slice A2 k c2) k (((unBlks u).take k).map .string) rfl HI4.out.row _ 1 1 [.string z] rfl rfl HCN.out (fun y hy => by rw [List.mem_singleton.1 hy]; rfl) (by have := HK4.out; unfold maxLen; omega) (by have := HK4.out; omega) (by have := HI3.out.uk.lt _ HI3.out.own; simp; omega) ?_; intro hv' w5 hown5 hg5 hn5 hat5; obtain ⟨A5, c5, rfl⟩ := Ext.own_form hown5; have HO5 := Lib.hid hown5; have HG5 := Lib.hid hg5; have HT5 := Lib.hid hat5; have hb5 := HI4.out.blk.grown hg5 (fun e => by have := row_lo HI4.out.row _ e.symm; omega); have c5' : w5.cell? ⟨v.heap.size, 0, none⟩ = some (.slice A2 k c2) := (hb5.cell 0).trans rfl; have f5 := hb5.free 0; clear hown5 hg5 hn5 hat5 hb5)
          obtain ⟨K6, hin6⟩ := Inn.app HI4.out HT.out HOU.out.uk.lt HKN.out (by rw [HZ.out]; exact HO5.out) HG5.out HT5.out
          exact ⟨⟨K6, A5, c5, k + 1, rfl, hlk, hin6⟩, by simp only [intOf]; omega⟩
        · obtain rfl : k = nb := by omega
          have hkk : ¬ (k : Int) < (k : Int) := by omega
          have HRC := Lib.hid (recorded_uk HIN.out.uk HU.out)
          have hwi : IntKind.i64.wrap ((i : Int) + 1) = ((i + 1 : Nat) : Int) := by rw [i64w _ (by omega)]; omega
          go_wp2_with (fail)
          refine HRC.out.mono ?_; rintro e v3 ⟨rfl, huk, hkp⟩
          have HI3 := Lib.hid (HIN.out.read huk hkp)
          clear huk hkp HRC l0
          have c2' : v3.cell? ⟨v.heap.size, 2, none⟩ = some (.string ⟨#[]⟩) := (HI3.out.blk.cell 2).trans rfl
          have f2 := HI3.out.blk.free 2
          go_upto_region 17 with (fail)
          have HB4 := Lib.hid (HI3.out.blk.put 2 (.string u.rc))
          have d0 : (v3.setCell ⟨v.heap.size, 2, none⟩ (.string u.rc)).cell? ⟨v.heap.size, 0, none⟩ = some (.slice A2 k c2) := (HB4.out.cell 0).trans rfl
          have d1 : (v3.setCell ⟨v.heap.size, 2, none⟩ (.string u.rc)).cell? ⟨v.heap.size, 1, none⟩ = some (.slice none 0 0) := (HB4.out.cell 1).trans rfl
          have d2 : (v3.setCell ⟨v.heap.size, 2, none⟩ (.string u.rc)).cell? ⟨v.heap.size, 2, none⟩ = some (.string u.rc) := (HB4.out.cell 2).trans rfl
          have HNU := Lib.hid (show u.n.toNat = k by have := HNB.out; omega)
          have HI5 : Hid (Inn w0 v v3 K K2 s p q n m V Vp u u.n.toNat A2 c2) := Lib.hid (by rw [HNU.out]; exact HI3.out)
          have HRO := Lib.hid (HI3.out.outer HOU.out (.string u.rc) #[.slice A2 k c2, .slice none 0 0, .string u.rc])
          have HNW := Lib.hid (Blk.new (v3.setCell ⟨v.heap.size, 2, none⟩ (.string u.rc)) 165 #[.slice A2 k c2, .slice none 0 0, .string u.rc])
          have HS4 : Hid ((v3.setCell ⟨v.heap.size, 2, none⟩ (.string u.rc)).heap.size = v3.heap.size) := Lib.hid (by simp)
          have HCN : Hid (∀ j y, [Value.slice A2 k c2, .slice none 0 0, .string u.rc][j]? = some y → ((v3.setCell ⟨v.heap.size, 2, none⟩ (.string u.rc)).alloc (.cells #[.slice A2 k c2, .slice none 0 0, .string u.rc] 165)).cell? ((⟨v3.heap.size, 0, none⟩ : Addr).add j) = some y) := Lib.hid (fun j y hj => by
            rw [Addr.add_lit, Nat.zero_add, ← HS4.out]
            match j, hj with
            | 0, hj =>
              obtain rfl := Option.some.inj hj
              exact (HNW.out.cell 0).trans rfl
            | 1, hj =>
              obtain rfl := Option.some.inj hj
              exact (HNW.out.cell 1).trans rfl
            | 2, hj =>
              obtain rfl := Option.some.inj hj
              exact (HNW.out.cell 2).trans rfl)
          clear c2' f2 HB4 HNW
          go_wp2_with (at_builtin; refine wpList_append_own_at _ rfl (.tmp 55) (.tmp 57) _ rfl w.heap.size 165 iu _ 3 64 Tryz.underlying54 hiu zu0 zu1 zu2 rfl (by omega) _ i xs rfl HRO.out _ 1 1 [.slice A2 k c2, .slice none 0 0, .string u.rc] rfl rfl HCN.out (fun y hy => by simp at hy; rcases hy with rfl | rfl | rfl <;> rfl) (by unfold maxLen; omega) (by omega) (by have := HWZ.out; have := HI3.out.size; simp; omega) ?_; intro hv' w5 hown5 hg5 hn5 hat5; have HO5 := Lib.hid hown5; have HG5 := Lib.hid hg5; have HT5 := Lib.hid hat5; clear hown5 hg5 hn5 hat5)
          obtain ⟨K6, hou6, hkk6⟩ := Inn.close HI5.out HOU.out HT.out HU.out (by rw [HNU.out]; exact HO5.out) (by rw [HNU.out]; exact HG5.out) (by rw [HNU.out]; exact HT5.out)
          have hwz6 : w.heap.size ≤ w5.heap.size := by
            have h1 := HWZ.out
            have h2 := HI3.out.size
            have h3 := HG5.out.size
            simp at h3
            omega
          have hk6 : ∀ g, K1 g → K6 g ∧ w5.heap[g]? = w.heap[g]? := fun g hg => by
            have h1 := HK1.out g hg
            have h2 := hkk6 g h1.1 (fun e => by
              have h3 := row_lo HOU.out.row g e.symm
              have h4 := H.out.lt g hg
              omega)
            exact ⟨h2.1, h2.2.trans h1.2⟩
          exact ⟨⟨K6, _, i + 1, rfl, hlt, hou6, hwz6, hk6⟩, by simp only [intOf]; omega⟩
    · obtain rfl : i = V.length := by omega
      have hki : ¬ (V.length : Int) < (V.length : Int) := by omega
      go_wp2_with (fail)
      go_ret2
      first | exact ⟨K, _, rfl, xs, HOU.out, HK1.out⟩ | exact ⟨K, _, rfl, ⟨xs, HOU.out⟩, HK1.out⟩ | exact ⟨K, _, xs, rfl, HOU.out, HK1.out⟩
open Go.RowKit
open Ext (Ex Exts exV ExtsF textX)
set_option maxRecDepth 100000 in
set_option maxHeartbeats 2000000 in
theorem units_any2 (w : World) {S : Nat → Prop} {s p q n : Nat} {x : St} {j : Jn} {st : Sto} (h : Has w S s p q n x j st) (hn : st.l.length ≤ 8) (hid : ∀ t ∈ st.l, t.id.size ≤ 16) :
    Calls Tryz.prog 28 #[.pointer (some ⟨s, 0, none⟩)] w fun e w' => ∃ g, e = .returned (.slice (some ⟨g, 0, none⟩) st.l.length st.l.length) ∧ Uns w' (some ⟨g, 0, none⟩) (st.l.map fun t => (t.n, t.id)) ∧ w.heap.size ≤ g ∧ ∃ S', SD w' S' s p q n x j st ∧ Only S w w' ∧ Grew S w S' ∧ ¬ S' g := by
  have HT := Lib.hid (tables_any w h)
  have HD := Lib.hid (fun v T (hh : SD v T s p q n x j st) => tables_done v hh)
  have HMK := Lib.hid (fun v => make_uns st.l v (by omega))
  have HID := Lib.hid hid
  have HKP := Lib.hid (fun v T (hh : SD v T s p q n x j st) v' (hb : Below v.heap.size v v') => hh.below hb)
  obtain ⟨l, hl⟩ : ∃ l, st.l = l := ⟨_, rfl⟩
  rw [hl] at HT HD HMK HID hn ⊢
  clear h hid hl
  go_enter Tryz.func28, Tryz.ntmps28
  go_wp2_with (fail)
  refine HT.out.mono ?_; rintro e w1 ⟨b, o, c, S1, rfl, hsd, htb, ho, hg⟩
  obtain ⟨cs, hmk, hto⟩ := HMK.out w1
  have HTO := Lib.hid hto; have HSD := Lib.hid hsd; have HO := Lib.hid ho; have HG := Lib.hid hg
  clear hto hsd htb ho hg HT
  go_wp2_with (fail)
  have HK0 := Lib.hid (Blk.new w1 27 cs)
  have HBA := Lib.hid ((Below.refl w1.heap.size w1).alloc (Nat.le_refl _) (.cells cs 27))
  clear hmk
  generalize w1.alloc (.cells cs 27) = w0 at *
  refine (HD.out w0 S1 (HKP.out _ _ HSD.out _ HBA.out)).mono ?_; rintro e w2 ⟨b, o, c, rfl, htb, rfl⟩
  have HTB := Lib.hid htb
  clear htb HD
  go_wp2_with (fail)
  go_loopw [13] (fun i v => ∃ (k : Nat) (cs : Array Value), i = .int .i64 k ∧ k ≤ l.length ∧ Blk v w1.heap.size 27 cs ∧ Told l k cs ∧ Below w1.heap.size w1 v ) (fun i _ => l.length - (intOf i).toNat)
  case atStart => exact ⟨0, cs, rfl, Nat.zero_le _, HK0.out, HTO.out, HBA.out⟩
  case round =>
    obtain ⟨k, cs, rfl, hk, hbk, hm, hb⟩ := hrel
    have HK := Lib.hid hbk; have HM := Lib.hid hm; have HB := Lib.hid hb
    clear hbk hm hb HK0 HTO
    generalize wr = W at *
    by_cases hlt : k < l.length
    · have hki : (k : Int) < l.length := by omega
      have htw : Tbs W S1 (some ⟨b, o, none⟩) l := HTB.out.kept fun i hi => (HB.out.block i (HSD.out.lt i hi)).trans (HBA.out.block i (HSD.out.lt i hi)).symm
      obtain ⟨b2, o2, t, E, ce, hbo, hat, c0, c1, c2, c3, _, _⟩ := htw.at_ hlt
      obtain ⟨rfl, rfl⟩ : b = b2 ∧ o = o2 := by simpa using hbo
      have HST := Lib.hid (HM.out.step hlt hat)
      have hz := HM.out.size
      have hti := HID.out t (List.mem_of_getElem? hat)
      obtain ⟨hnb, hb1⟩ := one_alloc W #[.int .i64 t.n, .string t.id, .string t.rc, .slice E t.ex.length ce] 140 _ rfl
      obtain ⟨W1, hW1⟩ : ∃ W1, W1 = W.alloc (.cells #[.int .i64 t.n, .string t.id, .string t.rc, .slice E t.ex.length ce] 140) := ⟨_, rfl⟩
      have HW1 := Lib.hid hW1
      rw [← hW1] at hb1 hnb
      have HNB := Lib.hid hnb
      have HBW := Lib.hid hb1
      have HKW := Lib.hid (HK.out.below hb1 HK.out.lt)
      have HCL := Lib.hid (fun v => clone_any t.id v (by omega))
      have hz2 : k * 2 + 1 < cs.size := by omega
      have hne : ¬ W.heap.size = w1.heap.size := by have := HK.out.lt; omega
      clear hat hnb hb1 hW1 htw hbo hz hti
      go_upto_region 5 with (fail)
      rw [← HW1.out]
      have k0 : W1.cell? ⟨W.heap.size, 0, none⟩ = some (.int .i64 t.n) := (HNB.out.cell 0).trans rfl
      have k1 : W1.cell? ⟨W.heap.size, 1, none⟩ = some (.string t.id) := (HNB.out.cell 1).trans rfl
      have BD := Lib.hid (HB.out.trans ((HBW.out.mono HB.out.size).drew))
      clear c0 c1 c2 c3 HNB HW1 HBW HK
      go_region_held3 (fun v => v.cell? ⟨W.heap.size, 0, none⟩ = some (.int .i64 t.n) ∧ v.cell? ⟨W.heap.size, 1, none⟩ = some (.string t.id)) (first | exact ⟨k0, k1⟩ | exact ⟨e0, e1⟩ | exact ⟨m0, m1⟩) (first
        | (go_at_call 83; refine (HCL.out _).mono ?_; rintro e w4 ⟨rfl, hb4⟩
           have e0 := (hb4.cell (p := ⟨W.heap.size, 0, none⟩) (World.block_lt_of_cell? _ _ k0)).trans k0
           have e1 := (hb4.cell (p := ⟨W.heap.size, 1, none⟩) (World.block_lt_of_cell? _ _ k1)).trans k1
           have HK4 := Lib.hid (HKW.out.drew.below hb4 HKW.out.drew.lt)
           have B4 := Lib.hid (BD.out.trans (hb4.mono BD.out.size))
           have d0 : w4.cell? ⟨w1.heap.size, k * 2, none⟩ = some cs[k * 2] := (HK4.out.cell _).trans (Array.getElem?_eq_getElem (by omega))
           have d1 : w4.cell? ⟨w1.heap.size, k * 2 + 1, none⟩ = some cs[k * 2 + 1] := (HK4.out.cell _).trans (Array.getElem?_eq_getElem (by omega))
           generalize cs[k * 2] = v0 at d0
           generalize cs[k * 2 + 1] = v1 at d1
           have f0 := HK4.out.free (k * 2)
           have f1 := HK4.out.free (k * 2 + 1)
           have HKA := Lib.hid ((HK4.out.put (k * 2) (.int .i64 t.n)).put (k * 2 + 1) (.string t.id))
           have HBB := Lib.hid ((B4.out.setCell (p := ⟨w1.heap.size, k * 2, none⟩) (Nat.le_refl _) (.int .i64 t.n)).setCell (p := ⟨w1.heap.size, k * 2 + 1, none⟩) (Nat.le_refl _) (.string t.id))
           have m0 := ((only_put w4 w1.heap.size (k * 2) (.int .i64 t.n)).put (k * 2 + 1) (.string t.id)).cell e0 hne
           have m1 := ((only_put w4 w1.heap.size (k * 2) (.int .i64 t.n)).put (k * 2 + 1) (.string t.id)).cell e1 hne
           clear hb4)
        | fail)
      all_goals (
        clear k0 k1 e0 e1 m0 m1 d0 d1 f0 f1 HK4 B4
        go_wp2_with (fail)
        go_roundw
        case rel => exact ⟨k + 1, _, by go_num, by omega, HKA.out, HST.out, HBB.out⟩
        case measure => simp [intOf]; omega)
    · obtain rfl : k = l.length := by omega
      have hge : ¬ (l.length : Int) < l.length := by omega
      go_wp2_with (fail)
      go_ret
      refine ⟨w1.heap.size, rfl, fun _ => ⟨w1.heap.size, 0, rfl, fun j u hj => ?_⟩, HO.out.size, S1, HSD.out.below HB.out, HO.out.below HB.out, HG.out, fun hh => absurd (HSD.out.lt _ hh) (Nat.lt_irrefl _)⟩
      rw [List.getElem?_map] at hj
      cases hu : l[j]? with
      | none => rw [hu] at hj; cases hj
      | some u =>
        rw [hu] at hj
        obtain rfl := Option.some.inj hj
        have hjl := (List.getElem?_eq_some_iff.1 hu).1
        obtain ⟨a0, a1⟩ := HM.out.done j u hjl hu
        rw [Nat.zero_add]
        exact ⟨(HK.out.cell _).trans a0, (HK.out.cell _).trans a1⟩
theorem units_uk {w0 w : World} {s p q n : Nat} {V Vp : List Un} {m : Nat} (h : Us w0 w s p q n V Vp m) :
    Calls Tryz.prog 28 #[.pointer (some ⟨s, 0, none⟩)] w fun e w' => ∃ g, e = .returned (.slice (some ⟨g, 0, none⟩) V.length V.length) ∧ Uns w' (some ⟨g, 0, none⟩) (V.map fun u => (u.n, u.id)) ∧ Uk w0 w' (fun k => k = g) s p q n V Vp m := by
  obtain ⟨S, x, j, st, hh, hs, hi, h1, h2, h3⟩ := h.has
  have hv1 := (hi.tells.one)
  have e1 : V.length = st.l.length := by rw [hi.view, List.length_map]
  have e2 : (V.map fun u => (u.n, u.id)) = st.l.map fun t => (t.n, t.id) := by rw [hi.view, List.map_map]; rfl
  refine (units_any2 w hh hi.tells.few (fun t ht => by have := (hi.tells.oks t ht).id; omega)).mono ?_
  rintro e w' ⟨g, rfl, hu, hge, S', hsd, ho, hg, hno⟩
  rw [e1, e2]
  have hgl : g < w'.heap.size := by
    obtain ⟨b, o, e, k⟩ := hu (by rw [List.length_map]; omega)
    have e := Option.some.inj e
    injection e with eb eo
    subst eb eo
    exact World.block_lt_of_cell? w' ⟨g, 0 + 0 * 2, none⟩ (k 0 _ (List.getElem?_eq_getElem (by rw [List.length_map]; omega))).1
  exact ⟨g, rfl, hu, ⟨⟨S', x, j, st, .inl hsd, grew_lo hg hs h.below.size, fun k hk => by rw [hk]; exact hno, hi, h1, h2, h3⟩, fun k hk => by rw [hk]; exact hgl, fun k hk => by rw [hk]; exact Nat.le_trans h.below.size hge, below_go h.below ho hs⟩⟩
/-- The device beneath is opened anew. -/
theorem open_uk {w0 w : World} {K : Nat → Prop} {s p q n : Nat} {V Vp : List Un} {m : Nat} (h : Uk w0 w K s p q n V Vp m) (hm : m ≤ 500) (ht : Tab w0) :
    Calls Tryz.prog 21 #[.pointer (some ⟨p, 0, none⟩)] w fun e w' => ∃ s' q', e = .returned (.tuple #[.pointer (some ⟨s', 0, none⟩), .int .i64 0]) ∧ Uk w0 w' K s' p q' n V V (m + 1) ∧ ∀ k, K k → w'.heap[k]? = w.heap[k]? := by
  obtain ⟨S, x, j, st, hh, hs, hK, hi, h1, h2, h3⟩ := h.has
  obtain ⟨F, hF, hsub⟩ := hh.dv
  obtain ⟨f1, f2, f3⟩ := free_flsh hi.armed hi.down
  obtain ⟨k1, k2, _⟩ := flsh_yes f1
  have hf := flsh_ops x
  have hlo : ∀ k, F k → w0.heap.size ≤ k := fun k hk => hs k (hsub k hk)
  refine (sopen_ok w hF (ht.below h.below) (lo_far ht hlo) hi.down hi.disk hi.tells (by omega) f1 hi.big).mono ?_
  rintro e w' ⟨s', q', S', rfl, hsd, ho, hg⟩
  have hinv := inv_first hi.tells k2 (by rw [k1]; exact hi.disk) f3 f2
  rw [flsh_seen, ← hi.view] at hinv
  have hno : ∀ k, K k → ¬ F k := fun k hk hf => hK k hk (hsub k hf)
  refine ⟨s', q', rfl, ⟨⟨S', x.flsh.1, j, firstS st.l, .inl hsd, grew_lo hg hlo h.below.size, fun k hk hS => ?_, hinv, by omega, by omega, Nat.zero_le _⟩, fun k hk => Nat.lt_of_lt_of_le (h.lt k hk) ho.size, h.lo, below_go h.below ho hlo⟩, fun k hk => ho.block k (h.lt k hk) (hno k hk)⟩
  rcases hg k hS with h4 | h4
  · exact hno k hk h4
  · have := h.lt k hk; omega
open Go.RowKit
open Ext (Ex Exts exV ExtsF textX)
/-- The row of units, without the store. -/
structure Oux (v : World) (K : Nat → Prop) (V : List Un) (ov : Value) (xs : List Value) : Prop where
  row : v.ownsRow 0 165 3 ov V.length xs
  inn : ∀ g, ov.ownBlock = some g → K g
  each : ∀ j u, V[j]? = some u → RowOk v K xs j u
theorem Ouw.oux {w0 v : World} {B0 : Nat} {K : Nat → Prop} {s p q n m : Nat} {V Vp : List Un} {ov : Value} {xs : List Value} (h : Ouw w0 v B0 K s p q n m V Vp V.length ov xs) : Oux v K V ov xs :=
  ⟨own_base h.row (fun _ _ => Nat.zero_le _), h.inn, fun j u hu => h.each j u (List.getElem?_eq_some_iff.1 hu).1 hu⟩
theorem Oux.keep {v v' : World} {K : Nat → Prop} {V : List Un} {ov : Value} {xs : List Value} (h : Oux v K V ov xs) (hk : ∀ k, K k → v'.heap[k]? = v.heap[k]?) : Oux v' K V ov xs :=
  ⟨own_keep h.row fun g hg => hk g (h.inn g hg), h.inn, fun j u hu => by
    obtain ⟨A, c, x0, x2, x3, x4⟩ := h.each j u hu
    exact ⟨A, c, x0, x2, own_keep x3 fun g hg => hk g (x4 g hg), x4⟩⟩
def StIn (w : World) (A : Option Addr) (V : List Un) : Prop := ∀ (j : Nat) (u : Un), V[j]? = some u → ∃ b o A1 c1, A = some ⟨b, o, none⟩ ∧ w.cell? ⟨b, o + j * 3, none⟩ = some (.slice A1 u.n.toNat c1) ∧ w.cell? ⟨b, o + j * 3 + 2, none⟩ = some (.string u.rc) ∧ Seen w A1 (unBlks u)
theorem StIn.below {w w' : World} {A : Option Addr} {V : List Un} (h : StIn w A V) (hb : Below w.heap.size w w') : StIn w' A V := fun j u hu => by
  obtain ⟨b, o, A1, c1, e, k0, k2, k3⟩ := h j u hu
  exact ⟨b, o, A1, c1, e, (hb.cell (World.block_lt_of_cell? _ _ k0)).trans k0, (hb.cell (World.block_lt_of_cell? _ _ k2)).trans k2, k3.below hb⟩
theorem seen_own {w : World} {base n c : Nat} {A : Option Addr} {L : List ByteArray} (h : w.ownsRow base 9 1 (.slice A n c) n (L.map .string)) (hl : L.length = n) : Seen w A L := fun i s hs => by
  have hi := (List.getElem?_eq_some_iff.1 hs).1
  obtain ⟨g, cur, rfl, _, hb, ht⟩ := Ext.own_some h (by omega)
  refine ⟨g, 0, rfl, ?_⟩
  have hx : (L.map Value.string)[i]? = some (.string s) := by rw [List.getElem?_map, hs]; rfl
  rw [← ht, List.getElem?_take, if_pos (by omega)] at hx
  rw [Nat.zero_add, hb.cell]
  simpa using hx
theorem Oux.st {v : World} {K : Nat → Prop} {V : List Un} {ov : Value} {xs : List Value} (h : Oux v K V ov xs) : ∃ A c, ov = .slice A V.length c ∧ StIn v A V := by
  obtain ⟨A, c, rfl⟩ := own_form h.row
  refine ⟨A, c, rfl, fun j u hu => ?_⟩
  have hj := (List.getElem?_eq_some_iff.1 hu).1
  obtain ⟨A1, c1, x0, x2, x3, _⟩ := h.each j u hu
  obtain ⟨g, cur, rfl, _, hb, ht⟩ := Ext.own_some h.row (by omega)
  have key : ∀ i y, xs[i]? = some y → cur[i]? = some y := fun i y hy => by
    rw [← ht, List.getElem?_take] at hy
    split at hy
    · simpa using hy
    · cases hy
  refine ⟨g, 0, A1, c1, rfl, ?_, ?_, seen_own x3 (unBlks_len u)⟩
  · rw [Nat.zero_add, hb.cell]; exact key _ _ x0
  · rw [Nat.zero_add, hb.cell]; exact key _ _ x2
end Go.Proofs.YtglfjlbhjaemgaaGreatDoor
