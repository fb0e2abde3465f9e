/- Registrations and tables in memory; who is registered, by the program's own way. What a type lets whom do: the program's functions. Who holds, and who may: the program's functions. Who holds, and who may: the document's functions. Tables copied, compared, told too large; the statements' own first table. -/
import Derived.Test.YtgekadfkokkapaaDoorChecked
import Derived.Test.YtgekadfkokkapaaDoorPk01
import Derived.ProofKit
import Derived.StillTailTactics
import Derived.Deep.RegionHeld3
import Derived.Laws.OwnMore
import Derived.Laws.IdiomCopy
import Derived.Maps.AppendAt
import Derived.Deep.Cut
import Derived.Deep.QuietTactic
import Derived.BigQuiet
import Derived.BigRegion
import Derived.Deep.RegionLaw
namespace Go.Proofs.YtgekadfkokkapaaDoor
open Go.RowKit
/-- A registration: whose, with which key. -/
structure Rg where
  h : ByteArray
  k : Int
abbrev rgV (x : Rg) : Value := .agg #[.string x.h, .int .u64 x.k]
/-- Registrations in memory. -/
def Rgs (w : World) (A : Option Addr) (l : List Rg) : Prop :=
  0 < l.length → ∃ b o, A = some ⟨b, o, none⟩ ∧ ∀ (j : Nat) (x : Rg), l[j]? = some x → x.h.size ≤ maxLen ∧ w.cell? ⟨b, o + j * 2, none⟩ = some (.string x.h) ∧ w.cell? ⟨b, o + j * 2 + 1, none⟩ = some (.int .u64 x.k)
theorem Rgs.kept {w w' : World} {A : Option Addr} {l : List Rg} (h : Rgs w A l) (hb : 0 < l.length → ∀ a, A = some a → w'.heap[a.block]? = w.heap[a.block]?) : Rgs w' A l := fun hn => by
  obtain ⟨b, o, rfl, hc⟩ := h hn
  have e := hb hn _ rfl
  refine ⟨b, o, rfl, fun j v hj => ?_⟩
  obtain ⟨h0, h1, h2⟩ := hc j v hj
  exact ⟨h0, (World.cell?_of_block (a := ⟨b, o + j * 2, none⟩) e).trans h1, (World.cell?_of_block (a := ⟨b, o + j * 2 + 1, none⟩) e).trans h2⟩
theorem Rgs.lt {w : World} {A : Option Addr} {l : List Rg} (h : Rgs w A l) (hn : 0 < l.length) (a : Addr) (ha : A = some a) : a.block < w.heap.size := by
  obtain ⟨b, o, rfl, hc⟩ := h hn
  injection ha with ha
  subst ha
  exact World.block_lt_of_cell? w ⟨b, o + 0 * 2, none⟩ (hc 0 _ (List.getElem?_eq_getElem hn)).2.1
theorem Rgs.below {w w' : World} {A : Option Addr} {l : List Rg} (h : Rgs w A l) (hb : Below w.heap.size w w') : Rgs w' A l :=
  h.kept fun hn a ha => hb.block _ (h.lt hn a ha)
theorem Rgs.at_ {w : World} {A : Option Addr} {l : List Rg} (h : Rgs w A l) {j : Nat} (hj : j < l.length) : ∃ b o x, A = some ⟨b, o, none⟩ ∧ l[j]? = some x ∧ x.h.size ≤ maxLen ∧ w.cell? ⟨b, o + j * 2, none⟩ = some (.string x.h) ∧ w.cell? ⟨b, o + j * 2 + 1, none⟩ = some (.int .u64 x.k) := by
  obtain ⟨b, o, rfl, hc⟩ := h (by omega)
  exact ⟨b, o, _, rfl, List.getElem?_eq_getElem hj, hc j _ (List.getElem?_eq_getElem hj)⟩
theorem Rgs.nil (w : World) (A : Option Addr) : Rgs w A [] := fun h => absurd h (Nat.not_lt_zero _)
/-- Are two texts alike? -/
def eqS (a b : ByteArray) : Bool := a.toList == b.toList
/-- Is a host registered? -/
def regB (l : List Rg) (h : ByteArray) : Bool := l.any fun r => eqS r.h h
theorem regB_take (l : List Rg) (h : ByteArray) (k : Nat) (x : Rg) (hx : l[k]? = some x) : regB (l.take (k + 1)) h = (regB (l.take k) h || eqS x.h h) := by
  obtain ⟨hk, rfl⟩ := List.getElem?_eq_some_iff.1 hx
  unfold regB
  rw [List.take_succ_eq_append_getElem hk, List.any_append]
  simp only [List.any_cons, List.any_nil, Bool.or_false]
/-- The first number at which a host stands, or -1. -/
def findR (l : List Rg) (h : ByteArray) : Int := if regB l h then (l.findIdx fun r => eqS r.h h : Nat) else -1
set_option maxHeartbeats 400000 in
theorem closure_any (x : Rg) (hs : ByteArray) (g : Nat) (w : World) (hc : w.cell? ⟨g, 0, none⟩ = some (.string hs)) :
    Calls Tryd.prog 79 #[rgV x, .pointer (some ⟨g, 0, none⟩)] w fun e w' => e = .returned (.bool (eqS x.h hs)) ∧ Below w.heap.size w w' := by
  have hlt := World.block_lt_of_cell? w ⟨g, 0, none⟩ hc
  have he : (x.h.toList == hs.toList) = eqS x.h hs := rfl
  go_enter Tryd.func79, Tryd.ntmps79
  go_wp2_with (fail)
  go_ret
  exact ⟨rfl, (Below.refl _ _).alloc (Nat.le_refl _) _⟩
theorem findR_here {l : List Rg} {h : ByteArray} {k : Nat} {x : Rg} (hp : regB (l.take k) h = false) (hx : l[k]? = some x) (he : eqS x.h h = true) : findR l h = k := by
  obtain ⟨hk, rfl⟩ := List.getElem?_eq_some_iff.1 hx
  have hr : regB l h = true := by unfold regB; exact List.any_eq_true.2 ⟨_, List.getElem_mem hk, he⟩
  have hi : (l.findIdx fun r => eqS r.h h) = k := by
    rw [List.findIdx_eq hk]
    refine ⟨he, fun j hj => ?_⟩
    have := (List.any_eq_false.1 hp) l[j] (by rw [List.mem_take_iff_getElem]; exact ⟨j, by omega, rfl⟩)
    simpa using this
  unfold findR
  rw [if_pos hr, hi]
theorem findR_none {l : List Rg} {h : ByteArray} (hp : regB l h = false) : findR l h = -1 := by
  unfold findR
  rw [if_neg (by rw [hp]; decide)]
abbrev askV (g : Nat) : Value := .func (.func 79) #[] #[.pointer (some ⟨g, 0, none⟩)]
set_option maxHeartbeats 1000000 in
theorem index_any (A : Option Addr) (c : Nat) (l : List Rg) (hs : ByteArray) (g : Nat) (w : World) (hl : Rgs w A l) (hm : l.length ≤ maxLen) (hc : w.cell? ⟨g, 0, none⟩ = some (.string hs)) :
    Calls Tryd.prog 51 #[.slice A l.length c, askV g] w fun e w' => e = .returned (.int .i64 (findR l hs)) ∧ Below w.heap.size w w' := by
  unfold maxLen at hm
  have hgl := World.block_lt_of_cell? w ⟨g, 0, none⟩ hc
  have HL := Lib.hid hl; have HC := Lib.hid hc
  clear hl hc
  go_enter Tryd.func51, Tryd.ntmps51
  go_wp2
  go_loopw [8] (fun i wr => ∃ k : Nat, k ≤ l.length ∧ i = .int .i64 k ∧ Hid (regB (l.take k) hs = false) ∧ Hid (Below w.heap.size w wr)) (fun i _ => l.length - (intOf i).toNat)
  case atStart => exact ⟨0, Nat.zero_le _, rfl, Lib.hid rfl, Lib.hid (Below.refl _ _)⟩
  case round =>
    obtain ⟨k, hk, rfl, HR, HB⟩ := hrel
    by_cases hlt : k < l.length
    · obtain ⟨b, o, x, rfl, hx, hz, c0, c1⟩ := ((HL.out.below HB.out).at_ hlt)
      have HX := Lib.hid hx; clear hx
      have HCC := Lib.hid ((HB.out.cell (p := ⟨g, 0, none⟩) hgl).trans HC.out)
      cases he : eqS x.h hs with
      | true =>
        have HE := Lib.hid he; clear he
        go_wp2_with (fail)
        refine (closure_any x hs g _ HCC.out).mono ?_; rintro e w1 ⟨rfl, hb1⟩
        rw [HE.out]
        have HB1 := Lib.hid (HB.out.trans (hb1.mono HB.out.size)); clear hb1
        go_wp2_with (fail)
        go_ret
        exact ⟨by rw [findR_here HR.out HX.out HE.out]; rfl, HB1.out⟩
      | false =>
        have HE := Lib.hid he; clear he
        go_wp2_with (fail)
        refine (closure_any x hs g _ HCC.out).mono ?_; rintro e w1 ⟨rfl, hb1⟩
        rw [HE.out]
        have HB1 := Lib.hid (HB.out.trans (hb1.mono HB.out.size)); clear hb1
        go_wp2_with (fail)
        go_roundw
        case rel => exact ⟨k + 1, by omega, by go_num, Lib.hid (by rw [regB_take l hs k x HX.out, HR.out, HE.out]; rfl), HB1⟩
        case measure => simp [intOf]; omega
    · obtain rfl : k = l.length := by omega
      go_wp2_with (fail)
      go_ret
      have := HR.out
      rw [List.take_length] at this
      exact ⟨by rw [findR_none this]; rfl, HB.out⟩
theorem findR_ge (l : List Rg) (h : ByteArray) : decide (0 ≤ findR l h) = regB l h := by
  unfold findR
  cases regB l h with
  | true => simp
  | false => simp
set_option maxHeartbeats 400000 in
theorem contains_any (A : Option Addr) (c : Nat) (l : List Rg) (hs : ByteArray) (g : Nat) (w : World) (hl : Rgs w A l) (hm : l.length ≤ maxLen) (hc : w.cell? ⟨g, 0, none⟩ = some (.string hs)) :
    Calls Tryd.prog 76 #[.slice A l.length c, askV g] w fun e w' => e = .returned (.bool (regB l hs)) ∧ Below w.heap.size w w' := by
  have HF := Lib.hid (findR_ge l hs)
  have HI := Lib.hid (index_any A c l hs g w hl hm hc)
  clear hl hm hc
  generalize findR l hs = r at *
  go_enter Tryd.func76, Tryd.ntmps76
  go_wp2_with (fail)
  refine HI.out.mono ?_; rintro e w1 ⟨rfl, hb1⟩
  go_wp2_with (fail)
  go_ret
  exact ⟨by rw [← HF.out]; rfl, hb1⟩
/-- A table: its registrations, what is reserved and for whom, its number, whether it is kept. -/
structure Tl where
  rs : List Rg
  ty : Int
  ho : ByteArray
  ge : Int
  ap : Bool
abbrev tlC (A : Option Addr) (c : Nat) (t : Tl) : Array Value := #[.slice A t.rs.length c, .int .i64 t.ty, .string t.ho, .int .u32 t.ge, .bool t.ap]
abbrev tlV (A : Option Addr) (c : Nat) (t : Tl) : Value := .agg (tlC A c t)
/-- The box of a table that came in by value. -/
theorem tl_box (w : World) (A : Option Addr) (c : Nat) (t : Tl) : ∀ v, v = w.alloc (.cells (tlC A c t) 27) → Blk v w.heap.size 27 (tlC A c t) ∧ Below w.heap.size w v ∧ v.heap.size = w.heap.size + 1 := by
  rintro v rfl
  exact ⟨Blk.new w _ _, (Below.refl w.heap.size w).alloc (Nat.le_refl _) _, by simp⟩
theorem tl_box_s (w : World) (A : Option Addr) (c : Nat) (t : Tl) (s : ByteArray) : ∀ v, v = (w.alloc (.cells (tlC A c t) 27)).alloc (.cells #[.string s] 9) → Blk v w.heap.size 27 (tlC A c t) ∧ Blk v (w.heap.size + 1) 9 #[.string s] ∧ Below w.heap.size w v := by
  rintro v rfl
  refine ⟨(Blk.new w _ _).alloc _, ?_, ((Below.refl w.heap.size w).alloc (Nat.le_refl _) _).alloc (by simp) _⟩
  have := Blk.new (w.alloc (.cells (tlC A c t) 27)) 9 #[.string s]
  simpa using this
set_option maxHeartbeats 1000000 in
theorem isReg_any (A : Option Addr) (c : Nat) (t : Tl) (hs : ByteArray) (w : World) (hl : Rgs w A t.rs) (hm : t.rs.length ≤ maxLen) :
    Calls Tryd.prog 64 #[tlV A c t, .string hs] w fun e w' => e = .returned (.bool (regB t.rs hs)) ∧ Below w.heap.size w w' := by
  have hmf : ∀ (fn : Fn) (first cap : Array Value) (w : World), (Instr.makeFunc fn first cap).run Tryd.prog w = .ok (.func fn first cap) w := fun _ _ _ _ => rfl
  obtain ⟨h1, h2, h3⟩ := tl_box_s w A c t hs _ rfl
  have HL := Lib.hid hl; clear hl
  have HM := Lib.hid hm; clear hm
  have HT := Lib.hid h1; have HS := Lib.hid h2; have HB := Lib.hid h3
  clear h1 h2 h3
  go_enter Tryd.func64, Tryd.ntmps64
  go_upto_region 1 with (fail)
  change Code.wp _ _ _ _ ((w.alloc (.cells (tlC A c t) 27)).alloc (.cells #[.string hs] 9))
  generalize (w.alloc (.cells (tlC A c t) 27)).alloc (.cells #[.string hs] 9) = w0 at *
  have c0 : w0.cell? ⟨w.heap.size, 0, none⟩ = some (.slice A t.rs.length c) := HT.out.cell 0
  go_wp2_with (fail)
  refine (contains_any A c t.rs hs _ _ (HL.out.below HB.out) HM.out (HS.out.cell 0)).mono ?_; rintro e w1 ⟨rfl, hb1⟩
  go_wp2_with (fail)
  go_ret
  exact ⟨rfl, HB.out.trans (hb1.mono HB.out.size)⟩
open Go.RowKit
def typeB (n : Int) : Bool := decide (0 < n ∧ n < 7)
def gH : Nat → Int
  | 0 => 0 | 1 => 1 | 2 => 1 | 3 => 1 | 4 => 1 | 5 => 2 | _ => 2
def gR : Nat → Int
  | 0 => 3 | 1 => 3 | 2 => 0 | 3 => 3 | 4 => 2 | 5 => 3 | _ => 2
def gC : Nat → Int
  | 0 => 3 | 1 => 0 | 2 => 0 | 3 => 2 | 4 => 2 | 5 => 2 | _ => 2
def kindN (n : Int) : Nat := if typeB n then n.toNat else 0
/-- The table of what the types allow, in its variable. -/
structure RTab (w : World) : Prop where
  lt : 0 < w.heap.size
  h : ∀ i, i < 7 → w.cell? ⟨0, i * 3, none⟩ = some (.int .i64 (gH i))
  r : ∀ i, i < 7 → w.cell? ⟨0, i * 3 + 1, none⟩ = some (.int .i64 (gR i))
  c : ∀ i, i < 7 → w.cell? ⟨0, i * 3 + 2, none⟩ = some (.int .i64 (gC i))
theorem RTab.below {w w' : World} (h : RTab w) (hb : Below w.heap.size w w') : RTab w' :=
  ⟨Nat.lt_of_lt_of_le h.lt hb.size, fun i hi => (hb.cell (p := ⟨0, i * 3, none⟩) h.lt).trans (h.h i hi), fun i hi => (hb.cell (p := ⟨0, i * 3 + 1, none⟩) h.lt).trans (h.r i hi), fun i hi => (hb.cell (p := ⟨0, i * 3 + 2, none⟩) h.lt).trans (h.c i hi)⟩
theorem type_any (n : Int) (w : World) : Calls Tryd.prog 50 #[.int .i64 n] w fun e w' => e = .returned (.bool (typeB n)) ∧ w = w' := by
  have hf : typeB n = decide (0 < n ∧ n < 7) := rfl
  generalize typeB n = r at hf
  by_cases c1 : 0 < n
  · by_cases c2 : n < 7
    · obtain rfl : r = true := by rw [hf]; exact decide_eq_true ⟨c1, c2⟩
      clear hf
      go_enter Tryd.func50, Tryd.ntmps50
      go_wp2_with (fail)
      go_ret
      exact ⟨rfl, rfl⟩
    · obtain rfl : r = false := by rw [hf]; exact decide_eq_false (by omega)
      clear hf
      go_enter Tryd.func50, Tryd.ntmps50
      go_wp2_with (fail)
      go_ret
      exact ⟨rfl, rfl⟩
  · obtain rfl : r = false := by rw [hf]; exact decide_eq_false (by omega)
    clear hf
    go_enter Tryd.func50, Tryd.ntmps50
    go_wp2_with (fail)
    go_ret
    exact ⟨rfl, rfl⟩
theorem int_beq (a b : Int) : (a == b) = decide (a = b) := by
  by_cases h : a = b
  · rw [decide_eq_true h]; simpa using h
  · rw [decide_eq_false h]; simpa using h
abbrev ruV (k : Nat) : Value := .agg #[.int .i64 (gH k), .int .i64 (gR k), .int .i64 (gC k)]
set_option maxHeartbeats 1000000 in
theorem rule_yes (k : Nat) (w : World) (h1 : 1 ≤ k) (h7 : k < 7) (ht : RTab w) : Calls Tryd.prog 46 #[.int .i64 (k : Int)] w fun e w' => e = .returned (ruV k) ∧ Below w.heap.size w w' := by
  have h0 := ht.lt
  have c0 := ht.h k h7
  have c1 := ht.r k h7
  have c2 := ht.c k h7
  have HY := Lib.hid (show typeB (k : Int) = true from decide_eq_true (by omega))
  clear ht
  have hnt : ∀ w : World, (Op.unary UnOp.not (.bool true)).run Tryd.prog w = .ok (.bool false) w := fun _ => rfl
  go_enter Tryd.func46, Tryd.ntmps46
  go_wp2_with (fail)
  refine (type_any k _).mono ?_; rintro e w1 ⟨rfl, rfl⟩
  rw [HY.out]
  go_wp2_with (fail)
  exact bodyPost_ret (v := ruV k) (by simp [results, Tryd.results46, go_sem]) rfl ⟨rfl, ((Below.refl _ _).alloc (Nat.le_refl _) _)⟩
theorem not_true (v : World) : Sem.run Tryd.prog (Op.unary UnOp.not (.bool true)) v = .ok (.bool false) v := rfl
theorem not_false (v : World) : Sem.run Tryd.prog (Op.unary UnOp.not (.bool false)) v = .ok (.bool true) v := rfl
set_option maxHeartbeats 1000000 in
theorem rule_no (n : Int) (w : World) (hn : typeB n = false) (ht : RTab w) : Calls Tryd.prog 46 #[.int .i64 n] w fun e w' => e = .returned (ruV 0) ∧ Below w.heap.size w w' := by
  have h0 := ht.lt
  have c0 := ht.h 0 (by omega)
  have c1 := ht.r 0 (by omega)
  have c2 := ht.c 0 (by omega)
  have HY := Lib.hid hn
  clear ht hn
  have hnt := not_false
  go_enter Tryd.func46, Tryd.ntmps46
  go_wp2_with (fail)
  refine (type_any n _).mono ?_; rintro e w1 ⟨rfl, rfl⟩
  rw [HY.out]
  go_wp2_with (fail)
  exact bodyPost_ret (v := ruV 0) (by simp [results, Tryd.results46, go_sem]) rfl ⟨rfl, ((Below.refl _ _).alloc (Nat.le_refl _) _)⟩
theorem rule_any (n : Int) (w : World) (ht : RTab w) : Calls Tryd.prog 46 #[.int .i64 n] w fun e w' => e = .returned (ruV (kindN n)) ∧ Below w.heap.size w w' := by
  cases h : typeB n with
  | true =>
    have h1 := of_decide_eq_true h
    have hk : kindN n = n.toNat := by unfold kindN; rw [if_pos h]
    have := rule_yes n.toNat w (by omega) (by omega) ht
    rw [show ((n.toNat : Nat) : Int) = n by omega] at this
    rw [hk]
    exact this
  | false =>
    have hk : kindN n = 0 := by unfold kindN; rw [if_neg (by rw [h]; decide)]
    rw [hk]
    exact rule_no n w h ht
/-- Is a host of a group? -/
def hasB (g : Int) (t : Tl) (h : ByteArray) : Bool := if g = 1 then eqS h t.ho else if g = 2 then regB t.rs h else decide (g = 3)
theorem i1 : ∀ a : Int, (a == 1) = decide (a = 1) := fun a => int_beq a 1
set_option maxHeartbeats 1000000 in
theorem has_one (A : Option Addr) (c : Nat) (t : Tl) (h : ByteArray) (w : World) : Calls Tryd.prog 47 #[.int .i64 1, tlV A c t, .string h] w fun e w' => e = .returned (.bool (hasB 1 t h)) ∧ Below w.heap.size w w' := by
  have hf : (h.toList == t.ho.toList) = hasB 1 t h := rfl
  generalize hasB 1 t h = r at hf
  go_enter Tryd.func47, Tryd.ntmps47
  go_wp2_with (fail)
  go_ret
  exact ⟨rfl, (Below.refl _ _).alloc (Nat.le_refl _) _⟩
set_option maxHeartbeats 1000000 in
theorem has_two (A : Option Addr) (c : Nat) (t : Tl) (h : ByteArray) (w : World) (hl : Rgs w A t.rs) (hm : t.rs.length ≤ maxLen) : Calls Tryd.prog 47 #[.int .i64 2, tlV A c t, .string h] w fun e w' => e = .returned (.bool (hasB 2 t h)) ∧ Below w.heap.size w w' := by
  have hf : regB t.rs h = hasB 2 t h := rfl
  have HI := Lib.hid (fun v (hv : Rgs v A t.rs) => isReg_any A c t h v hv hm)
  have HL := Lib.hid hl
  rw [hf] at HI
  clear hl hm hf
  obtain ⟨h1, h2, h3⟩ := tl_box w A c t _ rfl
  have HT := Lib.hid h1; have HB := Lib.hid h2
  clear h1 h2 h3
  go_enter Tryd.func47, Tryd.ntmps47
  go_upto_region 1 with (fail)
  change Code.wp _ _ _ _ (w.alloc (.cells (tlC A c t) 27))
  generalize w.alloc (.cells (tlC A c t) 27) = w0 at *
  have c0 : w0.cell? ⟨w.heap.size, 0, none⟩ = some (.slice A t.rs.length c) := HT.out.cell 0
  have c1 : w0.cell? ⟨w.heap.size, 1, none⟩ = some (.int .i64 t.ty) := HT.out.cell 1
  have c2 : w0.cell? ⟨w.heap.size, 2, none⟩ = some (.string t.ho) := HT.out.cell 2
  have c3 : w0.cell? ⟨w.heap.size, 3, none⟩ = some (.int .u32 t.ge) := HT.out.cell 3
  have c4 : w0.cell? ⟨w.heap.size, 4, none⟩ = some (.bool t.ap) := HT.out.cell 4
  go_wp2_with (fail)
  refine (HI.out _ (HL.out.below HB.out)).mono ?_; rintro e w1 ⟨rfl, hb1⟩
  go_wp2_with (fail)
  go_ret
  exact ⟨rfl, HB.out.trans (hb1.mono HB.out.size)⟩
set_option maxHeartbeats 1000000 in
theorem has_zero (A : Option Addr) (c : Nat) (t : Tl) (h : ByteArray) (w : World) : Calls Tryd.prog 47 #[.int .i64 0, tlV A c t, .string h] w fun e w' => e = .returned (.bool (hasB 0 t h)) ∧ Below w.heap.size w w' := by
  have hf : hasB 0 t h = false := rfl
  rw [hf]
  clear hf
  go_enter Tryd.func47, Tryd.ntmps47
  go_wp2_with (fail)
  go_ret
  exact ⟨rfl, (Below.refl _ _).alloc (Nat.le_refl _) _⟩
set_option maxHeartbeats 1000000 in
theorem has_three (A : Option Addr) (c : Nat) (t : Tl) (h : ByteArray) (w : World) : Calls Tryd.prog 47 #[.int .i64 3, tlV A c t, .string h] w fun e w' => e = .returned (.bool (hasB 3 t h)) ∧ Below w.heap.size w w' := by
  have hf : hasB 3 t h = true := rfl
  rw [hf]
  clear hf
  go_enter Tryd.func47, Tryd.ntmps47
  go_wp2_with (fail)
  go_ret
  exact ⟨rfl, (Below.refl _ _).alloc (Nat.le_refl _) _⟩
theorem has_any (g : Int) (A : Option Addr) (c : Nat) (t : Tl) (h : ByteArray) (w : World) (hl : Rgs w A t.rs) (hm : t.rs.length ≤ maxLen) (h0 : 0 ≤ g) (h3 : g ≤ 3) : Calls Tryd.prog 47 #[.int .i64 g, tlV A c t, .string h] w fun e w' => e = .returned (.bool (hasB g t h)) ∧ Below w.heap.size w w' := by
  rcases (show g = 0 ∨ g = 1 ∨ g = 2 ∨ g = 3 by omega) with rfl | rfl | rfl | rfl
  · exact has_zero A c t h w
  · exact has_one A c t h w
  · exact has_two A c t h w hl hm
  · exact has_three A c t h w
open Go.RowKit
theorem wp_region_class {P : Program} {id : Nat} {Q : Exit → Act → World → Prop} {a : Act} {w : World} {l : List Oper} (C : World → Prop) (hm : P.follows .mixedOrders = true) (hB : Region.lexB .any l.toArray = true) (hC : C w.drew)
    (h : wpQuiet P l.toArray C (fun a' => ∀ w', C w' → Q .normal a' w') l a) : (Code.region id l.toArray true).wp P Q a w :=
  wp_region_quiet (C := C) hm hB hC (by simpa using h)
theorem quiet_run {P : Program} {o : Oper} {a : Act} {C : World → Prop} {K : Act → Prop} {v : Value} (h : ∀ w, C w → (execOp a.eval o).run P w = .ok (.value v) w) (hk : K (a.put o.dst v)) : o.quiet P a C K :=
  ⟨v, fun w hw => by unfold Oper.quietAt; rw [h w hw]; exact ⟨rfl, rfl⟩, hk⟩
theorem quiet_call {P : Program} {o : Oper} {a : Act} {C : World → Prop} {K : Act → Prop} {v : Value} {f : FuncId} {args : Array Value} (h : ∀ w, C w → (execOp a.eval o).run P w = .ok (.enter f args) w)
    (hc : ∀ w, C w → Calls P f args w (fun e w' => e = .returned v ∧ C w')) (hk : K (a.put o.dst v)) : o.quiet P a C K :=
  ⟨v, fun w hw => by unfold Oper.quietAt; rw [h w hw]; exact ⟨rfl, hc w hw⟩, hk⟩
theorem class_of (w0 : World) (R : World → Prop) (hR : ∀ v, Below w0.heap.size w0 v → R v) :
    ∃ C : World → Prop, C w0.drew ∧ (∀ v, C v → R v) ∧ (∀ v, C v → Below w0.heap.size w0 v) ∧ (∀ v v', C v → Below v.heap.size v v' → C v') :=
  ⟨fun v => Below w0.heap.size w0 v, (Below.refl _ _).drew, hR, fun _ h => h, fun _ _ h hb => h.trans (hb.mono h.size)⟩
/-- The cells of a table at block g. -/
def TlAt (w : World) (g : Nat) (A : Option Addr) (c : Nat) (t : Tl) : Prop :=
  w.cell? ⟨g, 0, none⟩ = some (.slice A t.rs.length c) ∧ w.cell? ⟨g, 1, none⟩ = some (.int .i64 t.ty) ∧ w.cell? ⟨g, 2, none⟩ = some (.string t.ho) ∧ w.cell? ⟨g, 3, none⟩ = some (.int .u32 t.ge) ∧ w.cell? ⟨g, 4, none⟩ = some (.bool t.ap)
theorem TlAt.of {w : World} {g : Nat} {A : Option Addr} {c : Nat} {t : Tl} (h : Blk w g 27 (tlC A c t)) : TlAt w g A c t := ⟨h.cell 0, h.cell 1, h.cell 2, h.cell 3, h.cell 4⟩
theorem TlAt.below {w v : World} {g : Nat} {A : Option Addr} {c : Nat} {t : Tl} (h : Blk w g 27 (tlC A c t)) (hb : Below w.heap.size w v) : TlAt v g A c t := TlAt.of (h.below hb h.lt)
theorem gH_bd (k : Nat) : 0 ≤ gH k ∧ gH k ≤ 3 := by unfold gH; split <;> omega
/-- Who holds. -/
def holdsB (t : Tl) (h : ByteArray) : Bool := hasB (gH (kindN t.ty)) t h
set_option maxRecDepth 100000 in
set_option maxHeartbeats 1000000 in
theorem holds_any (A : Option Addr) (c : Nat) (t : Tl) (h : ByteArray) (w : World) (hl : Rgs w A t.rs) (hm : t.rs.length ≤ maxLen) (ht : RTab w) :
    Calls Tryd.prog 28 #[tlV A c t, .string h] w fun e w' => e = .returned (.bool (holdsB t h)) ∧ Below w.heap.size w w' := by
  have hf : hasB (gH (kindN t.ty)) t h = holdsB t h := rfl
  obtain ⟨b1, b2⟩ := gH_bd (kindN t.ty)
  have HX := Lib.hid (fun v (hv : Rgs v A t.rs) => has_any (gH (kindN t.ty)) A c t h v hv hm b1 b2)
  have HRu := Lib.hid (fun v (hv : RTab v) => rule_any t.ty v hv)
  rw [hf] at HX
  generalize kindN t.ty = k at *
  obtain ⟨h1, h2, h3⟩ := tl_box w A c t _ rfl
  have HT := Lib.hid h1; have HB := Lib.hid h2
  have HL0 := Lib.hid hl; have HT0 := Lib.hid ht
  clear h1 h2 h3 hl hm ht hf b1 b2
  go_enter Tryd.func28, Tryd.ntmps28
  go_upto_region 1 with (fail)
  change Code.wp _ _ _ _ (w.alloc (.cells (tlC A c t) 27))
  generalize w.alloc (.cells (tlC A c t) 27) = w0 at *
  obtain ⟨C, hC0, hCl, hCi, hCm⟩ := class_of w0 (fun v => TlAt v w.heap.size A c t) (fun v hb => TlAt.below HT.out hb)
  have HC0 := Lib.hid hC0; have HL := Lib.hid hCl; have HCi := Lib.hid hCi; have HCm := Lib.hid hCm
  have HRg := Lib.hid (fun v (hv : C v) => (HL0.out.below HB.out).below (hCi v hv)); have HTb := Lib.hid (fun v (hv : C v) => (HT0.out.below HB.out).below (hCi v hv))
  clear hC0 hCl hCi hCm
  refine wp_region_class C (by kernel_rfl) (by kernel_rfl) HC0.out ?_
  go_big_quiet_want
  go_big_quiet_op
  first | go_big_quiet_on | (refine ⟨_, fun _ _ => rfl, ?_⟩; go_big_quiet_on)
  go_big_quiet_want
  go_big_quiet_op
  first | go_big_quiet_on | (refine ⟨_, fun _ _ => rfl, ?_⟩; go_big_quiet_on)
  go_big_quiet_want
  refine quiet_run (v := .int .i64 t.ty) (fun v hv => by obtain ⟨c0, c1, c2, c3, c4⟩ := HL.out v hv; go_simp) ?_
  simp only [Act.put, List.setIfInBounds_toArray, List.set_cons_zero, List.set_cons_succ]
  go_big_quiet_on
  go_big_quiet_want
  refine quiet_call (f := 46) (args := #[.int .i64 t.ty]) (fun v _ => by go_simp) (fun v hv => (HRu.out v (HTb.out v hv)).mono (fun e w' h => ⟨h.1, HCm.out v w' hv h.2⟩)) ?_
  simp only [Act.put, List.setIfInBounds_toArray, List.set_cons_zero, List.set_cons_succ]
  go_big_quiet_on
  go_big_quiet_want
  refine quiet_run (v := .int .i64 (gH k)) (fun v hv => by rfl) ?_
  simp only [Act.put, List.setIfInBounds_toArray, List.set_cons_zero, List.set_cons_succ]
  go_big_quiet_on
  go_big_quiet_want
  refine quiet_run (v := tlV A c t) (fun v hv => by obtain ⟨c0, c1, c2, c3, c4⟩ := HL.out v hv; go_simp) ?_
  simp only [Act.put, List.setIfInBounds_toArray, List.set_cons_zero, List.set_cons_succ]
  go_big_quiet_on
  go_big_quiet_want
  go_big_quiet_op
  first | go_big_quiet_on | (refine ⟨_, fun _ _ => rfl, ?_⟩; go_big_quiet_on)
  go_big_quiet_want
  refine quiet_call (f := 47) (args := #[.int .i64 (gH k), tlV A c t, .string h]) (fun v _ => by go_simp) (fun v hv => (HX.out v (HRg.out v hv)).mono (fun e w' h => ⟨h.1, HCm.out v w' hv h.2⟩)) ?_
  simp only [Act.put, List.setIfInBounds_toArray, List.set_cons_zero, List.set_cons_succ]
  go_big_quiet_on
  go_big_quiet_want
  go_big_quiet_op
  first | go_big_quiet_on | (refine ⟨_, fun _ _ => rfl, ?_⟩; go_big_quiet_on)
  refine wpQuiet_nil ?_
  intro w5 hC5
  have HB5 := Lib.hid (HB.out.trans ((HCi.out _ hC5).mono HB.out.size))
  clear hC5
  go_wp2_with (fail)
  go_ret
  exact ⟨rfl, HB5.out⟩
open Go.RowKit
theorem eqS_comm (a b : ByteArray) : eqS a b = eqS b a := by
  unfold eqS
  rw [Bool.eq_iff_iff]
  simp only [beq_iff_eq]
  exact ⟨Eq.symm, Eq.symm⟩
theorem refType_any (n : Int) (w : World) : Calls Tryd.prog 34 #[.int .i64 n] w fun e w' => e = .returned (.bool (typeB n)) ∧ w = w' := by
  have hf : typeB n = decide (0 < n ∧ n < 7) := rfl
  generalize typeB n = r at hf
  by_cases c1 : 1 ≤ n
  · by_cases c2 : n ≤ 6
    · obtain rfl : r = true := by rw [hf]; exact decide_eq_true (by omega)
      clear hf
      go_enter Tryd.func34, Tryd.ntmps34
      go_wp2_with (fail)
      go_ret
      exact ⟨rfl, rfl⟩
    · obtain rfl : r = false := by rw [hf]; exact decide_eq_false (by omega)
      clear hf
      go_enter Tryd.func34, Tryd.ntmps34
      go_wp2_with (fail)
      go_ret
      exact ⟨rfl, rfl⟩
  · obtain rfl : r = false := by rw [hf]; exact decide_eq_false (by omega)
    clear hf
    go_enter Tryd.func34, Tryd.ntmps34
    go_wp2_with (fail)
    go_ret
    exact ⟨rfl, rfl⟩
set_option maxHeartbeats 1000000 in
theorem refReg_any (A : Option Addr) (c : Nat) (t : Tl) (hs : ByteArray) (w : World) (hl : Rgs w A t.rs) (hm : t.rs.length ≤ maxLen) :
    Calls Tryd.prog 33 #[tlV A c t, .string hs] w fun e w' => e = .returned (.bool (regB t.rs hs)) ∧ Below w.heap.size w w' := by
  unfold maxLen at hm
  obtain ⟨h1, h2, h3⟩ := tl_box w A c t _ rfl
  have HT := Lib.hid h1; have HB := Lib.hid h2
  have HL := Lib.hid hl
  clear h1 h2 h3 hl
  go_enter Tryd.func33, Tryd.ntmps33
  go_upto_region 1 with (fail)
  change Code.wp _ _ _ _ (w.alloc (.cells (tlC A c t) 27))
  generalize w.alloc (.cells (tlC A c t) 27) = w0 at *
  have c0 : w0.cell? ⟨w.heap.size, 0, none⟩ = some (.slice A t.rs.length c) := HT.out.cell 0
  have HLb := Lib.hid (HL.out.below HB.out)
  go_wp2
  go_loop [5] (fun i => ∃ k : Nat, k ≤ t.rs.length ∧ i = .int .i64 k ∧ Hid (regB (t.rs.take k) hs = false)) (fun i => t.rs.length - (intOf i).toNat)
  case atStart => exact ⟨0, Nat.zero_le _, rfl, Lib.hid rfl⟩
  case round =>
    obtain ⟨k, hk, rfl, HR⟩ := hrel
    by_cases hlt : k < t.rs.length
    · obtain ⟨b, o, x, rfl, hx, hz, d0, d1⟩ := HLb.out.at_ hlt
      have HX := Lib.hid hx; clear hx
      cases he : (x.h.toList == hs.toList) with
      | true =>
        go_wp2_with (fail)
        go_ret
        refine ⟨?_, HB.out⟩
        have h1 : regB (t.rs.take (k + 1)) hs = true := by rw [regB_take _ _ _ _ HX.out, HR.out]; exact he
        have : regB t.rs hs = true := by
          unfold regB at h1 ⊢
          obtain ⟨y, hy, hz⟩ := List.any_eq_true.1 h1
          exact List.any_eq_true.2 ⟨y, List.mem_of_mem_take hy, hz⟩
        rw [this]
        rfl
      | false =>
        have HE := Lib.hid (show eqS x.h hs = false from he)
        go_wp2_with (fail)
        go_round
        case rel => exact ⟨k + 1, by omega, by go_num, Lib.hid (by rw [regB_take _ _ _ _ HX.out, HR.out, HE.out]; rfl)⟩
        case measure => simp [intOf]; omega
    · obtain rfl : k = t.rs.length := by omega
      go_wp2_with (fail)
      go_ret
      have := HR.out
      rw [List.take_length] at this
      exact ⟨by rw [this]; rfl, HB.out⟩
set_option maxHeartbeats 1000000 in
theorem refHolds_1 (A : Option Addr) (c : Nat) (rs : List Rg) (ho : ByteArray) (ge : Int) (ap : Bool) (h : ByteArray) (w : World) (hl : Rgs w A rs) :
    Calls Tryd.prog 63 #[tlV A c ⟨rs, 1, ho, ge, ap⟩, .string h] w fun e w' => e = .returned (.bool (holdsB ⟨rs, 1, ho, ge, ap⟩ h)) ∧ Below w.heap.size w w' := by
  have hf : (ho.toList == h.toList) = holdsB ⟨rs, 1, ho, ge, ap⟩ h := eqS_comm ho h
  generalize holdsB ⟨rs, 1, ho, ge, ap⟩ h = r at *
  obtain ⟨h1, h2, h3⟩ := tl_box w A c ⟨rs, 1, ho, ge, ap⟩ _ rfl
  have HT := Lib.hid h1; have HB := Lib.hid h2
  have HL := Lib.hid hl
  clear h1 h2 h3 hl
  go_enter Tryd.func63, Tryd.ntmps63
  go_upto_region 1 with (fail)
  change Code.wp _ _ _ _ (w.alloc (.cells (tlC A c ⟨rs, 1, ho, ge, ap⟩) 27))
  generalize w.alloc (.cells (tlC A c ⟨rs, 1, ho, ge, ap⟩) 27) = w0 at *
  have c0 : w0.cell? ⟨w.heap.size, 0, none⟩ = some (.slice A rs.length c) := HT.out.cell 0
  have c1 : w0.cell? ⟨w.heap.size, 1, none⟩ = some (.int .i64 1) := HT.out.cell 1
  have c2 : w0.cell? ⟨w.heap.size, 2, none⟩ = some (.string ho) := HT.out.cell 2
  have c3 : w0.cell? ⟨w.heap.size, 3, none⟩ = some (.int .u32 ge) := HT.out.cell 3
  have c4 : w0.cell? ⟨w.heap.size, 4, none⟩ = some (.bool ap) := HT.out.cell 4
  go_wp2_with (fail)
  go_ret
  exact ⟨rfl, HB.out⟩
set_option maxHeartbeats 1000000 in
theorem refHolds_2 (A : Option Addr) (c : Nat) (rs : List Rg) (ho : ByteArray) (ge : Int) (ap : Bool) (h : ByteArray) (w : World) (hl : Rgs w A rs) :
    Calls Tryd.prog 63 #[tlV A c ⟨rs, 2, ho, ge, ap⟩, .string h] w fun e w' => e = .returned (.bool (holdsB ⟨rs, 2, ho, ge, ap⟩ h)) ∧ Below w.heap.size w w' := by
  have hf : (ho.toList == h.toList) = holdsB ⟨rs, 2, ho, ge, ap⟩ h := eqS_comm ho h
  generalize holdsB ⟨rs, 2, ho, ge, ap⟩ h = r at *
  obtain ⟨h1, h2, h3⟩ := tl_box w A c ⟨rs, 2, ho, ge, ap⟩ _ rfl
  have HT := Lib.hid h1; have HB := Lib.hid h2
  have HL := Lib.hid hl
  clear h1 h2 h3 hl
  go_enter Tryd.func63, Tryd.ntmps63
  go_upto_region 1 with (fail)
  change Code.wp _ _ _ _ (w.alloc (.cells (tlC A c ⟨rs, 2, ho, ge, ap⟩) 27))
  generalize w.alloc (.cells (tlC A c ⟨rs, 2, ho, ge, ap⟩) 27) = w0 at *
  have c0 : w0.cell? ⟨w.heap.size, 0, none⟩ = some (.slice A rs.length c) := HT.out.cell 0
  have c1 : w0.cell? ⟨w.heap.size, 1, none⟩ = some (.int .i64 2) := HT.out.cell 1
  have c2 : w0.cell? ⟨w.heap.size, 2, none⟩ = some (.string ho) := HT.out.cell 2
  have c3 : w0.cell? ⟨w.heap.size, 3, none⟩ = some (.int .u32 ge) := HT.out.cell 3
  have c4 : w0.cell? ⟨w.heap.size, 4, none⟩ = some (.bool ap) := HT.out.cell 4
  go_wp2_with (fail)
  go_ret
  exact ⟨rfl, HB.out⟩
set_option maxHeartbeats 1000000 in
theorem refHolds_3 (A : Option Addr) (c : Nat) (rs : List Rg) (ho : ByteArray) (ge : Int) (ap : Bool) (h : ByteArray) (w : World) (hl : Rgs w A rs) :
    Calls Tryd.prog 63 #[tlV A c ⟨rs, 3, ho, ge, ap⟩, .string h] w fun e w' => e = .returned (.bool (holdsB ⟨rs, 3, ho, ge, ap⟩ h)) ∧ Below w.heap.size w w' := by
  have hf : (ho.toList == h.toList) = holdsB ⟨rs, 3, ho, ge, ap⟩ h := eqS_comm ho h
  generalize holdsB ⟨rs, 3, ho, ge, ap⟩ h = r at *
  obtain ⟨h1, h2, h3⟩ := tl_box w A c ⟨rs, 3, ho, ge, ap⟩ _ rfl
  have HT := Lib.hid h1; have HB := Lib.hid h2
  have HL := Lib.hid hl
  clear h1 h2 h3 hl
  go_enter Tryd.func63, Tryd.ntmps63
  go_upto_region 1 with (fail)
  change Code.wp _ _ _ _ (w.alloc (.cells (tlC A c ⟨rs, 3, ho, ge, ap⟩) 27))
  generalize w.alloc (.cells (tlC A c ⟨rs, 3, ho, ge, ap⟩) 27) = w0 at *
  have c0 : w0.cell? ⟨w.heap.size, 0, none⟩ = some (.slice A rs.length c) := HT.out.cell 0
  have c1 : w0.cell? ⟨w.heap.size, 1, none⟩ = some (.int .i64 3) := HT.out.cell 1
  have c2 : w0.cell? ⟨w.heap.size, 2, none⟩ = some (.string ho) := HT.out.cell 2
  have c3 : w0.cell? ⟨w.heap.size, 3, none⟩ = some (.int .u32 ge) := HT.out.cell 3
  have c4 : w0.cell? ⟨w.heap.size, 4, none⟩ = some (.bool ap) := HT.out.cell 4
  go_wp2_with (fail)
  go_ret
  exact ⟨rfl, HB.out⟩
set_option maxHeartbeats 1000000 in
theorem refHolds_4 (A : Option Addr) (c : Nat) (rs : List Rg) (ho : ByteArray) (ge : Int) (ap : Bool) (h : ByteArray) (w : World) (hl : Rgs w A rs) :
    Calls Tryd.prog 63 #[tlV A c ⟨rs, 4, ho, ge, ap⟩, .string h] w fun e w' => e = .returned (.bool (holdsB ⟨rs, 4, ho, ge, ap⟩ h)) ∧ Below w.heap.size w w' := by
  have hf : (ho.toList == h.toList) = holdsB ⟨rs, 4, ho, ge, ap⟩ h := eqS_comm ho h
  generalize holdsB ⟨rs, 4, ho, ge, ap⟩ h = r at *
  obtain ⟨h1, h2, h3⟩ := tl_box w A c ⟨rs, 4, ho, ge, ap⟩ _ rfl
  have HT := Lib.hid h1; have HB := Lib.hid h2
  have HL := Lib.hid hl
  clear h1 h2 h3 hl
  go_enter Tryd.func63, Tryd.ntmps63
  go_upto_region 1 with (fail)
  change Code.wp _ _ _ _ (w.alloc (.cells (tlC A c ⟨rs, 4, ho, ge, ap⟩) 27))
  generalize w.alloc (.cells (tlC A c ⟨rs, 4, ho, ge, ap⟩) 27) = w0 at *
  have c0 : w0.cell? ⟨w.heap.size, 0, none⟩ = some (.slice A rs.length c) := HT.out.cell 0
  have c1 : w0.cell? ⟨w.heap.size, 1, none⟩ = some (.int .i64 4) := HT.out.cell 1
  have c2 : w0.cell? ⟨w.heap.size, 2, none⟩ = some (.string ho) := HT.out.cell 2
  have c3 : w0.cell? ⟨w.heap.size, 3, none⟩ = some (.int .u32 ge) := HT.out.cell 3
  have c4 : w0.cell? ⟨w.heap.size, 4, none⟩ = some (.bool ap) := HT.out.cell 4
  go_wp2_with (fail)
  go_ret
  exact ⟨rfl, HB.out⟩
set_option maxHeartbeats 1000000 in
theorem refHolds_5 (A : Option Addr) (c : Nat) (rs : List Rg) (ho : ByteArray) (ge : Int) (ap : Bool) (h : ByteArray) (w : World) (hl : Rgs w A rs) (hm : rs.length ≤ maxLen) :
    Calls Tryd.prog 63 #[tlV A c ⟨rs, 5, ho, ge, ap⟩, .string h] w fun e w' => e = .returned (.bool (holdsB ⟨rs, 5, ho, ge, ap⟩ h)) ∧ Below w.heap.size w w' := by
  have HI := Lib.hid (fun v (hv : Rgs v A rs) => refReg_any A c ⟨rs, 5, ho, ge, ap⟩ h v hv hm)
  have hf : regB rs h = holdsB ⟨rs, 5, ho, ge, ap⟩ h := rfl
  simp only [hf] at HI
  generalize holdsB ⟨rs, 5, ho, ge, ap⟩ h = r at *
  clear hf
  obtain ⟨h1, h2, h3⟩ := tl_box w A c ⟨rs, 5, ho, ge, ap⟩ _ rfl
  have HT := Lib.hid h1; have HB := Lib.hid h2
  have HL := Lib.hid hl
  clear h1 h2 h3 hl
  go_enter Tryd.func63, Tryd.ntmps63
  go_upto_region 1 with (fail)
  change Code.wp _ _ _ _ (w.alloc (.cells (tlC A c ⟨rs, 5, ho, ge, ap⟩) 27))
  generalize w.alloc (.cells (tlC A c ⟨rs, 5, ho, ge, ap⟩) 27) = w0 at *
  have c0 : w0.cell? ⟨w.heap.size, 0, none⟩ = some (.slice A rs.length c) := HT.out.cell 0
  have c1 : w0.cell? ⟨w.heap.size, 1, none⟩ = some (.int .i64 5) := HT.out.cell 1
  have c2 : w0.cell? ⟨w.heap.size, 2, none⟩ = some (.string ho) := HT.out.cell 2
  have c3 : w0.cell? ⟨w.heap.size, 3, none⟩ = some (.int .u32 ge) := HT.out.cell 3
  have c4 : w0.cell? ⟨w.heap.size, 4, none⟩ = some (.bool ap) := HT.out.cell 4
  go_wp2_with (fail)
  refine (HI.out _ (HL.out.below HB.out)).mono ?_; rintro e w1 ⟨rfl, hb1⟩
  go_wp2_with (fail)
  go_ret
  exact ⟨rfl, HB.out.trans (hb1.mono HB.out.size)⟩
set_option maxHeartbeats 1000000 in
theorem refHolds_6 (A : Option Addr) (c : Nat) (rs : List Rg) (ho : ByteArray) (ge : Int) (ap : Bool) (h : ByteArray) (w : World) (hl : Rgs w A rs) (hm : rs.length ≤ maxLen) :
    Calls Tryd.prog 63 #[tlV A c ⟨rs, 6, ho, ge, ap⟩, .string h] w fun e w' => e = .returned (.bool (holdsB ⟨rs, 6, ho, ge, ap⟩ h)) ∧ Below w.heap.size w w' := by
  have HI := Lib.hid (fun v (hv : Rgs v A rs) => refReg_any A c ⟨rs, 6, ho, ge, ap⟩ h v hv hm)
  have hf : regB rs h = holdsB ⟨rs, 6, ho, ge, ap⟩ h := rfl
  simp only [hf] at HI
  generalize holdsB ⟨rs, 6, ho, ge, ap⟩ h = r at *
  clear hf
  obtain ⟨h1, h2, h3⟩ := tl_box w A c ⟨rs, 6, ho, ge, ap⟩ _ rfl
  have HT := Lib.hid h1; have HB := Lib.hid h2
  have HL := Lib.hid hl
  clear h1 h2 h3 hl
  go_enter Tryd.func63, Tryd.ntmps63
  go_upto_region 1 with (fail)
  change Code.wp _ _ _ _ (w.alloc (.cells (tlC A c ⟨rs, 6, ho, ge, ap⟩) 27))
  generalize w.alloc (.cells (tlC A c ⟨rs, 6, ho, ge, ap⟩) 27) = w0 at *
  have c0 : w0.cell? ⟨w.heap.size, 0, none⟩ = some (.slice A rs.length c) := HT.out.cell 0
  have c1 : w0.cell? ⟨w.heap.size, 1, none⟩ = some (.int .i64 6) := HT.out.cell 1
  have c2 : w0.cell? ⟨w.heap.size, 2, none⟩ = some (.string ho) := HT.out.cell 2
  have c3 : w0.cell? ⟨w.heap.size, 3, none⟩ = some (.int .u32 ge) := HT.out.cell 3
  have c4 : w0.cell? ⟨w.heap.size, 4, none⟩ = some (.bool ap) := HT.out.cell 4
  go_wp2_with (fail)
  refine (HI.out _ (HL.out.below HB.out)).mono ?_; rintro e w1 ⟨rfl, hb1⟩
  go_wp2_with (fail)
  go_ret
  exact ⟨rfl, HB.out.trans (hb1.mono HB.out.size)⟩
set_option maxHeartbeats 1000000 in
theorem refHolds_no (A : Option Addr) (c : Nat) (rs : List Rg) (n : Int) (ho : ByteArray) (ge : Int) (ap : Bool) (h : ByteArray) (w : World) (hl : Rgs w A rs) (hn : typeB n = false) :
    Calls Tryd.prog 63 #[tlV A c ⟨rs, n, ho, ge, ap⟩, .string h] w fun e w' => e = .returned (.bool (holdsB ⟨rs, n, ho, ge, ap⟩ h)) ∧ Below w.heap.size w w' := by
  have hf : holdsB ⟨rs, n, ho, ge, ap⟩ h = false := by unfold holdsB kindN; simp only [hn]; rfl
  rw [hf]
  clear hf
  have hn' := of_decide_eq_false hn
  have e1 : (n == 1) = false := by rw [int_beq]; exact decide_eq_false (by omega)
  have e2 : (n == 2) = false := by rw [int_beq]; exact decide_eq_false (by omega)
  have e3 : (n == 3) = false := by rw [int_beq]; exact decide_eq_false (by omega)
  have e4 : (n == 4) = false := by rw [int_beq]; exact decide_eq_false (by omega)
  have e5 : (n == 5) = false := by rw [int_beq]; exact decide_eq_false (by omega)
  have e6 : (n == 6) = false := by rw [int_beq]; exact decide_eq_false (by omega)
  clear hn hn'
  obtain ⟨h1, h2, h3⟩ := tl_box w A c ⟨rs, n, ho, ge, ap⟩ _ rfl
  have HT := Lib.hid h1; have HB := Lib.hid h2
  have HL := Lib.hid hl
  clear h1 h2 h3 hl
  go_enter Tryd.func63, Tryd.ntmps63
  go_upto_region 1 with (fail)
  change Code.wp _ _ _ _ (w.alloc (.cells (tlC A c ⟨rs, n, ho, ge, ap⟩) 27))
  generalize w.alloc (.cells (tlC A c ⟨rs, n, ho, ge, ap⟩) 27) = w0 at *
  have c0 : w0.cell? ⟨w.heap.size, 0, none⟩ = some (.slice A rs.length c) := HT.out.cell 0
  have c1 : w0.cell? ⟨w.heap.size, 1, none⟩ = some (.int .i64 n) := HT.out.cell 1
  have c2 : w0.cell? ⟨w.heap.size, 2, none⟩ = some (.string ho) := HT.out.cell 2
  have c3 : w0.cell? ⟨w.heap.size, 3, none⟩ = some (.int .u32 ge) := HT.out.cell 3
  have c4 : w0.cell? ⟨w.heap.size, 4, none⟩ = some (.bool ap) := HT.out.cell 4
  go_wp2_with (fail)
  go_ret
  exact ⟨rfl, HB.out⟩
theorem refHolds_any (A : Option Addr) (c : Nat) (t : Tl) (h : ByteArray) (w : World) (hl : Rgs w A t.rs) (hm : t.rs.length ≤ maxLen) :
    Calls Tryd.prog 63 #[tlV A c t, .string h] w fun e w' => e = .returned (.bool (holdsB t h)) ∧ Below w.heap.size w w' := by
  obtain ⟨rs, n, ho, ge, ap⟩ := t
  cases hn : typeB n with
  | false => exact refHolds_no A c rs n ho ge ap h w hl hn
  | true =>
    have := of_decide_eq_true hn
    rcases (show n = 1 ∨ n = 2 ∨ n = 3 ∨ n = 4 ∨ n = 5 ∨ n = 6 by omega) with rfl | rfl | rfl | rfl | rfl | rfl
    · exact refHolds_1 A c rs ho ge ap h w hl
    · exact refHolds_2 A c rs ho ge ap h w hl
    · exact refHolds_3 A c rs ho ge ap h w hl
    · exact refHolds_4 A c rs ho ge ap h w hl
    · exact refHolds_5 A c rs ho ge ap h w hl hm
    · exact refHolds_6 A c rs ho ge ap h w hl hm
theorem neB {n k : Int} (h : (n == k) = false) : n ≠ k := by rw [int_beq] at h; exact of_decide_eq_false h
theorem eqB {n k : Int} (h : (n == k) = true) : n = k := by rw [int_beq] at h; exact of_decide_eq_true h
open Go.RowKit
def rgCells : List Rg → List Value
  | [] => []
  | x :: l => .string x.h :: .int .u64 x.k :: rgCells l
theorem rgCells_length : ∀ l : List Rg, (rgCells l).length = l.length * 2
  | [] => rfl
  | x :: l => by show (rgCells l).length + 1 + 1 = (l.length + 1) * 2; rw [rgCells_length l]; omega
theorem rgCells_append : ∀ a b : List Rg, rgCells (a ++ b) = rgCells a ++ rgCells b
  | [], _ => rfl
  | x :: a, b => by show _ :: _ :: rgCells (a ++ b) = _; rw [rgCells_append a b]; rfl
theorem rgCells_get : ∀ {l : List Rg} {j : Nat} {x : Rg}, l[j]? = some x → (rgCells l)[j * 2]? = some (.string x.h) ∧ (rgCells l)[j * 2 + 1]? = some (.int .u64 x.k)
  | y :: l, 0, x, h => by
    obtain rfl : y = x := by simpa using h
    exact ⟨rfl, rfl⟩
  | y :: l, j + 1, x, h => by
    obtain ⟨h1, h2⟩ := rgCells_get (l := l) (j := j) (x := x) (by simpa using h)
    rw [show (j + 1) * 2 = j * 2 + 1 + 1 by omega]
    exact ⟨by simpa [rgCells] using h1, by simpa [rgCells] using h2⟩
theorem rgCells_one {l : List Rg} : ∀ u ∈ rgCells l, u.oneCell' = true := by
  induction l with
  | nil => intro u hu; cases hu
  | cons r l ih =>
    intro u hu
    rcases List.mem_cons.1 hu with rfl | hu
    · rfl
    · rcases List.mem_cons.1 hu with rfl | hu
      · rfl
      · exact ih u hu
theorem infoReg : (Tryd.prog.info? 57).map (fun i => (i.zero, i.size, i.bytes)) = some (some (.agg #[.string ⟨#[]⟩, .int .u64 0]), 2, 24) := by kernel_rfl
theorem own_form {w : World} {base : Nat} {e : TypeId} {size n : Nat} {v : Value} {xs : List Value} (h : w.ownsRow base e size v n xs) : ∃ A c, v = .slice A n c := by
  rcases h.2 with ⟨rfl, rfl⟩ | ⟨g, cap, cur, rfl, _⟩
  · exact ⟨_, _, rfl⟩
  · exact ⟨_, _, rfl⟩
theorem own_some {w : World} {base : Nat} {e : TypeId} {size n c : Nat} {A : Option Addr} {xs : List Value} (h : w.ownsRow base e size (.slice A n c) n xs) (hn : 0 < n) :
    ∃ g cur, A = some ⟨g, 0, none⟩ ∧ Blk w g e cur ∧ cur.toList.take (n * size) = xs := by
  rcases h.2 with ⟨_, h0⟩ | ⟨g, cap, cur, hv, _, hg, _, _, _, ht⟩
  · omega
  · injection hv with hA _ _
    exact ⟨g, cur, hA, hg, ht⟩
/-- Registrations of one's own. -/
def Own (w : World) (B : Nat) (A : Option Addr) (c : Nat) (l : List Rg) : Prop := w.ownsRow B 57 2 (.slice A l.length c) l.length (rgCells l) ∧ ∀ x ∈ l, x.h.size ≤ maxLen
theorem Own.rgs {w : World} {B : Nat} {A : Option Addr} {c : Nat} {l : List Rg} (h : Own w B A c l) : Rgs w A l := fun hn => by
  obtain ⟨g, cur, rfl, hg, ht⟩ := own_some h.1 hn
  refine ⟨g, 0, rfl, fun j r hj => ?_⟩
  have hlt := (List.getElem?_eq_some_iff.1 hj).1
  obtain ⟨g0, g1⟩ := rgCells_get hj
  have key : ∀ i v, i < l.length * 2 → (rgCells l)[i]? = some v → cur[i]? = some v := fun i v hi hv => by
    rw [← ht, List.getElem?_take, if_pos (by omega)] at hv
    simpa using hv
  exact ⟨h.2 r (List.mem_of_getElem? hj), by rw [Nat.zero_add, hg.cell]; exact key _ _ (by omega) g0, by rw [Nat.zero_add, hg.cell]; exact key _ _ (by omega) g1⟩
theorem own_keep' {w w' : World} {base : Nat} {e : TypeId} {size n : Nat} {v : Value} {xs : List Value} (h : w.ownsRow base e size v n xs) (hb : Below w.heap.size w w') : w'.ownsRow base e size v n xs :=
  own_keep h fun g hg => hb.block g (h.lt g hg).2
theorem Own.below {w w' : World} {B : Nat} {A : Option Addr} {c : Nat} {l : List Rg} (h : Own w B A c l) (hb : Below w.heap.size w w') : Own w' B A c l := ⟨own_keep' h.1 hb, h.2⟩
theorem Rgs.sizes {w : World} {A : Option Addr} {l : List Rg} (h : Rgs w A l) : ∀ x ∈ l, x.h.size ≤ maxLen := fun x hx => by
  obtain ⟨j, hj, rfl⟩ := List.getElem_of_mem hx
  obtain ⟨b, o, _, hc⟩ := h (by omega)
  exact (hc j _ (List.getElem?_eq_getElem hj)).1
theorem run_append_none (w : World) (ty : TypeId) (base e : Nat) (i : TypeInfo) (t : TypeId) (ht : Tryd.prog.underlying t = some (.slice e)) (hi : Tryd.prog.info? e = some i) (v : Value) (n size : Nat) (xs : List Value) (hown : w.ownsRow base e size v n xs) (c : Nat) :
    (Builtin.append_ #[t, t] ty #[v, .slice none 0 c]).run Tryd.prog w = .ok v w := by
  rcases hown.2 with ⟨rfl, rfl⟩ | ⟨g, cap, cur, rfl, _, _, hnc, _⟩
  · simp [Builtin.append_, run_underlying ht, sizeOf, typeInfo, hi, Builtin.lenOf, Builtin.firstCells]
  · simp [Builtin.append_, run_underlying ht, sizeOf, typeInfo, hi, Builtin.lenOf, Builtin.firstCells, hnc, storeCells]
theorem rgs_cells {w : World} {A : Option Addr} {l : List Rg} (h : Rgs w A l) (ad : Addr) (ha : A = some ad) : ∀ j u, (rgCells l)[j]? = some u → w.cell? (ad.add j) = some u := by
  intro j u hu
  have hlt : j < l.length * 2 := by have := (List.getElem?_eq_some_iff.1 hu).1; rw [rgCells_length] at this; exact this
  obtain ⟨b, o, e, hc⟩ := h (by omega)
  obtain rfl : ad = ⟨b, o, none⟩ := Option.some.inj (ha.symm.trans e)
  rw [Addr.add_lit]
  have hj2 : j / 2 < l.length := by omega
  have hr := List.getElem?_eq_getElem hj2
  obtain ⟨g0, g1⟩ := rgCells_get hr
  obtain ⟨_, k0, k1⟩ := hc _ _ hr
  generalize hq : j / 2 = m at *
  rcases (show j = m * 2 ∨ j = m * 2 + 1 by omega) with e | e
  · subst e
    rw [g0] at hu
    rw [← Option.some.inj hu]
    exact k0
  · subst e
    rw [g1] at hu
    rw [← Option.some.inj hu, ← Nat.add_assoc]
    exact k1
/-- 'append(v, l...)', v of one's own. -/
theorem wpList_append_rgs {ops : Array Oper} {rest : List Oper} {o : Oper} {a : Act} {w : World} {Q : Exit → Act → World → Prop} (hgd : o.guard = none) (s x : Operand)
    (ho : o.op = .call { callee := .builtin .append, args := #[s, x], argTypes := #[22, 22] }) (B : Nat) (A0 : Option Addr) (c0 : Nat) (l0 : List Rg) (hs : a.eval s = .slice A0 l0.length c0) (hown : Own w B A0 c0 l0)
    (A : Option Addr) (c : Nat) (l : List Rg) (hx : a.eval x = .slice A l.length c) (hl : Rgs w A l) (hm : l0.length + l.length ≤ 100000) (hB : B ≤ w.heap.size)
    (h : ∀ A' c' w', Own w' B A' c' (l0 ++ l) → w.grownBy w' (Value.slice A0 l0.length c0).ownBlock → wpList Tryd.prog ops Q rest (a.put o.dst (.slice A' (l0 ++ l).length c')) w') : wpList Tryd.prog ops Q (o :: rest) a w := by
  obtain ⟨i0, hi0, hz0, hz1, hz2⟩ := info_parts infoReg
  have key : ∃ v' w', (Builtin.append_ #[22, 22] o.type #[.slice A0 l0.length c0, .slice A l.length c]).run Tryd.prog w = .ok v' w' ∧ w'.ownsRow B 57 2 v' (l0 ++ l).length (rgCells (l0 ++ l)) ∧ w.grownBy w' (Value.slice A0 l0.length c0).ownBlock := by
    cases A with
    | none =>
      have h0 : l = [] := by
        cases l with
        | nil => rfl
        | cons k ks =>
          obtain ⟨b, o, e, _⟩ := hl (by simp)
          cases e
      subst h0
      rw [List.append_nil]
      exact ⟨_, w, run_append_none w o.type B 57 i0 22 Tryd.underlying22 hi0 _ l0.length 2 _ hown.1 c, hown.1, World.grownBy.refl w _⟩
    | some ad =>
      obtain ⟨v', w', h1, h2, h3, _, _⟩ := run_append_own_at (P := Tryd.prog) w B 22 o.type 57 i0 _ 2 24 Tryd.underlying22 hi0 hz0 hz1 hz2 rfl (by omega) _ l0.length _ hown.1 ad l.length c (rgCells l) (by rw [rgCells_length]) (rgs_cells hl ad rfl) rgCells_one (by unfold maxLen; omega) (by omega) hB
      rw [← rgCells_append] at h2
      rw [List.length_append]
      exact ⟨v', w', h1, h2, h3⟩
  obtain ⟨v', w', hr, h2, h3⟩ := key
  obtain ⟨A', c', rfl⟩ := own_form h2
  refine wpList_plain hgd fun K hK => ?_
  unfold Oper.wp execOp
  simp only [ho, resolve, invoke, builtin, Sem.run_bind, Sem.run_pure, Result.andThen_ok, List.map_toArray, List.map_cons, List.map_nil, hs, hx, hr]
  exact hK _ _ (h A' c' w' ⟨h2, fun y hy => (List.mem_append.1 hy).elim (hown.2 y) (hl.sizes y)⟩ h3)
theorem own_none (w : World) : Own (w.alloc (.cells #[] 57)) w.heap.size (some ⟨w.heap.size, 0, none⟩) 0 [] := ⟨World.ownsRow_made w #[] 0 (Nat.le_refl _) (by decide) rfl, fun x hx => by cases hx⟩
/-- The boxes of CopyTable. -/
theorem copy_box (w : World) (A : Option Addr) (c : Nat) (t : Tl) (z : Array Value) : ∀ v, v = (w.alloc (.cells (tlC A c t) 27)).alloc (.cells z 27) → Blk v w.heap.size 27 (tlC A c t) ∧ Blk v (w.heap.size + 1) 27 z ∧ Below w.heap.size w v ∧ v.heap.size = w.heap.size + 2 := by
  rintro v rfl
  refine ⟨(Blk.new w _ _).alloc _, ?_, ((Below.refl w.heap.size w).alloc (Nat.le_refl _) _).alloc (by simp) _, by simp⟩
  have := Blk.new (w.alloc (.cells (tlC A c t) 27)) 27 z
  simpa using this
abbrev tlZ : Array Value := #[.slice none 0 0, .int .i64 0, .string ⟨#[]⟩, .int .u32 0, .bool false]
theorem size27 : (Tryd.prog.info? 27).map (·.size) = some 5 := by kernel_rfl
set_option maxRecDepth 100000 in
set_option maxHeartbeats 2000000 in
theorem copy_any (A : Option Addr) (c : Nat) (t : Tl) (w : World) (hl : Rgs w A t.rs) (hm : t.rs.length ≤ 1000) :
    Calls Tryd.prog 13 #[tlV A c t] w fun e w' => ∃ A' c', e = .returned (tlV A' c' t) ∧ Own w' w.heap.size A' c' t.rs ∧ Below w.heap.size w w' := by
  obtain ⟨h1, h2, h3, h4⟩ := copy_box w A c t tlZ _ rfl
  have HT := Lib.hid h1; have HZ := Lib.hid h2; have HB := Lib.hid h3; have HS := Lib.hid h4
  have HL := Lib.hid (hl.below h3)
  have HM := Lib.hid hm
  clear h1 h2 h3 h4 hl hm
  go_enter Tryd.func13, Tryd.ntmps13
  go_upto_region 1 with (fail)
  change Code.wp _ _ _ _ ((w.alloc (.cells (tlC A c t) 27)).alloc (.cells tlZ 27))
  generalize (w.alloc (.cells (tlC A c t) 27)).alloc (.cells tlZ 27) = w0 at *
  have HA := Lib.hid ((Below.refl w0.heap.size w0).alloc (Nat.le_refl _) (.cells #[] 57))
  have HL1 := Lib.hid (HL.out.below HA.out)
  have HT1 := Lib.hid (HT.out.below HA.out HT.out.lt)
  have HZ1 := Lib.hid (HZ.out.below HA.out HZ.out.lt)
  have c0 : (w0.alloc (.cells #[] 57)).cell? ⟨w.heap.size, 0, none⟩ = some (.slice A t.rs.length c) := HT1.out.cell 0
  have hns : some w.heap.size ≠ some w0.heap.size := by rw [HS.out]; simp
  have hns1 : some (w.heap.size + 1) ≠ some w0.heap.size := by rw [HS.out]; simp
  have HNS := Lib.hid hns; have HNS1 := Lib.hid hns1
  clear hns hns1
  go_wp2_with (at_builtin; refine wpList_append_rgs rfl (.tmp 3) (.tmp 5) rfl w0.heap.size (some ⟨w0.heap.size, 0, none⟩) 0 [] rfl (own_none w0) A c t.rs rfl HL1.out (by have := HM.out; simp; omega) (by simp) ?_; intro A3 cc w3 hn3 hg3; have H3 := Lib.hid hn3; have HG3 := Lib.hid hg3; clear hn3 hg3 c0; have HT3 := Lib.hid (HT1.out.grown HG3.out HNS.out); have HZ3 := Lib.hid (HZ1.out.grown HG3.out HNS1.out); have c0 := HT3.out.cell 0; have f0 := HT3.out.free 0; have c1 : w3.cell? ⟨w.heap.size, 1, none⟩ = some (.int .i64 t.ty) := HT3.out.cell 1; have c2 : w3.cell? ⟨w.heap.size, 2, none⟩ = some (.string t.ho) := HT3.out.cell 2; have c3 : w3.cell? ⟨w.heap.size, 3, none⟩ = some (.int .u32 t.ge) := HT3.out.cell 3; have c4 : w3.cell? ⟨w.heap.size, 4, none⟩ = some (.bool t.ap) := HT3.out.cell 4; have d0 := HZ3.out.cell 0; have d1 := HZ3.out.cell 1; have d2 := HZ3.out.cell 2; have d3 := HZ3.out.cell 3; have d4 := HZ3.out.cell 4; have g0 := HZ3.out.free 0; have g1 := HZ3.out.free 1; have g2 := HZ3.out.free 2; have g3 := HZ3.out.free 3; have g4 := HZ3.out.free 4)
  have hne : w.heap.size ≠ w.heap.size + 1 := by omega
  have hV : ∀ V, V = ((((((w3.setCell ⟨w.heap.size, 0, none⟩ (.slice A3 t.rs.length cc)).setCell ⟨w.heap.size + 1, 0, none⟩ (.slice A3 t.rs.length cc)).setCell ⟨w.heap.size + 1, 1, none⟩ (.int .i64 t.ty)).setCell ⟨w.heap.size + 1, 2, none⟩ (.string t.ho)).setCell ⟨w.heap.size + 1, 3, none⟩ (.int .u32 t.ge)).setCell ⟨w.heap.size + 1, 4, none⟩ (.bool t.ap)) → Blk V (w.heap.size + 1) 27 (tlC A3 cc t) ∧ Only (fun k => k = w.heap.size ∨ k = w.heap.size + 1) w3 V := by
    rintro V rfl
    refine ⟨((((((HZ3.out.far (p := ⟨w.heap.size, 0, none⟩) (by simp) _).put 0 _).put 1 _).put 2 _).put 3 _).put 4 _), ?_⟩
    exact (((((((Only.refl _ _).setCell (.inl (.inl rfl)) _).setCell (.inl (.inr rfl)) _).setCell (.inl (.inr rfl)) _).setCell (.inl (.inr rfl)) _).setCell (.inl (.inr rfl)) _).setCell (.inl (.inr rfl)) _)
  obtain ⟨hK, hO⟩ := hV _ rfl
  have hO3 : Own _ w.heap.size A3 cc t.rs := ⟨own_base (own_keep H3.out.1 fun g hg => hO.block g (H3.out.1.lt g hg).2 (by have := (H3.out.1.lt g hg).1; rw [HS.out] at this; rintro (e | e) <;> omega)) (fun g hg => by have := (H3.out.1.lt g hg).1; rw [HS.out] at this; omega), H3.out.2⟩
  have hB3 : Below w.heap.size w w3 := (HB.out.trans (HA.out.mono HB.out.size)).grown HG3.out (Nat.le_trans HB.out.size HA.out.size) (fun k hk => by rw [← Option.some.inj hk]; exact HB.out.size)
  have hB : Below w.heap.size w _ := hB3.trans (hO.toBelow hB3.size (fun k hk => by rcases hk with e | e <;> omega))
  refine bodyPost_ret_by (results_cell_row rfl _ _ (w.heap.size + 1) 27 (tlC A3 cc t) (0, 0) _ rfl hK Tryd.underlying27 rfl size27) rfl ?_
  exact ⟨A3, cc, rfl, hO3, hB⟩
theorem below_drewN {B : Nat} {a b : World} (h : Below B a b) (n : Nat) : Below B a (b.drewN n) := ⟨h.os, h.tape, h.output, h.size, h.block⟩
set_option maxRecDepth 100000 in
set_option maxHeartbeats 2000000 in
theorem regs_same (A1 A2 : Option Addr) (c1 c2 : Nat) (l : List Rg) (w : World) (h1 : Rgs w A1 l) (h2 : Rgs w A2 l) (hl : l.length ≤ 100000) :
    Calls Tryd.prog 29 #[.slice A1 l.length c1, .slice A2 l.length c2] w fun e w' => e = .returned (.bool true) ∧ Below w.heap.size w w' := by
  have H1 := Lib.hid h1; have H2 := Lib.hid h2; clear h1 h2
  go_enter Tryd.func29, Tryd.ntmps29
  go_wp2_with (fail)
  go_loopw [5] (fun i wr => ∃ k : Nat, i = .int .i64 k ∧ k ≤ l.length ∧ Below w.heap.size w wr) (fun i _ => l.length - (intOf i).toNat)
  case atStart => exact ⟨0, rfl, Nat.zero_le _, Below.refl _ _⟩
  case round =>
    obtain ⟨k, rfl, hk, hb⟩ := hrel
    have HB := Lib.hid hb; clear hb
    by_cases hlt : k < l.length
    · have hki : (k : Int) < l.length := by omega
      obtain ⟨b1, o1, x1, rfl, hat1, _, d1, d2⟩ := (H1.out.below HB.out).at_ hlt
      obtain ⟨b2, o2, x2, rfl, hat2, _, d4, d5⟩ := (H2.out.below HB.out).at_ hlt
      obtain rfl : x1 = x2 := by rw [hat1] at hat2; exact Option.some.inj hat2
      clear hat1 hat2
      have n1 : (x1.h.toList != x1.h.toList) = false := by simp
      have n2 : (x1.k != x1.k) = false := by simp
      go_upto_region 6 with (fail)
      go_quiet (fail)
      go_wp2_with (fail)
      go_roundw
      case rel => exact ⟨k + 1, by go_num, by omega, below_drewN HB.out _⟩
      case measure => simp [intOf]; omega
    · obtain rfl : k = l.length := by omega
      go_wp2
      go_ret
      exact ⟨rfl, HB.out⟩
/-- The boxes of two tables that came in by value. -/
theorem two_tl (w : World) (A A' : Option Addr) (c c' : Nat) (t t' : Tl) : ∀ v, v = (w.alloc (.cells (tlC A c t) 27)).alloc (.cells (tlC A' c' t') 27) → Blk v w.heap.size 27 (tlC A c t) ∧ Blk v (w.heap.size + 1) 27 (tlC A' c' t') ∧ Below w.heap.size w v := by
  rintro v rfl
  refine ⟨(Blk.new w _ _).alloc _, ?_, ((Below.refl w.heap.size w).alloc (Nat.le_refl _) _).alloc (by simp) _⟩
  have := Blk.new (w.alloc (.cells (tlC A c t) 27)) 27 (tlC A' c' t')
  simpa using this
set_option maxRecDepth 100000 in
set_option maxHeartbeats 2000000 in
theorem tables_same (A1 A2 : Option Addr) (c1 c2 : Nat) (t : Tl) (w : World) (h1 : Rgs w A1 t.rs) (h2 : Rgs w A2 t.rs) (hl : t.rs.length ≤ 100000) :
    Calls Tryd.prog 18 #[tlV A1 c1 t, tlV A2 c2 t] w fun e w' => e = .returned (.bool true) ∧ Below w.heap.size w w' := by
  obtain ⟨k1, k2, k3⟩ := two_tl w A1 A2 c1 c2 t t _ rfl
  have HT1 := Lib.hid k1; have HT2 := Lib.hid k2; have HB := Lib.hid k3
  have H1 := Lib.hid (h1.below k3); have H2 := Lib.hid (h2.below k3); have HM := Lib.hid hl
  clear k1 k2 k3 h1 h2 hl
  go_enter Tryd.func18, Tryd.ntmps18
  go_upto_region 1 with (fail)
  change Code.wp _ _ _ _ ((w.alloc (.cells (tlC A1 c1 t) 27)).alloc (.cells (tlC A2 c2 t) 27))
  generalize (w.alloc (.cells (tlC A1 c1 t) 27)).alloc (.cells (tlC A2 c2 t) 27) = w0 at *
  have a0 : w0.cell? ⟨w.heap.size, 0, none⟩ = some (.slice A1 t.rs.length c1) := HT1.out.cell 0
  have b0 : w0.cell? ⟨w.heap.size + 1, 0, none⟩ = some (.slice A2 t.rs.length c2) := HT2.out.cell 0
  go_wp2_with (fail)
  refine (regs_same A1 A2 c1 c2 t.rs _ H1.out H2.out HM.out).mono ?_; rintro e w1 ⟨rfl, hb1⟩
  have HB1 := Lib.hid (HB.out.trans (hb1.mono HB.out.size))
  have HU1 := Lib.hid (HT1.out.below hb1 HT1.out.lt); have HU2 := Lib.hid (HT2.out.below hb1 HT2.out.lt)
  clear hb1 a0 b0
  have a1 : w1.cell? ⟨w.heap.size, 1, none⟩ = some (.int .i64 t.ty) := HU1.out.cell 1
  have a2 : w1.cell? ⟨w.heap.size, 2, none⟩ = some (.string t.ho) := HU1.out.cell 2
  have a3 : w1.cell? ⟨w.heap.size, 3, none⟩ = some (.int .u32 t.ge) := HU1.out.cell 3
  have a4 : w1.cell? ⟨w.heap.size, 4, none⟩ = some (.bool t.ap) := HU1.out.cell 4
  have b1 : w1.cell? ⟨w.heap.size + 1, 1, none⟩ = some (.int .i64 t.ty) := HU2.out.cell 1
  have b2 : w1.cell? ⟨w.heap.size + 1, 2, none⟩ = some (.string t.ho) := HU2.out.cell 2
  have b3 : w1.cell? ⟨w.heap.size + 1, 3, none⟩ = some (.int .u32 t.ge) := HU2.out.cell 3
  have b4 : w1.cell? ⟨w.heap.size + 1, 4, none⟩ = some (.bool t.ap) := HU2.out.cell 4
  have e1 : (t.ty == t.ty) = true := by simp
  have e2 : (t.ho.toList == t.ho.toList) = true := by simp
  have e3 : (t.ge == t.ge) = true := by simp
  have e4 : (t.ap == t.ap) = true := by simp
  go_wp2_with (fail)
  go_ret
  exact ⟨rfl, HB1.out⟩
/-- The statements' own table. -/
def wakT : Tl := ⟨[⟨⟨#[97]⟩, 1⟩, ⟨⟨#[98]⟩, 2⟩], 1, ⟨#[97]⟩, 0, false⟩
end Go.Proofs.YtgekadfkokkapaaDoor
