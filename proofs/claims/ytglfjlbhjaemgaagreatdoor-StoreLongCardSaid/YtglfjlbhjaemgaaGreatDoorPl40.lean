/- store: what is read, sector by sector. store: Read. store: a store of one's own. store: Open. store: what is done with a store of one's own. -/
import Derived.Test.YtglfjlbhjaemgaaGreatDoorPl39
import Derived.Lib.BufferWrite
import Derived.Test.YtglfjlbhjaemgaaGreatDoorPl14
namespace Go.Proofs.YtglfjlbhjaemgaaGreatDoor
open Go.RowKit
open Ext (Ex Exts exV ExtsF textX BytesAt)
open Ext (whereX AscTo goodB setX dropX)
def blkE (L : List ByteArray) (l : List Ex) (b : Int) : ByteArray := (valE L l b).getD zeroS
def secsE (L : List ByteArray) (l : List Ex) (lba k : Nat) : List ByteArray := (List.range k).map fun i => blkE L l ((lba + i : Nat) : Int)
theorem secsE_get {L : List ByteArray} {l : List Ex} {lba k i : Nat} (h : i < k) : (secsE L l lba k)[i]? = some (blkE L l ((lba + i : Nat) : Int)) := by
  unfold secsE
  rw [List.getElem?_map, List.getElem?_range h]
  rfl
theorem secsE_len {L : List ByteArray} {l : List Ex} {lba k : Nat} : (secsE L l lba k).length = k := by simp [secsE]
theorem secsE_past {L : List ByteArray} {l : List Ex} {lba k i : Nat} (h : k ≤ i) : (secsE L l lba k)[i]? = none := List.getElem?_eq_none (by rw [secsE_len]; exact h)
theorem zeroS_size : zeroS.size = 512 := by rw [zeroS_is]; exact Array.size_replicate
theorem where_snoc : ∀ {l : List Ex} {y : Ex} {b : Int}, whereX (l ++ [y]) b = (whereX l b).or (if y.l ≤ b ∧ b < y.l + y.b then some (y.a + b - y.l) else none)
  | [], y, b => by
    show whereX [y] b = (none : Option Int).or _
    rw [Ext.where_cons]
    rfl
  | x :: t, y, b => by
    show whereX (x :: (t ++ [y])) b = _
    rw [Ext.where_cons, Ext.where_cons, where_snoc (l := t)]
    split <;> rfl
theorem asc_take : ∀ {l : List Ex} {s e : Int} {m : Nat} {y : Ex}, AscTo s e l → l[m]? = some y → AscTo s y.l (l.take m)
  | x :: t, s, e, 0, y, h, hy => by
    obtain rfl : x = y := by simpa using hy
    exact h.1
  | x :: t, s, e, m + 1, y, h, hy => ⟨h.1, h.2.1, asc_take h.2.2 (by simpa using hy)⟩
theorem blkE_size {L : List ByteArray} {l : List Ex} {b : Int} (hL : ∀ s ∈ L, s.size = 512) (hin : ∀ b a, whereX l b = some a → 0 ≤ a ∧ a < (L.length : Int)) : (blkE L l b).size = 512 := by
  unfold blkE valE
  cases h : whereX l b with
  | none => exact zeroS_size
  | some a =>
    show (L.getD a.toNat ⟨#[]⟩).size = 512
    have := hin b a h
    rw [List.getD_eq_getElem?_getD, List.getElem?_eq_getElem (by omega)]
    exact hL _ (List.getElem_mem _)
theorem secsE_size {L : List ByteArray} {l : List Ex} {lba k : Nat} (hL : ∀ s ∈ L, s.size = 512) (hin : ∀ b a, whereX l b = some a → 0 ≤ a ∧ a < (L.length : Int)) : ∀ s ∈ secsE L l lba k, s.size = 512 := by
  intro s hs
  obtain ⟨i, _, rfl⟩ := List.mem_map.1 hs
  exact blkE_size hL hin
theorem secsE_nil {L : List ByteArray} {lba : Nat} : ∀ {k : Nat}, secsE L [] lba k = List.replicate k zeroS := by
  intro k
  unfold secsE
  rw [List.eq_replicate_iff]
  refine ⟨by simp, fun s hs => ?_⟩
  obtain ⟨i, _, rfl⟩ := List.mem_map.1 hs
  rfl
/-- One more extent is read. -/
theorem secsE_step {L : List ByteArray} {l : List Ex} {lba k Q B a m : Nat} {s e : Int} (ha : AscTo s e l) (hm : l[m]? = some ⟨((lba + Q : Nat) : Int), (B : Int), (a : Int)⟩) (hq : Q + B ≤ k) (hn : a + B ≤ L.length) :
    secsE L (l.take (m + 1)) lba k = (secsE L (l.take m) lba k).take Q ++ part L a B ++ (secsE L (l.take m) lba k).drop (Q + B) := by
  have ht : l.take (m + 1) = l.take m ++ [⟨((lba + Q : Nat) : Int), (B : Int), (a : Int)⟩] := by rw [List.take_add_one, hm]; rfl
  have hat := asc_take ha hm
  have hb : ∀ b : Int, blkE L (l.take (m + 1)) b = if ((lba + Q : Nat) : Int) ≤ b ∧ b < ((lba + Q : Nat) : Int) + B then L.getD ((a : Int) + b - ((lba + Q : Nat) : Int)).toNat ⟨#[]⟩ else blkE L (l.take m) b := fun b => by
    unfold blkE valE
    rw [ht, where_snoc]
    by_cases h : ((lba + Q : Nat) : Int) ≤ b ∧ b < ((lba + Q : Nat) : Int) + B
    · rw [if_pos h, hat.none_above b h.1, if_pos h]
      rfl
    · rw [if_neg h, if_neg h]
      cases whereX (l.take m) b <;> rfl
  have hp : (part L a B).length = B := part_length hn
  apply List.ext_getElem?
  intro i
  by_cases hi : i < k
  · rw [secsE_get hi, hb]
    by_cases h1 : i < Q
    · rw [if_neg (by omega), List.getElem?_append_left (by simp [secsE_len, hp]; omega), List.getElem?_append_left (by simp [secsE_len]; omega), List.getElem?_take, if_pos h1, secsE_get hi]
    · by_cases h2 : i < Q + B
      · rw [if_pos (by omega), List.getElem?_append_left (by simp [secsE_len, hp]; omega), List.getElem?_append_right (by simp [secsE_len]; omega)]
        simp only [List.length_take, secsE_len]
        unfold part
        rw [List.getElem?_take, if_pos (by omega), List.getElem?_drop, List.getD_eq_getElem?_getD, List.getElem?_eq_getElem (by omega), List.getElem?_eq_getElem (by omega)]
        show some (L[_]'_) = some _
        congr 2
        omega
      · rw [if_neg (by omega), List.getElem?_append_right (by simp [secsE_len, hp]; omega), List.getElem?_drop]
        simp only [List.length_append, List.length_take, secsE_len, hp]
        rw [secsE_get (by omega)]
        congr 2
        omega
  · rw [secsE_past (by omega), List.getElem?_append_right (by simp [secsE_len, hp]; omega), List.getElem?_drop]
    refine (secsE_past ?_).symm
    simp only [List.length_append, List.length_take, secsE_len, hp]
    omega
theorem flat_parts {secs : List ByteArray} {Q : Nat} (h : ∀ s ∈ secs, s.size = 512) (hq : Q ≤ secs.length) : (flatB secs).take (Q * 512) = flatB (secs.take Q) ∧ (flatB secs).drop (Q * 512) = flatB (secs.drop Q) := by
  have e : flatB secs = flatB (secs.take Q) ++ flatB (secs.drop Q) := by
    unfold flatB
    rw [← List.flatMap_append, List.take_append_drop]
  have hl : (flatB (secs.take Q)).length = Q * 512 := by
    rw [flatB_length (fun s hs => h s (List.mem_of_mem_take hs)), List.length_take, Nat.min_eq_left hq]
  rw [e]
  exact ⟨List.take_left' hl, List.drop_left' hl⟩
theorem flat_app (a b : List ByteArray) : flatB (a ++ b) = flatB a ++ flatB b := by unfold flatB; rw [List.flatMap_append]
theorem catS_list (l : List ByteArray) : (catS l).data.toList = flatB l := by simp [catS]
theorem str_flat (l : List ByteArray) : Lib.strCells (catS l) = Lib.byteCells (flatB l) := by rw [Lib.strCells_eq, catS_list]
theorem byteCells_take (l : List UInt8) (n : Nat) : (Lib.byteCells l).take n = Lib.byteCells (l.take n) := by unfold Lib.byteCells; rw [List.map_take]
theorem byteCells_drop (l : List UInt8) (n : Nat) : (Lib.byteCells l).drop n = Lib.byteCells (l.drop n) := by unfold Lib.byteCells; rw [List.map_drop]
theorem info_u8 : (Tryz.prog.info? 5).map (fun i => (i.zero, i.size, i.bytes)) = some (some (.int .u8 0), 1, 1) := by kernel_rfl
theorem size_u8 : (Tryz.prog.info? 5).map (·.size) = some 1 := by kernel_rfl
theorem flat_zero : ∀ k : Nat, flatB (List.replicate k zeroS) = List.replicate (k * 512) 0
  | 0 => rfl
  | k + 1 => by
    rw [List.replicate_succ]
    show zeroS.data.toList ++ flatB (List.replicate k zeroS) = _
    rw [flat_zero k, zeroS_is]
    show (Array.replicate 512 (0 : UInt8)).toList ++ _ = _
    rw [Array.toList_replicate, List.replicate_append_replicate]
    congr 1
    omega
set_option maxRecDepth 100000 in
theorem make_secs (k : Nat) (w : World) (hk : k ≤ 8192) : (Instr.makeSlice 100 (.int .i64 ((k * 512 : Nat) : Int)) (.int .i64 ((k * 512 : Nat) : Int))).run Tryz.prog w = .ok (.slice (some ⟨w.heap.size, 0, none⟩) ((k * 512 : Nat) : Int).toNat ((k * 512 : Nat) : Int).toNat) (w.alloc (.cells (Lib.strCells (catS (List.replicate k zeroS))).toArray 5)) := by
  obtain ⟨i0, hi0, hz0, hz1, hz2⟩ := info_parts info_u8
  have := run_make (P := Tryz.prog) w 100 5 i0 _ Tryz.underlying100 hi0 hz0 .i64 .i64 ((k * 512 : Nat) : Int) ((k * 512 : Nat) : Int) (by omega) (by omega) (by rw [hz2]; omega) (by omega)
  rw [this, hz1, str_flat, flat_zero]
  congr 3
  show madeCells #[.int .u8 0] (((k * 512 : Nat) : Int).toNat * 1) = _
  rw [Int.toNat_natCast, Nat.mul_one]
  unfold Lib.byteCells
  rw [List.map_replicate]
  apply Array.ext
  · simp [madeCells]
  · intro i h1 h2
    simp [madeCells, Nat.mod_one]
set_option maxRecDepth 100000 in
theorem copy_secs (w : World) (g Q B dLen dCap : Nat) (secs ps : List ByteArray) (hb : Blk w g 5 (Lib.strCells (catS secs)).toArray) (hs : ∀ s ∈ secs, s.size = 512) (hp : ∀ s ∈ ps, s.size = 512) (hpl : ps.length = B) (hq : Q + B ≤ secs.length) (hd : B * 512 ≤ dLen) :
    ∃ W, (Builtin.copy_ #[100, 9] 3 #[.slice (some ⟨g, Q * 512, none⟩) dLen dCap, .string (catS ps)]).run Tryz.prog w = .ok (.int .i64 ((B * 512 : Nat) : Int)) W ∧ Blk W g 5 (Lib.strCells (catS (secs.take Q ++ ps ++ secs.drop (Q + B)))).toArray ∧ Only (fun b => b = g) w W := by
  have hz : (catS ps).size = B * 512 := by rw [catS_size hp, hpl]
  have hcz : (Lib.strCells (catS secs)).toArray.size = secs.length * 512 := by
    rw [List.size_toArray, str_flat, Lib.byteCells_length, flatB_length hs]
  have hrun := Lib.run_copy_row_string (P := Tryz.prog) w 100 9 3 5 g (Q * 512) dLen dCap (catS ps) _ 5 Tryz.underlying100 size_u8 hb (by rw [hz]; exact hd) (by rw [hcz, hz]; omega)
  obtain ⟨f1, _⟩ := flat_parts (Q := Q) hs (by omega)
  obtain ⟨_, f2⟩ := flat_parts (Q := Q + B) hs (by omega)
  have hcell : (((Lib.strCells (catS secs)).toArray.toList.take (Q * 512) ++ Lib.byteCells (catS ps).data.toList ++ (Lib.strCells (catS secs)).toArray.toList.drop (Q * 512 + (catS ps).size)).toArray) = (Lib.strCells (catS (secs.take Q ++ ps ++ secs.drop (Q + B)))).toArray := by
    rw [List.toList_toArray, hz, str_flat, str_flat, byteCells_take, byteCells_drop, catS_list, f1, show Q * 512 + B * 512 = (Q + B) * 512 by omega, f2, ← Lib.byteCells_append, ← Lib.byteCells_append, flat_app, flat_app]
  rw [hcell] at hrun
  refine ⟨_, ?_, setRow_heap w g _ _ _ _ hb, ⟨rfl, rfl, rfl, by simp [World.setRow], fun k _ hk => setRow_other w g k _ hk⟩⟩
  rw [hrun, hz]
  rfl
theorem bytes_cells {w : World} {g : Nat} {s : ByteArray} (hb : Blk w g 5 (Lib.strCells s).toArray) : BytesAt w g s := fun j hj => by
  rw [hb.cell, List.getElem?_toArray]
  exact Ext.strCells_at s j hj
/-- What is read of a table's blocks. -/
theorem stored_secs {L : List ByteArray} {l : List Ex} {lba k : Nat} (hg : goodB l = true) (h : lba + k ≤ 4096) : secsE L (storedX l lba k) lba k = secsE L l lba k := by
  obtain ⟨g1, w1⟩ := Ext.drop_good (lba := 0) (k := (lba : Int)) hg (by omega) (by omega) (by omega)
  obtain ⟨g2, w2⟩ := Ext.drop_good (lba := (lba : Int) + k) (k := 4096 - ((lba : Int) + k)) g1 (by omega) (by omega) (by omega)
  apply List.ext_getElem?
  intro i
  by_cases hi : i < k
  · rw [secsE_get hi, secsE_get hi]
    unfold blkE valE storedX
    rw [w2, if_neg (by omega), w1, if_neg (by omega)]
  · rw [secsE_past (by omega), secsE_past (by omega)]
theorem stored_in {l : List Ex} {lba k : Nat} (hg : goodB l = true) (h : lba + k ≤ 4096) {N : Nat} (hin : ∀ b a, whereX l b = some a → 0 ≤ a ∧ a < (N : Int)) : ∀ y ∈ storedX l lba k, y.Fits ∧ (lba : Int) ≤ y.l ∧ y.l + y.b ≤ (lba : Int) + k ∧ y.a + y.b ≤ (N : Int) := by
  obtain ⟨g1, w1⟩ := Ext.drop_good (lba := 0) (k := (lba : Int)) hg (by omega) (by omega) (by omega)
  obtain ⟨g2, w2⟩ := Ext.drop_good (lba := (lba : Int) + k) (k := 4096 - ((lba : Int) + k)) g1 (by omega) (by omega) (by omega)
  intro y hy
  obtain ⟨h0, h2, h3, h4⟩ := asc_mem (Ext.good_asc g2) y hy
  have h5 := h2
  unfold Ex.Fits at h5
  have e1 := h4 y.l (by omega) (by omega)
  have e2 := h4 (y.l + y.b - 1) (by omega) (by omega)
  rw [w2, w1] at e1 e2
  split at e1
  · cases e1
  · split at e1
    · cases e1
    · split at e2
      · cases e2
      · split at e2
        · cases e2
        · have := hin _ _ e2
          exact ⟨h2, by omega, by omega, by omega⟩
open Go.RowKit
open Ext (Ex Exts exV ExtsF textX BytesAt)
open Ext (whereX AscTo goodB setX dropX)
theorem Has.dv {w : World} {S : Nat → Prop} {s p q n : Nat} {x : St} {j : Jn} {st : Sto} (h : Has w S s p q n x j st) : ∃ F, Dv w F p n x ∧ ∀ k, F k → S k := by
  rcases h with h | ⟨h, _⟩
  · obtain ⟨J, G, hj, _, _, hJ, _⟩ := h.both
    obtain ⟨F, G', hF, _, _, hs, _⟩ := hj.both
    exact ⟨F, hF, fun k hk => hJ k (hs k hk)⟩
  · obtain ⟨J, hj, _, _, hJ, _⟩ := h.both
    obtain ⟨F, G', hF, _, _, hs, _⟩ := hj.both
    exact ⟨F, hF, fun k hk => hJ k (hs k hk)⟩
theorem sread_any (w : World) {S : Nat → Prop} {s p q n : Nat} {x : St} {j : Jn} {st : Sto} (h : SD w S s p q n x j st) (i k : Nat) (hd : x.down = false) (hn : i + k ≤ n) :
    Calls Tryz.prog 79 #[.pointer (some ⟨p, 0, none⟩), .int .i64 (i : Int), .int .i64 (k : Int)] w fun e w' => e = .returned (.tuple #[.string (catS (part x.seen i k)), .int .i64 0]) ∧ Below w.heap.size w w' := by
  obtain ⟨F, hdv⟩ := h.dv
  exact read_ok w hdv i k (why_ok (by omega) hd)
def RsAt (w0 : World) (g : Nat) (L : List ByteArray) (l : List Ex) (lba k : Nat) (i : Value) (v : World) : Prop :=
  ∃ m : Nat, i = .int .i64 m ∧ m ≤ l.length ∧ Blk v g 5 (Lib.strCells (catS (secsE L (l.take m) lba k))).toArray ∧ Only (fun b => b = g) w0 v
theorem exts_off {w : World} {A : Option Addr} {l : List Ex} {g : Nat} {s : ByteArray} (h : Exts w A l) (hb : Blk w g 5 (Lib.strCells s).toArray) (hn : 0 < l.length) : ∀ a, A = some a → a.block ≠ g := by
  intro a ha hg
  obtain ⟨b, o, y, e, _, _, c0, _⟩ := h.at_ hn
  rw [ha] at e
  have e := Option.some.inj e
  subst e
  have hg : b = g := hg
  subst hg
  rw [hb.cell, List.getElem?_toArray] at c0
  unfold Lib.strCells at c0
  rw [List.getElem?_map] at c0
  cases hh : s.data.toList[o + 0 * 3]? with
  | none => rw [hh] at c0; cases c0
  | some z => rw [hh] at c0; have := Option.some.inj c0; cases this
set_option maxRecDepth 100000 in
set_option maxHeartbeats 2000000 in
theorem sread_ok (w : World) {S : Nat → Prop} {s p q n : Nat} {x : St} {j : Jn} {st : Sto} (h : Has w S s p q n x j st) (hb : st.bad = false) (hd : x.down = false) (lun : Nat) (t : Tb) (ht : st.l[lun]? = some t) (hk : t.Ok) (lba k : Nat) (hz : (lba : Int) + k ≤ t.n) (hin : ∀ b a, whereX t.ex b = some a → 0 ≤ a ∧ a < (n : Int)) :
    Calls Tryz.prog 22 #[.pointer (some ⟨s, 0, none⟩), .int .i64 (lun : Int), .int .i64 (lba : Int), .int .i64 (k : Int)] w fun e w' => e = .returned (.tuple #[.string (catS (secsE x.seen t.ex lba k)), .int .i64 0]) ∧ SOut S w s p q n x j st w' := by
  have hl : lba + k ≤ 4096 := by have := hk.n2; omega
  have hlen : x.seen.length = n := by
    obtain ⟨F, hdv, _⟩ := h.dv
    rw [seen_length]; exact hdv.good.size
  have hL : ∀ y ∈ x.seen, y.size = 512 := by
    obtain ⟨F, hdv, _⟩ := h.dv
    exact seen_secs hdv.good
  have hb0 : hasB t.n lba k = true := by unfold hasB; exact decide_eq_true (by omega)
  have HH := Lib.hid (fun A c v => (hb0 ▸ has_any t A c lba k v (by have := hk.n1; omega) (by have := hk.n2; omega) (by omega) : Calls Tryz.prog 67 #[tbV t A c, .int .i64 (lba : Int), .int .i64 (k : Int)] v fun e w' => e = .returned (.bool true) ∧ Below v.heap.size v w'))
  unfold tbV at HH
  have HT := Lib.hid (table_ok w h lun t ht)
  unfold tbV at HT
  have HR := Lib.hid (fun v T (hh : SD v T s p q n x j st) => ready_ok v hh hb hd)
  have HS := Lib.hid (fun v A c (hv : Exts v A t.ex) => stored_any t A c lba k v hk.good hv hl)
  unfold tbV at HS
  have HRD := Lib.hid (fun v T (hh : SD v T s p q n x j st) i m (hn : i + m ≤ n) => sread_any v hh i m hd hn)
  have HSD0 := Lib.hid (fun v T (hh : SD v T s p q n x j st) v' (hv : Below v.heap.size v v') => hh.below hv)
  have HIN := Lib.hid (stored_in (N := n) hk.good hl hin)
  have HSEC := Lib.hid (stored_secs (L := x.seen) (lba := lba) (k := k) hk.good hl)
  have HDM : Hid (∀ m, ∀ y ∈ secsE x.seen ((storedX t.ex lba k).take m) lba k, y.size = 512) := Lib.hid (fun m => secsE_size hL (fun b a hba => by
    obtain ⟨y, hy, h1, h2, h3⟩ := where_mem hba
    obtain ⟨y1, y2, y3, y4⟩ := stored_in (N := n) hk.good hl hin y (List.mem_of_mem_take hy)
    unfold Ex.Fits at y1
    rw [hlen]
    omega))
  have HPS : Hid (∀ a B, a + B ≤ n → (∀ y ∈ part x.seen a B, y.size = 512) ∧ (part x.seen a B).length = B) := Lib.hid (fun a B hab => ⟨fun y hy => hL y (part_mem hy), part_length (by rw [hlen]; exact hab)⟩)
  have HLEN := Lib.hid hlen
  obtain ⟨M, hM⟩ : ∃ M, M = k * 512 := ⟨_, rfl⟩
  have HMK : Hid (∀ v : World, (Instr.makeSlice 100 (.int .i64 (M : Int)) (.int .i64 (M : Int))).run Tryz.prog v = .ok (.slice (some ⟨v.heap.size, 0, none⟩) M M) (v.alloc (.cells (Lib.strCells (catS (secsE x.seen [] lba k))).toArray 5))) := Lib.hid (fun v => by rw [hM, secsE_nil]; exact make_secs k v (by omega))
  have hwM : IntKind.i64.wrap ((k : Int) * 512) = (M : Int) := by rw [i64w _ (by omega)]; omega
  have HM := Lib.hid hM
  have HL := Lib.hid hl
  obtain ⟨sl, hsl⟩ : ∃ sl, storedX t.ex lba k = sl := ⟨_, rfl⟩
  rw [hsl] at HS HIN HSEC HDM
  obtain ⟨L, hLL⟩ : ∃ L, x.seen = L := ⟨_, rfl⟩
  rw [hLL] at HRD HSEC HDM HPS HLEN HMK ⊢
  clear h ht hb hd hk hz hin hb0 hlen hL hsl hl hM hLL
  go_enter Tryz.func22, Tryz.ntmps22
  go_wp2_with (fail)
  refine HT.out.mono ?_; rintro e w1 ⟨E, c, S1, rfl, hsd, hex, hEb, ho, hg⟩
  obtain ⟨hnb, hb1⟩ := one_alloc w1 #[.int .i64 t.n, .string t.id, .string t.rc, .slice E t.ex.length c] 140 _ rfl
  have HB := Lib.hid hb1; have HNB := Lib.hid hnb; have HEX := Lib.hid hex
  have HSD := Lib.hid hsd; have HO := Lib.hid ho; have HG := Lib.hid hg
  have hnt := hnot_true (w1.alloc (.cells #[.int .i64 t.n, .string t.id, .string t.rc, .slice E t.ex.length c] 140))
  clear hsd ho hg hb1 hnb HT hnt hex hEb
  go_wp2_with (fail)
  generalize (w1.alloc (.cells #[.int .i64 t.n, .string t.id, .string t.rc, .slice E t.ex.length c] 140)) = w0 at *
  refine (HH.out E c _).mono ?_; rintro e w2 ⟨rfl, hb2⟩
  have hn2 := hnot_true w2
  have HB2 := Lib.hid (HB.out.trans (hb2.mono HB.out.size))
  have HNB2 := Lib.hid (HNB.out.below hb2 HNB.out.lt)
  clear hb2 HB HNB
  go_wp2_with (fail)
  refine (HR.out _ S1 (HSD0.out _ _ HSD.out _ HB2.out)).mono ?_; rintro e w3 ⟨rfl, rfl⟩
  have hmk := HMK.out w2
  clear HH HR HMK hn2
  go_upto_region 10 with (fail)
  have HBW := Lib.hid (Blk.new w2 5 (Lib.strCells (catS (secsE L [] lba k))).toArray)
  have HBA := Lib.hid ((Below.refl w2.heap.size w2).alloc (Nat.le_refl _) (.cells (Lib.strCells (catS (secsE L [] lba k))).toArray 5))
  have HNB3 := Lib.hid (HNB2.out.alloc (.cells (Lib.strCells (catS (secsE L [] lba k))).toArray 5))
  clear hmk HNB2
  generalize w2.alloc (.cells (Lib.strCells (catS (secsE L [] lba k))).toArray 5) = W at *
  have k0 := (HNB3.out.cell 0).trans rfl
  have k1 := (HNB3.out.cell 1).trans rfl
  have k2 := (HNB3.out.cell 2).trans rfl
  have k3 := (HNB3.out.cell 3).trans rfl
  have HEW := Lib.hid ((HEX.out.below HB2.out).below HBA.out)
  go_wp2_with (fail)
  refine (HS.out W E c HEW.out).mono ?_; rintro e w4 ⟨A4, c4, rfl, he4, hg4, hb4⟩
  have HE4 := Lib.hid he4; have HG4 := Lib.hid hg4
  have HB4 := Lib.hid (HBA.out.trans (hb4.mono HBA.out.size))
  have HBW4 := Lib.hid (HBW.out.below hb4 HBW.out.lt)
  clear he4 hg4 hb4 k0 k1 k2 k3 HS HEW HEX HBW HBA HNB3
  go_wp2_with (fail)
  go_loopw [44] (fun i v => RsAt w4 w2.heap.size L sl lba k i v) (fun i _ => sl.length - (intOf i).toNat)
  case atStart => exact ⟨0, rfl, Nat.zero_le _, HBW4.out, Only.refl _ _⟩
  case round =>
    obtain ⟨m, rfl, hm, hbk, hbl⟩ := hrel
    have HBK := Lib.hid hbk
    have HON := Lib.hid hbl
    have HBL := Lib.hid (HB4.out.trans (hbl.toBelow HB4.out.size (fun k hk => by rw [show k = w2.heap.size from hk]; exact Nat.le_refl _)))
    have HEV := Lib.hid (HE4.out.kept fun hn a ha => hbl.block a.block (HE4.out.lt hn a ha) (exts_off HE4.out HBW4.out hn a ha))
    clear hbk hbl HBW4
    generalize wr = v at *
    have HSDv := Lib.hid (HSD0.out _ _ (HSD0.out _ _ HSD.out _ HB2.out) _ HBL.out)
    by_cases hlt : m < sl.length
    · have hki : (m : Int) < sl.length := by omega
      obtain ⟨b, o, y, rfl, hat, wf, c0, c1, c2⟩ := HEV.out.at_ hlt
      obtain ⟨hf, hl1, hl2, han⟩ := HIN.out y (List.mem_of_getElem? hat)
      unfold Ex.Fits at hf
      obtain ⟨el, eb, ea⟩ := y
      simp only at hf hl1 hl2 han c0 c1 c2
      obtain ⟨B, rfl⟩ := Int.eq_ofNat_of_zero_le (show 0 ≤ eb by omega)
      obtain ⟨a, rfl⟩ := Int.eq_ofNat_of_zero_le hf.2.1
      obtain ⟨P, rfl⟩ : ∃ P : Nat, el = (P : Int) := ⟨el.toNat, by omega⟩
      obtain ⟨Q, hPQ⟩ : ∃ Q : Nat, P = lba + Q := ⟨P - lba, by omega⟩
      have hqb : Q + B ≤ k := by omega
      have hab : a + B ≤ n := by omega
      have HST := Lib.hid (secsE_step (L := L) (lba := lba) (k := k) (Q := Q) (B := B) (a := a) (Ext.good_asc HG4.out) (by rw [← hPQ]; exact hat) hqb (by rw [HLEN.out]; exact hab))
      obtain ⟨D, hD⟩ : ∃ D, D = Q * 512 := ⟨_, rfl⟩
      have HD := Lib.hid hD
      have hM := HM.out
      have hw1 : IntKind.i64.wrap ((P : Int) - (lba : Int)) = (Q : Int) := by have := HL.out; rw [i64w _ (by omega)]; omega
      have hw2 : IntKind.i64.wrap ((Q : Int) * 512) = (D : Int) := by have := HL.out; rw [i64w _ (by omega)]; omega
      have hwk : IntKind.i64.wrap ((m : Int) + 1) = ((m + 1 : Nat) : Int) := by
        have := Ext.good_length HG4.out
        rw [i64w _ (by omega)]; omega
      have g0 : (0 : Int) ≤ (D : Int) := by omega
      have g1 : (D : Int) ≤ (M : Int) := by omega
      have g2 : ¬ M - D = 0 := by omega
      have HQB := Lib.hid hqb; have HAB := Lib.hid hab
      have HMD := Lib.hid (show B * 512 ≤ M - D by omega)
      obtain ⟨hnb, hb1⟩ := one_alloc v #[.int .i64 (P : Int), .int .i64 (B : Int), .int .i64 (a : Int)] 158 _ rfl
      obtain ⟨v1, hv1⟩ : ∃ v1, v1 = v.alloc (.cells #[.int .i64 (P : Int), .int .i64 (B : Int), .int .i64 (a : Int)] 158) := ⟨_, rfl⟩
      have HV1 := Lib.hid hv1
      rw [← hv1] at hb1 hnb
      have HNB := Lib.hid hnb
      have HBV := Lib.hid hb1
      have HRDv := Lib.hid (fun u (hu : Below v.heap.size v u) => HRD.out u S1 (HSD0.out _ _ HSDv.out _ hu) a B hab)
      clear hat hf hl1 hl2 han wf hqb hab hPQ hD hM hnb hb1 hv1
      obtain ⟨lv, sv, hkk, hs⟩ := HSDv.out.cells
      go_upto_region 13 with (fail)
      rw [← HV1.out]
      have hs0 : v.cell? ⟨s, 0, none⟩ = some (.pointer (some ⟨p, 0, none⟩)) := (hkk.cell 0).trans rfl
      have k0 : v1.cell? ⟨s, 0, none⟩ = some (.pointer (some ⟨p, 0, none⟩)) := (HBV.out.cell (World.block_lt_of_cell? _ _ hs0)).trans hs0
      have k1 : v1.cell? ⟨v.heap.size, 1, none⟩ = some (.int .i64 (B : Int)) := (HNB.out.cell 1).trans rfl
      have k2 : v1.cell? ⟨v.heap.size, 2, none⟩ = some (.int .i64 (a : Int)) := (HNB.out.cell 2).trans rfl
      have BD := Lib.hid (HBV.out.drew)
      have HBK1 := Lib.hid (HBK.out.below HBV.out HBK.out.lt)
      clear hs0 hkk hs c0 c1 c2 HV1 HBK
      go_region_held3 (fun u => u.cell? ⟨s, 0, none⟩ = some (.pointer (some ⟨p, 0, none⟩)) ∧ u.cell? ⟨v.heap.size, 1, none⟩ = some (.int .i64 (B : Int)) ∧ u.cell? ⟨v.heap.size, 2, none⟩ = some (.int .i64 (a : Int))) (first | exact ⟨k0, k1, k2⟩ | exact ⟨e0, e1, e2⟩) (first
        | (go_at_call 79; refine (HRDv.out _ BD.out).mono ?_; rintro e w5 ⟨rfl, hb5⟩
           have e0 := (hb5.cell (p := ⟨s, 0, none⟩) (World.block_lt_of_cell? _ _ k0)).trans k0
           have e1 := (hb5.cell (p := ⟨v.heap.size, 1, none⟩) (World.block_lt_of_cell? _ _ k1)).trans k1
           have e2 := (hb5.cell (p := ⟨v.heap.size, 2, none⟩) (World.block_lt_of_cell? _ _ k2)).trans k2
           have HB5 := Lib.hid (BD.out.trans (hb5.mono BD.out.size))
           have HBK5 := Lib.hid (HBK1.out.drew.below hb5 HBK1.out.drew.lt)
           have HNB5 := Lib.hid (HNB.out.drew.below hb5 HNB.out.drew.lt)
           clear hb5)
        | fail)
      all_goals (
        clear k0 k1 k2 e0 e1 e2 BD HRDv
        obtain ⟨hps, hpl⟩ := HPS.out a B HAB.out
        obtain ⟨W6, hcp, hW6, hO6⟩ := copy_secs w5 w2.heap.size Q B (M - D) (M - D) _ (part L a B) HBK5.out (HDM.out m) hps hpl (by rw [secsE_len]; exact HQB.out) HMD.out
        rw [← HST.out] at hW6
        rw [← HD.out] at hcp
        have HW6 := Lib.hid hW6
        have HO6 := Lib.hid ((HON.out.below HB5.out).trans hO6 (fun _ h => .inl h))
        have x0 : w5.cell? ⟨v.heap.size, 0, none⟩ = some (.int .i64 (P : Int)) := (HNB5.out.cell 0).trans rfl
        generalize catS (part L a B) = z at *
        clear hps hpl hW6 hO6 HST HBK5
        go_wp2_with (fail)
        exact ⟨⟨m + 1, rfl, hlt, HW6.out, HO6.out⟩, by simp only [intOf]; omega⟩)
    · obtain rfl : m = sl.length := by omega
      have hkk : ¬ (sl.length : Int) < (sl.length : Int) := by omega
      rw [List.take_length] at HBK
      have hsz : (catS (secsE L sl lba k)).size = M := by
        have := HDM.out sl.length
        rw [List.take_length] at this
        rw [catS_size this, secsE_len, HM.out]
      have hst := Ext.bytes_str (cap := M) (bytes_cells HBK.out)
      rw [hsz, HSEC.out] at hst
      rw [HSEC.out] at HBK
      have R := Lib.hid (SOut.trans HO.out HG.out (SOut.of_below HSD.out (HB2.out.trans (HBL.out.mono HB2.out.size))))
      clear hsz
      go_wp2_with (fail)
      go_ret2
      exact ⟨rfl, R.out⟩
open Go.RowKit
open Ext (Ex Exts exV ExtsF textX)
open Ext (whereX AscTo goodB setX dropX)
theorem first_flag (l : List Tb) (i : Nat) : ((firstS l).f i).1 = l.any (fun t => covL t.ex i) ∧ ((firstS l).f i).2 ≤ (firstS l).ch := by
  obtain ⟨h1, h2⟩ := useTs_is l zeroF i
  show (useTs zeroF l i).1 = _ ∧ (useTs zeroF l i).2 ≤ 0
  rw [h1, h2]
  exact ⟨by simp [zeroF], Nat.le_refl _⟩
theorem inv_first {n : Nat} {x : St} {j : Jn} {l : List Tb} (ht : Tells n j l) (h0 : x.held = []) (hd : Disk x.safe n j) (hdn : x.down = false) (ha : x.armed = false) : Inv n x j (firstS l) (l.map (unOf x.seen)) (l.map (unOf x.seen)) :=
  ⟨ht, .inl ⟨h0, hd, rfl⟩, hdn, ha, rfl, fun i _ => first_flag l i, Nat.le_refl _, rfl⟩
theorem has_first {w : World} {S : Nat → Prop} {s p q n : Nat} {x : St} {j : Jn} {l : List Tb} (h : SU w S s p q n x j) (ht : Tells n j l) : Has w S s p q n x j (firstS l) := by
  obtain ⟨l0, xs, hr, hp⟩ := ht.rep
  subst hp
  exact .inr ⟨h, l0, xs, hr, ht.need, ht.most, ht.use, rfl⟩
def newU (u : Int × ByteArray) : Un := ⟨u.1, u.2, ⟨#[]⟩, fun _ => none⟩
/-- A store in memory of one's own; V is what is seen, Vp what may be seen behind a crash besides; m counts. -/
structure Us (w0 w : World) (s p q n : Nat) (V Vp : List Un) (m : Nat) : Prop where
  has : ∃ S x j st, Has w S s p q n x j st ∧ (∀ k, S k → w0.heap.size ≤ k) ∧ Inv n x j st V Vp ∧ x.ops ≤ m * 17000001 ∧ j.num ≤ m + 10 ∧ st.ch ≤ m
  below : Below w0.heap.size w0 w
/-- A device of one's own on which a store stands. -/
structure Dn (w0 w : World) (p n : Nat) (V Vp : List Un) (m : Nat) : Prop where
  has : ∃ F x a la, Dv w F p n x ∧ (∀ k, F k → w0.heap.size ≤ k) ∧ Disk x.seen n a ∧ Tells n a la ∧ (la.map (unOf x.seen) = V ∨ la.map (unOf x.seen) = Vp) ∧ x.down = false ∧ x.armed = false ∧ x.ops ≤ m * 17000001 ∧ a.num ≤ m + 10
  below : Below w0.heap.size w0 w
theorem Us.of {w0 w w' : World} {S : Nat → Prop} {s p q n : Nat} {x : St} {j : Jn} {st : Sto} {V Vp : List Un} {m : Nat} (hb : Below w0.heap.size w0 w) (hs : ∀ k, S k → w0.heap.size ≤ k) (ho : SOut S w s p q n x j st w') (hi : Inv n x j st V Vp) (h1 : x.ops ≤ m * 17000001) (h2 : j.num ≤ m + 10) (h3 : st.ch ≤ m) : Us w0 w' s p q n V Vp m := by
  obtain ⟨S', hsd, hon, hg⟩ := ho
  exact ⟨⟨S', x, j, st, .inl hsd, grew_lo hg hs hb.size, hi, h1, h2, h3⟩, below_go hb hon hs⟩
theorem Us.more {w0 w w' : World} {s p q n : Nat} {V Vp : List Un} {m : Nat} (h : Us w0 w s p q n V Vp m) (hb : Below w.heap.size w w') : Us w0 w' s p q n V Vp m := by
  obtain ⟨S, x, j, st, hh, hs, r⟩ := h.has
  exact ⟨⟨S, x, j, st, hh.below hb, hs, r⟩, h.below.trans (hb.mono h.below.size)⟩
theorem Dn.more {w0 w w' : World} {p n : Nat} {V Vp : List Un} {m : Nat} (h : Dn w0 w p n V Vp m) (hb : Below w.heap.size w w') : Dn w0 w' p n V Vp m := by
  obtain ⟨F, x, a, la, hh, hs, r⟩ := h.has
  exact ⟨⟨F, x, a, la, dv_below hh hb, hs, r⟩, h.below.trans (hb.mono h.below.size)⟩
theorem Us.tab {w0 w : World} {s p q n : Nat} {V Vp : List Un} {m : Nat} (h : Us w0 w s p q n V Vp m) : Tab w := by
  obtain ⟨S, x, j, st, hh, _⟩ := h.has
  exact hh.tab
/-- The device beneath. -/
theorem Us.dev {w0 w : World} {s p q n : Nat} {V Vp : List Un} {m : Nat} (h : Us w0 w s p q n V Vp m) : Dn w0 w p n V V m := by
  obtain ⟨S, x, j, st, hh, hs, hi, h1, h2, h3⟩ := h.has
  obtain ⟨F, hF, hsub⟩ := hh.dv
  exact ⟨⟨F, x, j, st.l, hF, fun k hk => hs k (hsub k hk), hi.disk, hi.tells, .inl hi.view.symm, hi.down, hi.armed, h1, h2⟩, h.below⟩
theorem crash_us {w0 w : World} {s p q n : Nat} {V Vp : List Un} {m : Nat} (h : Us w0 w s p q n V Vp m) (hm : m ≤ 500) (A : Option Addr) (c : Nat) (ks : List Int) (hks : Nums w A ks) (hoff : 0 < ks.length → ∀ a, A = some a → a.block < w0.heap.size) (hlen : ks.length ≤ maxLen) :
    Calls Tryz.prog 20 #[.pointer (some ⟨p, 0, none⟩), .slice A ks.length c] w fun e w' => e = .returned (.tuple #[]) ∧ Dn w0 w' p n V Vp m := by
  obtain ⟨S, x, j, st, hh, hs, hi, h1, h2, h3⟩ := h.has
  obtain ⟨F, hF, hsub⟩ := hh.dv
  have hlo : ∀ k, F k → w0.heap.size ≤ k := fun k hk => hs k (hsub k hk)
  have h1x := h1
  refine (crash_any w hF (by omega) A c ks hks (fun hn a ha hf => by
    have := hoff hn a ha
    have := hlo _ hf
    omega) hlen).mono ?_
  rintro e w' ⟨h1, F', hv, ho, hg⟩
  have h1' : (x.crash ks).ops ≤ m * 17000001 := h1x
  obtain ⟨a, la, hnum, k1, k2, k3⟩ := hi.crash ks
  exact ⟨h1, ⟨F', x.crash ks, a, la, hv, grew_lo hg hlo h.below.size, k1, k2, k3, rfl, rfl, h1', by omega⟩, below_go h.below ho hlo⟩
theorem apart_new {us : List (Int × ByteArray)} {n : Nat} : Apart n (us.map newT) := by
  have key : ∀ (k : Nat) (t : Tb), (us.map newT)[k]? = some t → t.ex = [] := fun k t h => by
    rw [List.getElem?_map] at h
    cases hu : us[k]? with
    | none => rw [hu] at h; cases h
    | some u => rw [hu] at h; obtain rfl := Option.some.inj h; rfl
  exact ⟨fun k t hk b a hb => (by rw [key k t hk] at hb; cases hb), fun k k' t t' hk _ b b' a hb _ => (by rw [key k t hk] at hb; cases hb)⟩
/-- A new store. -/
theorem format_us {w0 w : World} (hb : Below w0.heap.size w0 w) {F : Nat → Prop} {p n : Nat} (h : Dv w F p n (St.new n)) (hF : ∀ k, F k → w0.heap.size ≤ k) (ht : Tab w0) (A : Option Addr) (c : Nat) (us : List (Int × ByteArray)) (hus : Uns w A us) (hok : ∀ u ∈ us, 1 ≤ u.1 ∧ u.1 ≤ 4096 ∧ u.2.size = 16) (hu1 : 1 ≤ us.length) (hu8 : us.length ≤ 8) (hneed : needT (us.map newT) ≤ n) (hn : n ≤ 8192) :
    Calls Tryz.prog 15 #[.pointer (some ⟨p, 0, none⟩), .slice A us.length c] w fun e w' => ∃ s q, e = .returned (.tuple #[.pointer (some ⟨s, 0, none⟩), .int .i64 0]) ∧ Us w0 w' s p q n (us.map newU) (us.map newU) 1 := by
  have hoks := new_ok_tb hok
  have hbz : (baseB (us.map newT)).size ≤ 65536 := base_small hoks (by rw [List.length_map]; exact hu8) hneed hn
  have hgood := h.good
  have h576 : 576 ≤ n := by
    have h3 := (sumN_small (l := us.map newT) (fun t ht => ⟨(hoks t ht).n1, (hoks t ht).n2⟩)).1
    unfold needT at hneed
    omega
  have hfar : ¬ F gTab := lo_far ht hF
  have htw : Tab w := ht.below hb
  generalize hbt : baseB (us.map newT) = bt at *
  have hr : secF bt.size ≤ hsz 576 := by
    have : hsz 576 = 286 := rfl
    have := secF_le hbz
    omega
  have hwhy : (Jn.blank 0 576).why bt (Jn.blank 0 576).size = 0 := by
    unfold Jn.why
    rw [if_neg (by show ¬ false = true; simp), if_neg (by omega), if_neg (by show ¬ ((hsz 576 : Nat) : Int) < _; omega)]
  obtain ⟨p1, p2, p3⟩ := free_put (x := St.new n) rfl rfl 0 4 zero4
  obtain ⟨c1, c2, c3⟩ := free_check p2 p3 (Jn.blank 0 576) bt
  obtain ⟨d1, d2, _⟩ := check_parts c1
  obtain ⟨m1, m2, m3, m4⟩ := format_math hgood (fr := 0) (se := 576) (by omega) (by omega) hbz hr p1 c1
  have hops1 := put_ops (St.new n) 0 4 zero4
  have hops2 := check_ops (Jn.blank 0 576) ((St.new n).put 0 zero4 4).1 bt
  have hops3 := secF_le hbz
  have h0 : (St.new n).ops = 0 := rfl
  have hfs := format_store w h htw hfar A c us hus hok hu1 hu8 hneed (by rw [h0]; omega)
  rw [hbt] at hfs
  refine (hfs hwhy p1 d1 d2).mono ?_
  rintro e w' ⟨s, q, S, rfl, hsu, ho, hg⟩
  have htell : Tells n ((Jn.blank 0 576).swap bt) (us.map newT) := ⟨⟨us.map newT, [], ⟨hbt.symm, rfl, hoks, by rw [List.length_map]; exact hu1, by rw [List.length_map]; exact hu8, (fun x hx => by cases hx), Nat.zero_le _, by rw [hbt]; exact hbz, (fun x hx => by cases hx)⟩, rfl⟩, rfl, rfl, rfl, hoks, by rw [List.length_map]; exact hu1, by rw [List.length_map]; exact hu8, hneed, hn, apart_new⟩
  have hinv := inv_first htell m1 m2 (m4.trans rfl) (m3.trans rfl)
  have hV : (us.map newT).map (unOf ((Jn.blank 0 576).check ((St.new n).put 0 zero4 4).1 bt).1.seen) = us.map newU := by
    rw [List.map_map]
    rfl
  rw [hV] at hinv
  exact ⟨s, q, rfl, ⟨S, _, _, _, has_first hsu htell, grew_lo hg hF hb.size, hinv, by omega, by show 0 + 1 ≤ _; omega, Nat.zero_le _⟩, below_go hb ho hF⟩
open Go.RowKit
open Ext (Ex Exts exV ExtsF textX)
open Ext (whereX AscTo goodB setX dropX)
set_option maxRecDepth 100000 in
set_option maxHeartbeats 2000000 in
/-- The store that stands on a device. -/
theorem sopen_ok (w : World) {F : Nat → Prop} {p n : Nat} {x : St} (h : Dv w F p n x) (htb : Tab w) (hF : ¬ F gTab) (hd : x.down = false) {a : Jn} {la : List Tb} (hk : Disk x.seen n a) (ht : Tells n a la) (ho : x.ops ≤ 100000000000) (hfl : x.flsh.2 = true) (hn : 576 ≤ n) :
    Calls Tryz.prog 21 #[.pointer (some ⟨p, 0, none⟩)] w fun e w' => ∃ s q S, e = .returned (.tuple #[.pointer (some ⟨s, 0, none⟩), .int .i64 0]) ∧ SD w' S s p q n x.flsh.1 a (firstS la) ∧ Only F w w' ∧ Grew F w S := by
  have HD := Lib.hid (down_any w h)
  rw [hd] at HD
  have HS := Lib.hid (size_any w h)
  have hoo := open_disk w h htb hF hd hk ht.fit ho hfl
  rw [ht.fr, ht.se] at hoo
  have HO : Hid (Calls Tryz.prog 76 #[.pointer (some ⟨p, 0, none⟩), .int .i64 0, .int .i64 576] w (MadeJn F w p n x.flsh.1 a)) := Lib.hid hoo
  have hnn : ¬ ((n : Int) < 576) := by omega
  have HTB := Lib.hid (fun v S s q (hh : SU v S s p q n x.flsh.1 a) => tables_any v (has_first hh ht))
  have h1 := ht.one
  have hl0 : ((firstS la).l.length : Int) = la.length := rfl
  have hne : ¬ ((la.length : Int) = 0) := by omega
  have HSU : Hid (∀ (v : World) (q : Nat) (S : Nat → Prop), JD v S p q n x.flsh.1 a → SU (v.alloc (.cells (stC p q 0 0 (.slice none 0 0) (.slice none 0 0) 0 0 false) 137)) (fun k => S k ∨ k = v.heap.size) v.heap.size p q n x.flsh.1 a) := Lib.hid (fun v q S hj => by
    have hb := (Below.refl v.heap.size v).alloc (Nat.le_refl _) (.cells (stC p q 0 0 (.slice none 0 0) (.slice none 0 0) 0 0 false) 137)
    refine ⟨⟨S, hj.below hb, Blk.new v 137 _, fun hh => absurd (hj.lt _ hh) (Nat.lt_irrefl _), fun k hk => .inl hk, .inr rfl⟩, fun k hk => ?_, fun hk => ?_⟩
    · rcases hk with hk | rfl
      · exact Nat.lt_of_lt_of_le (hj.lt k hk) hb.size
      · simp
    · rcases hk with hk | hk
      · exact hj.far hk
      · have h1 : gTab < v.heap.size := hj.tab.pos
        have hk : gTab = v.heap.size := hk
        omega)
  have hbd := fun q v => build107 p q v
  clear h htb hF hd hk ho hfl hoo ht h1
  go_enter Tryz.func21, Tryz.ntmps21
  go_wp2_with (fail)
  refine HD.out.mono ?_; rintro e w1 ⟨rfl, rfl⟩
  clear HD
  go_wp2_with (fail)
  refine HS.out.mono ?_; rintro e w1 ⟨rfl, rfl⟩
  clear HS
  go_wp2_with (fail)
  refine HO.out.mono ?_; rintro e w1 ⟨q, S, rfl, hj, hon, hg⟩
  have HJ := Lib.hid (HSU.out w1 q S hj)
  have HON := Lib.hid hon; have HG := Lib.hid hg
  have hbd1 := hbd q w1
  clear hj hon hg HO HSU hbd
  go_wp2_with (fail)
  have HBA := Lib.hid ((Below.refl w1.heap.size w1).alloc (Nat.le_refl _) (.cells (stC p q 0 0 (.slice none 0 0) (.slice none 0 0) 0 0 false) 137))
  refine (HTB.out (w1.alloc (.cells (stC p q 0 0 (.slice none 0 0) (.slice none 0 0) 0 0 false) 137)) _ w1.heap.size q HJ.out).mono ?_; rintro e w2 ⟨b, o, c, S2, rfl, hsd, _, ho2, hg2⟩
  have HSD := Lib.hid hsd
  have HO2 := Lib.hid ((HON.out.below HBA.out).trans ho2 (fun k hk => by
    rcases hk with hk | rfl
    · exact HG.out k hk
    · exact .inr HON.out.size))
  have HG2 := Lib.hid (show Grew F w S2 from fun k hk => by
    rcases hg2 k hk with hk | hk
    · rcases hk with hk | rfl
      · exact HG.out k hk
      · exact .inr HON.out.size
    · exact .inr (Nat.le_trans HON.out.size (Nat.le_trans HBA.out.size hk)))
  clear hsd ho2 hg2 HTB HJ
  go_wp2_with (fail)
  go_ret2
  exact ⟨w1.heap.size, q, S2, rfl, HSD.out, HO2.out, HG2.out⟩
open Go.RowKit
open Ext (Ex Exts exV ExtsF textX)
open Ext (whereX AscTo goodB setX dropX)
theorem write_us {w0 w : World} {s p q n : Nat} {V Vp : List Un} {m : Nat} (h : Us w0 w s p q n V Vp m) (hm : m ≤ 500) {lun lba k : Nat} {u : Un} (hu : V[lun]? = some u) (hk : (lba : Int) + k ≤ u.n) (hk64 : k ≤ 64) (d : ByteArray) (hd : d.size = k * 512) :
    Calls Tryz.prog 18 #[.pointer (some ⟨s, 0, none⟩), .int .i64 (lun : Int), .int .i64 (lba : Int), .string d] w fun e w' => e = .returned (.int .i64 0) ∧ ∃ Vp', (Vp' = V ∨ Vp' = V.set lun (u.wr lba k d)) ∧ Us w0 w' s p q n (V.set lun (u.wr lba k d)) Vp' (m + 1) := by
  obtain ⟨S, x, j, st, hh, hs, hi, h1, h2, h3⟩ := h.has
  obtain ⟨t, ht, rfl⟩ := hi.un hu
  refine (swrite_inv w hh hi ht hk hk64 d hd (by omega) (by omega) (by omega)).mono ?_
  rintro e w' ⟨rfl, x', j', st', Vp', ho, hi', hv, k1, k2, k3⟩
  exact ⟨rfl, Vp', hv, Us.of h.below hs ho hi' (by omega) (by omega) (by omega)⟩
theorem record_us {w0 w : World} {s p q n : Nat} {V Vp : List Un} {m : Nat} (h : Us w0 w s p q n V Vp m) (hm : m ≤ 500) {lun : Nat} {u : Un} (hu : V[lun]? = some u) (d : ByteArray) (hd : d.size ≤ 2048) :
    Calls Tryz.prog 26 #[.pointer (some ⟨s, 0, none⟩), .int .i64 (lun : Int), .string d] w fun e w' => e = .returned (.int .i64 0) ∧ ∃ Vp', (Vp' = V ∨ Vp' = V.set lun (u.re d)) ∧ Us w0 w' s p q n (V.set lun (u.re d)) Vp' (m + 1) := by
  obtain ⟨S, x, j, st, hh, hs, hi, h1, h2, h3⟩ := h.has
  obtain ⟨t, ht, rfl⟩ := hi.un hu
  refine (srecord_inv w hh hi ht d hd (by omega) (by omega) (by omega)).mono ?_
  rintro e w' ⟨rfl, x', j', st', Vp', ho, hi', hv, k1, k2, k3⟩
  exact ⟨rfl, Vp', hv, Us.of h.below hs ho hi' (by omega) (by omega) (by omega)⟩
theorem Has.lt {w : World} {S : Nat → Prop} {s p q n : Nat} {x : St} {j : Jn} {st : Sto} (h : Has w S s p q n x j st) : ∀ k, S k → k < w.heap.size := by
  rcases h with h | ⟨h, _⟩
  · exact h.lt
  · exact h.lt
theorem clear_us {w0 w1 w : World} {s p q n : Nat} {V Vp : List Un} {m : Nat} (h : Us w0 w1 s p q n V Vp m) (hb : Below w1.heap.size w1 w) (hm : m ≤ 500) {lun : Nat} {u : Un} (hu : V[lun]? = some u) (A : Option Addr) (c0 : Nat) (l : List (Int × Int)) (hl : RngI w A l) (hA : 0 < l.length → ∀ a, A = some a → a.block < w0.heap.size ∨ w1.heap.size ≤ a.block) (hlen : l.length ≤ 16) (hal : allB u.n l = true) (hr : ∀ r ∈ l, -9223372036854775808 ≤ r.1 ∧ r.1 ≤ 9223372036854775807) :
    Calls Tryz.prog 27 #[.pointer (some ⟨s, 0, none⟩), .int .i64 (lun : Int), .slice A l.length c0] w fun e w' => e = .returned (.int .i64 0) ∧ ∃ Vp', (Vp' = V ∨ Vp' = V.set lun (u.cl (natR l))) ∧ Us w0 w' s p q n (V.set lun (u.cl (natR l))) Vp' (m + 1) := by
  obtain ⟨S, x, j, st, hh, hs, hi, h1, h2, h3⟩ := h.has
  obtain ⟨t, ht, rfl⟩ := hi.un hu
  refine (sclear_inv w (hh.below hb) hi ht A c0 l hl (fun hn a ha hk => by
    have k1 := hs _ hk
    have k2 := hh.lt _ hk
    rcases hA hn a ha with h4 | h4 <;> omega) hlen hal hr (by omega) (by omega) (by omega)).mono ?_
  rintro e w' ⟨rfl, x', j', st', Vp', ho, hi', hv, k1, k2, k3⟩
  exact ⟨rfl, Vp', hv, Us.of (h.below.trans (hb.mono h.below.size)) hs ho hi' (by omega) (by omega) (by omega)⟩
theorem flush_us {w0 w : World} {s p q n : Nat} {V Vp : List Un} {m : Nat} (h : Us w0 w s p q n V Vp m) (hm : m ≤ 500) :
    Calls Tryz.prog 19 #[.pointer (some ⟨s, 0, none⟩)] w fun e w' => e = .returned (.int .i64 0) ∧ Us w0 w' s p q n V V (m + 1) := by
  obtain ⟨S, x, j, st, hh, hs, hi, h1, h2, h3⟩ := h.has
  obtain ⟨f1, f2⟩ := hi.flush
  have hf := flsh_ops x
  rcases hh with hsd | ⟨hsu, l0, xs, r1, r2, r3, r4, r5⟩
  · refine (sflush_ok w hsd hi.bad hi.down hi.tells.fit (by omega) f1).mono ?_
    rintro e w' ⟨rfl, ho⟩
    exact ⟨rfl, Us.of h.below hs ho f2 (by omega) (by omega) (by show st.ch ≤ _; omega)⟩
  · refine (sflush_su w hsu hi.down hi.tells.fit (by omega) f1).mono ?_
    rintro e w' ⟨rfl, S', hsu', ho, hg⟩
    subst r5
    exact ⟨rfl, ⟨S', x.flsh.1, j, firstS (playL l0 xs), .inr ⟨hsu', l0, xs, r1, r2, r3, r4, rfl⟩, grew_lo hg hs h.below.size, f2, by omega, by omega, Nat.zero_le _⟩, below_go h.below ho hs⟩
/-- What stands at a block; what is read of some. -/
def Un.blk (u : Un) (b : Int) : ByteArray := (u.bl b).getD zeroS
def Un.rd (u : Un) (lba k : Nat) : ByteArray := catS ((List.range k).map fun i => u.blk ((lba + i : Nat) : Int))
theorem read_us {w0 w : World} {s p q n : Nat} {V Vp : List Un} {m : Nat} (h : Us w0 w s p q n V Vp m) {lun lba k : Nat} {u : Un} (hu : V[lun]? = some u) (hk : (lba : Int) + k ≤ u.n) :
    Calls Tryz.prog 22 #[.pointer (some ⟨s, 0, none⟩), .int .i64 (lun : Int), .int .i64 (lba : Int), .int .i64 (k : Int)] w fun e w' => e = .returned (.tuple #[.string (u.rd lba k), .int .i64 0]) ∧ Us w0 w' s p q n V Vp m := by
  obtain ⟨S, x, j, st, hh, hs, hi, h1, h2, h3⟩ := h.has
  obtain ⟨t, ht, rfl⟩ := hi.un hu
  have hb := hi.big
  refine (sread_ok w hh hi.bad hi.down lun t ht (hi.tells.oks t (List.mem_of_getElem? ht)) lba k hk (fun b a hba => by
    have := hi.tells.apart.range lun t ht b a hba
    omega)).mono ?_
  rintro e w' ⟨rfl, ho⟩
  exact ⟨rfl, Us.of h.below hs ho hi h1 h2 h3⟩
def Un.used (u : Un) : Nat := (List.range 4096).countP fun b : Nat => (u.bl (b : Int)).isSome
theorem count_le_split (p q : Nat → Bool) (m : Nat) (h : ∀ i, i < m → p i = true → q i = true → False) : (List.range m).countP (fun i => p i || q i) = (List.range m).countP p + (List.range m).countP q := by
  induction m with
  | zero => simp
  | succ m ih =>
    have ih := ih (fun i hi => h i (by omega))
    have hm := h m (by omega)
    rw [countP_next, countP_next, countP_next, ih]
    cases hp : p m <;> cases hq : q m
    · simp
    · simp; omega
    · simp; omega
    · exact absurd hq (fun hq => hm hp hq)
theorem count_exact (lo b : Nat) : ∀ m : Nat, lo + b ≤ m → (List.range m).countP (fun i : Nat => decide ((lo : Int) ≤ (i : Int) ∧ (i : Int) < (lo : Int) + b)) = b := by
  have key : ∀ m : Nat, (List.range m).countP (fun i : Nat => decide ((lo : Int) ≤ (i : Int) ∧ (i : Int) < (lo : Int) + b)) = min m (lo + b) - lo := by
    intro m
    induction m with
    | zero => simp
    | succ m ih =>
      rw [countP_next, ih]
      by_cases h : (lo : Int) ≤ (m : Int) ∧ (m : Int) < (lo : Int) + b
      · rw [decide_eq_true h]; simp only [if_true]; omega
      · rw [decide_eq_false h]; simp only [Bool.false_eq_true, if_false]; omega
  intro m hm
  rw [key m]
  omega
theorem used_count (m : Nat) : ∀ {l : List Ex} {s e : Int}, AscTo s e l → 0 ≤ s → e ≤ (m : Int) → (((List.range m).countP (fun b : Nat => (whereX l (b : Int)).isSome) : Nat) : Int) = Ext.sumB l
  | [], s, e, h, _, _ => by
    have e1 : (fun b : Nat => (whereX [] (b : Int)).isSome) = fun _ => false := rfl
    rw [e1, List.countP_eq_zero.2 (fun _ _ => by simp)]
    rfl
  | x :: t, s, e, h, hs, he => by
    obtain ⟨h1, h2, h3⟩ := h
    have hx := h2
    unfold Ex.Fits at hx
    have ih := used_count m h3 (by omega) he
    have hle := h3.le
    have e1 : (fun b : Nat => (whereX (x :: t) (b : Int)).isSome) = fun b : Nat => decide (((x.l.toNat : Nat) : Int) ≤ (b : Int) ∧ (b : Int) < ((x.l.toNat : Nat) : Int) + ((x.b.toNat : Nat) : Int)) || (whereX t (b : Int)).isSome := by
      funext b
      rw [Ext.where_cons]
      by_cases hb : x.l ≤ (b : Int) ∧ (b : Int) < x.l + x.b
      · rw [if_pos hb, decide_eq_true (by omega)]; rfl
      · rw [if_neg hb, decide_eq_false (by omega)]; rfl
    rw [e1, count_le_split (fun b : Nat => decide (((x.l.toNat : Nat) : Int) ≤ (b : Int) ∧ (b : Int) < ((x.l.toNat : Nat) : Int) + ((x.b.toNat : Nat) : Int))) (fun b : Nat => (whereX t (b : Int)).isSome) m (fun i _ hp hq => by
      have hp := of_decide_eq_true hp
      have hn := h3.none_below (i : Int) (by omega)
      simp only [hn] at hq
      cases hq), count_exact x.l.toNat x.b.toNat m (by omega)]
    show _ = x.b + Ext.sumB t
    rw [← ih]
    omega
theorem used_is {L : List ByteArray} {t : Tb} (h : goodB t.ex = true) : ((unOf L t).used : Int) = Ext.sumB t.ex := by
  rw [← used_count 4096 (Ext.good_asc h) (Int.le_refl _) (by omega)]
  unfold Un.used unOf valE
  have e : (fun b : Nat => ((whereX t.ex (b : Int)).map fun a => L.getD a.toNat ⟨#[]⟩).isSome) = fun b : Nat => (whereX t.ex (b : Int)).isSome := by
    funext b
    cases whereX t.ex (b : Int) <;> rfl
  show (((List.range 4096).countP (fun b : Nat => ((whereX t.ex (b : Int)).map fun a => L.getD a.toNat ⟨#[]⟩).isSome) : Nat) : Int) = _
  rw [e]
theorem used_us {w0 w : World} {s p q n : Nat} {V Vp : List Un} {m : Nat} (h : Us w0 w s p q n V Vp m) {lun : Nat} {u : Un} (hu : V[lun]? = some u) :
    Calls Tryz.prog 23 #[.pointer (some ⟨s, 0, none⟩), .int .i64 (lun : Int)] w fun e w' => e = .returned (.int .i64 (u.used : Int)) ∧ Us w0 w' s p q n V Vp m := by
  obtain ⟨S, x, j, st, hh, hs, hi, h1, h2, h3⟩ := h.has
  obtain ⟨t, ht, rfl⟩ := hi.un hu
  have htk := hi.tells.oks t (List.mem_of_getElem? ht)
  refine (used_ok w hh lun t ht htk).mono ?_
  rintro e w' ⟨rfl, ho⟩
  refine ⟨?_, Us.of h.below hs ho hi h1 h2 h3⟩
  rw [used_is htk.good]
  show Ending.returned (.int .i64 (Ext.usedX t.ex)) = _
  unfold Ext.usedX
  rw [if_pos htk.good]
theorem units_us {w0 w : World} {s p q n : Nat} {V Vp : List Un} {m : Nat} (h : Us w0 w s p q n V Vp m) :
    Calls Tryz.prog 28 #[.pointer (some ⟨s, 0, none⟩)] w fun e w' => ∃ g, e = .returned (.slice (some ⟨g, 0, none⟩) V.length V.length) ∧ Uns w' (some ⟨g, 0, none⟩) (V.map fun u => (u.n, u.id)) ∧ Us w0 w' s p q n V Vp m ∧ w.heap.size ≤ g := by
  obtain ⟨S, x, j, st, hh, hs, hi, h1, h2, h3⟩ := h.has
  refine (units_any w hh hi.tells.few (fun t ht => by have := (hi.tells.oks t ht).id; omega)).mono ?_
  rintro e w' ⟨g, rfl, hu, ho, hg⟩
  have e1 : V.length = st.l.length := by rw [hi.view, List.length_map]
  have e2 : (V.map fun u => (u.n, u.id)) = st.l.map fun t => (t.n, t.id) := by rw [hi.view, List.map_map]; rfl
  rw [e1, e2]
  exact ⟨g, rfl, hu, Us.of h.below hs ho hi h1 h2 h3, hg⟩
theorem open_us {w0 w : World} {p n : Nat} {V Vp : List Un} {m : Nat} (h : Dn w0 w p n V Vp m) (hm : m ≤ 500) (ht : Tab w0) :
    Calls Tryz.prog 21 #[.pointer (some ⟨p, 0, none⟩)] w fun e w' => ∃ s q V', e = .returned (.tuple #[.pointer (some ⟨s, 0, none⟩), .int .i64 0]) ∧ (V' = V ∨ V' = Vp) ∧ Us w0 w' s p q n V' V' (m + 1) := by
  obtain ⟨F, x, a, la, hv, hF, hk, htl, hV, hd, ha, h1, h2⟩ := h.has
  obtain ⟨f1, f2, f3⟩ := free_flsh ha hd
  obtain ⟨k1, k2, _⟩ := flsh_yes f1
  have hf := flsh_ops x
  have hb : 576 ≤ n := by
    have h2 := htl.need
    have h3 := (sumN_small (l := la) (fun t ht => ⟨(htl.oks t ht).n1, (htl.oks t ht).n2⟩)).1
    unfold needT at h2
    omega
  refine (sopen_ok w hv (ht.below h.below) (lo_far ht hF) hd hk htl (by omega) f1 hb).mono ?_
  rintro e w' ⟨s, q, S, rfl, hsd, ho, hg⟩
  have hinv := inv_first htl k2 (by rw [k1]; exact hk) f3 f2
  rw [flsh_seen] at hinv
  exact ⟨s, q, la.map (unOf x.seen), rfl, hV, ⟨S, x.flsh.1, a, firstS la, .inl hsd, grew_lo hg hF h.below.size, hinv, by omega, by omega, Nat.zero_le _⟩, below_go h.below ho hF⟩
end Go.Proofs.YtglfjlbhjaemgaaGreatDoor
