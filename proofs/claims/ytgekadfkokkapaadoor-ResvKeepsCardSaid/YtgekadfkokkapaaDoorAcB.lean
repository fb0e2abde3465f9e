/- What a type lets whom do: the program's functions. -/
import Derived.Test.YtgekadfkokkapaaDoorAcA
namespace Go.Proofs.YtgekadfkokkapaaDoor
open Go.RowKit
def typeB (n : Int) : Bool := decide (0 < n ∧ n < 7)
def readsB (n : Int) : Bool := decide (n = 2)
def changesB (n : Int) : Bool := decide (n = 3 ∨ n = 5 ∨ n = 6 ∨ n = 7 ∨ n = 4)
def gH : Nat → Int
  | 0 => 0 | 1 => 1 | 2 => 1 | 3 => 1 | 4 => 1 | 5 => 2 | _ => 2
def gR : Nat → Int
  | 0 => 3 | 1 => 3 | 2 => 0 | 3 => 3 | 4 => 2 | 5 => 3 | _ => 2
def gC : Nat → Int
  | 0 => 3 | 1 => 0 | 2 => 0 | 3 => 2 | 4 => 2 | 5 => 2 | _ => 2
def kindN (n : Int) : Nat := if typeB n then n.toNat else 0
theorem kindN_lt (n : Int) : kindN n < 7 := by
  unfold kindN
  split
  · rename_i h
    have := of_decide_eq_true h
    omega
  · omega
/-- The table of what the types allow, in its variable. -/
structure RTab (w : World) : Prop where
  lt : 0 < w.heap.size
  h : ∀ i, i < 7 → w.cell? ⟨0, i * 3, none⟩ = some (.int .i64 (gH i))
  r : ∀ i, i < 7 → w.cell? ⟨0, i * 3 + 1, none⟩ = some (.int .i64 (gR i))
  c : ∀ i, i < 7 → w.cell? ⟨0, i * 3 + 2, none⟩ = some (.int .i64 (gC i))
theorem RTab.below {w w' : World} (h : RTab w) (hb : Below w.heap.size w w') : RTab w' :=
  ⟨Nat.lt_of_lt_of_le h.lt hb.size, fun i hi => (hb.cell (p := ⟨0, i * 3, none⟩) h.lt).trans (h.h i hi), fun i hi => (hb.cell (p := ⟨0, i * 3 + 1, none⟩) h.lt).trans (h.r i hi), fun i hi => (hb.cell (p := ⟨0, i * 3 + 2, none⟩) h.lt).trans (h.c i hi)⟩
theorem type_any (n : Int) (w : World) : Calls Tryd.prog 50 #[.int .i64 n] w fun e w' => e = .returned (.bool (typeB n)) ∧ w = w' := by
  have hf : typeB n = decide (0 < n ∧ n < 7) := rfl
  generalize typeB n = r at hf
  by_cases c1 : 0 < n
  · by_cases c2 : n < 7
    · obtain rfl : r = true := by rw [hf]; exact decide_eq_true ⟨c1, c2⟩
      clear hf
      go_enter Tryd.func50, Tryd.ntmps50
      go_wp2_with (fail)
      go_ret
      exact ⟨rfl, rfl⟩
    · obtain rfl : r = false := by rw [hf]; exact decide_eq_false (by omega)
      clear hf
      go_enter Tryd.func50, Tryd.ntmps50
      go_wp2_with (fail)
      go_ret
      exact ⟨rfl, rfl⟩
  · obtain rfl : r = false := by rw [hf]; exact decide_eq_false (by omega)
    clear hf
    go_enter Tryd.func50, Tryd.ntmps50
    go_wp2_with (fail)
    go_ret
    exact ⟨rfl, rfl⟩
theorem int_beq (a b : Int) : (a == b) = decide (a = b) := by
  by_cases h : a = b
  · rw [decide_eq_true h]; simpa using h
  · rw [decide_eq_false h]; simpa using h
theorem reads_any (n : Int) (w : World) : Calls Tryd.prog 65 #[.int .i64 n] w fun e w' => e = .returned (.bool (readsB n)) ∧ w = w' := by
  have hf : (n == 2) = readsB n := int_beq n 2
  generalize readsB n = r at hf
  go_enter Tryd.func65, Tryd.ntmps65
  go_wp2_with (fail)
  go_ret
  exact ⟨rfl, rfl⟩
theorem changes_any (n : Int) (w : World) : Calls Tryd.prog 66 #[.int .i64 n] w fun e w' => e = .returned (.bool (changesB n)) ∧ w = w' := by
  have hf : changesB n = decide (n = 3 ∨ n = 5 ∨ n = 6 ∨ n = 7 ∨ n = 4) := rfl
  generalize changesB n = r at hf
  cases e1 : (n == 3) with
  | true =>
    obtain rfl : r = true := by rw [hf]; exact decide_eq_true (by have := of_decide_eq_true ((int_beq n 3).symm.trans e1); omega)
    clear hf
    go_enter Tryd.func66, Tryd.ntmps66
    go_wp2_with (fail)
    go_ret
    exact ⟨rfl, rfl⟩
  | false =>
  cases e2 : (n == 5) with
  | true =>
    obtain rfl : r = true := by rw [hf]; exact decide_eq_true (by have := of_decide_eq_true ((int_beq n 5).symm.trans e2); omega)
    clear hf
    go_enter Tryd.func66, Tryd.ntmps66
    go_wp2_with (fail)
    go_ret
    exact ⟨rfl, rfl⟩
  | false =>
  cases e3 : (n == 6) with
  | true =>
    obtain rfl : r = true := by rw [hf]; exact decide_eq_true (by have := of_decide_eq_true ((int_beq n 6).symm.trans e3); omega)
    clear hf
    go_enter Tryd.func66, Tryd.ntmps66
    go_wp2_with (fail)
    go_ret
    exact ⟨rfl, rfl⟩
  | false =>
  cases e4 : (n == 7) with
  | true =>
    obtain rfl : r = true := by rw [hf]; exact decide_eq_true (by have := of_decide_eq_true ((int_beq n 7).symm.trans e4); omega)
    clear hf
    go_enter Tryd.func66, Tryd.ntmps66
    go_wp2_with (fail)
    go_ret
    exact ⟨rfl, rfl⟩
  | false =>
  cases e5 : (n == 4) with
  | true =>
    obtain rfl : r = true := by rw [hf]; exact decide_eq_true (by have := of_decide_eq_true ((int_beq n 4).symm.trans e5); omega)
    clear hf
    go_enter Tryd.func66, Tryd.ntmps66
    go_wp2_with (fail)
    go_ret
    exact ⟨rfl, rfl⟩
  | false =>
    obtain rfl : r = false := by
      rw [hf]
      have a1 := of_decide_eq_false ((int_beq n 3).symm.trans e1)
      have a2 := of_decide_eq_false ((int_beq n 5).symm.trans e2)
      have a3 := of_decide_eq_false ((int_beq n 6).symm.trans e3)
      have a4 := of_decide_eq_false ((int_beq n 7).symm.trans e4)
      have a5 := of_decide_eq_false ((int_beq n 4).symm.trans e5)
      exact decide_eq_false (by omega)
    clear hf
    go_enter Tryd.func66, Tryd.ntmps66
    go_wp2_with (fail)
    go_ret
    exact ⟨rfl, rfl⟩
abbrev ruV (k : Nat) : Value := .agg #[.int .i64 (gH k), .int .i64 (gR k), .int .i64 (gC k)]
set_option maxHeartbeats 1000000 in
theorem rule_yes (k : Nat) (w : World) (h1 : 1 ≤ k) (h7 : k < 7) (ht : RTab w) : Calls Tryd.prog 46 #[.int .i64 (k : Int)] w fun e w' => e = .returned (ruV k) ∧ Below w.heap.size w w' := by
  have h0 := ht.lt
  have c0 := ht.h k h7
  have c1 := ht.r k h7
  have c2 := ht.c k h7
  have HY := Lib.hid (show typeB (k : Int) = true from decide_eq_true (by omega))
  clear ht
  have hnt : ∀ w : World, (Op.unary UnOp.not (.bool true)).run Tryd.prog w = .ok (.bool false) w := fun _ => rfl
  go_enter Tryd.func46, Tryd.ntmps46
  go_wp2_with (fail)
  refine (type_any k _).mono ?_; rintro e w1 ⟨rfl, rfl⟩
  rw [HY.out]
  go_wp2_with (fail)
  exact bodyPost_ret (v := ruV k) (by simp [results, Tryd.results46, go_sem]) rfl ⟨rfl, ((Below.refl _ _).alloc (Nat.le_refl _) _)⟩
theorem not_true (v : World) : Sem.run Tryd.prog (Op.unary UnOp.not (.bool true)) v = .ok (.bool false) v := rfl
theorem not_false (v : World) : Sem.run Tryd.prog (Op.unary UnOp.not (.bool false)) v = .ok (.bool true) v := rfl
set_option maxHeartbeats 1000000 in
theorem rule_no (n : Int) (w : World) (hn : typeB n = false) (ht : RTab w) : Calls Tryd.prog 46 #[.int .i64 n] w fun e w' => e = .returned (ruV 0) ∧ Below w.heap.size w w' := by
  have h0 := ht.lt
  have c0 := ht.h 0 (by omega)
  have c1 := ht.r 0 (by omega)
  have c2 := ht.c 0 (by omega)
  have HY := Lib.hid hn
  clear ht hn
  have hnt := not_false
  go_enter Tryd.func46, Tryd.ntmps46
  go_wp2_with (fail)
  refine (type_any n _).mono ?_; rintro e w1 ⟨rfl, rfl⟩
  rw [HY.out]
  go_wp2_with (fail)
  exact bodyPost_ret (v := ruV 0) (by simp [results, Tryd.results46, go_sem]) rfl ⟨rfl, ((Below.refl _ _).alloc (Nat.le_refl _) _)⟩
theorem rule_any (n : Int) (w : World) (ht : RTab w) : Calls Tryd.prog 46 #[.int .i64 n] w fun e w' => e = .returned (ruV (kindN n)) ∧ Below w.heap.size w w' := by
  cases h : typeB n with
  | true =>
    have h1 := of_decide_eq_true h
    have hk : kindN n = n.toNat := by unfold kindN; rw [if_pos h]
    have := rule_yes n.toNat w (by omega) (by omega) ht
    rw [show ((n.toNat : Nat) : Int) = n by omega] at this
    rw [hk]
    exact this
  | false =>
    have hk : kindN n = 0 := by unfold kindN; rw [if_neg (by rw [h]; decide)]
    rw [hk]
    exact rule_no n w h ht
/-- Who else may, of a type. -/
def othV (k : Nat) (op : Int) : Int := if readsB op then gR k else if changesB op then gC k else 3
set_option maxHeartbeats 1000000 in
theorem others_any (k : Nat) (op : Int) (w : World) : Calls Tryd.prog 48 #[ruV k, .int .i64 op] w fun e w' => e = .returned (.int .i64 (othV k op)) ∧ Below w.heap.size w w' := by
  have hf : othV k op = if readsB op then gR k else if changesB op then gC k else 3 := rfl
  have HR := Lib.hid (fun v => reads_any op v)
  have HC := Lib.hid (fun v => changes_any op v)
  generalize othV k op = r at hf
  cases hr : readsB op with
  | true =>
    rw [hr] at HR hf
    obtain rfl : r = gR k := hf
    clear hr
    go_enter Tryd.func48, Tryd.ntmps48
    go_wp2_with (fail)
    refine (HR.out _).mono ?_; rintro e w1 ⟨rfl, rfl⟩
    go_wp2_with (fail)
    go_ret
    exact ⟨rfl, (Below.refl _ _).alloc (Nat.le_refl _) _⟩
  | false =>
    rw [hr] at HR hf
    cases hc : changesB op with
    | true =>
      rw [hc] at HC hf
      obtain rfl : r = gC k := hf
      clear hr hc
      go_enter Tryd.func48, Tryd.ntmps48
      go_wp2_with (fail)
      refine (HR.out _).mono ?_; rintro e w1 ⟨rfl, rfl⟩
      go_wp2_with (fail)
      refine (HC.out _).mono ?_; rintro e w1 ⟨rfl, rfl⟩
      go_wp2_with (fail)
      go_ret
      exact ⟨rfl, (Below.refl _ _).alloc (Nat.le_refl _) _⟩
    | false =>
      rw [hc] at HC hf
      obtain rfl : r = 3 := hf
      clear hr hc
      go_enter Tryd.func48, Tryd.ntmps48
      go_wp2_with (fail)
      refine (HR.out _).mono ?_; rintro e w1 ⟨rfl, rfl⟩
      go_wp2_with (fail)
      refine (HC.out _).mono ?_; rintro e w1 ⟨rfl, rfl⟩
      go_wp2_with (fail)
      go_ret
      exact ⟨rfl, (Below.refl _ _).alloc (Nat.le_refl _) _⟩
/-- Is a host of a group? -/
def hasB (g : Int) (t : Tl) (h : ByteArray) : Bool := if g = 1 then eqS h t.ho else if g = 2 then regB t.rs h else decide (g = 3)
theorem i1 : ∀ a : Int, (a == 1) = decide (a = 1) := fun a => int_beq a 1
set_option maxHeartbeats 1000000 in
theorem has_one (A : Option Addr) (c : Nat) (t : Tl) (h : ByteArray) (w : World) : Calls Tryd.prog 47 #[.int .i64 1, tlV A c t, .string h] w fun e w' => e = .returned (.bool (hasB 1 t h)) ∧ Below w.heap.size w w' := by
  have hf : (h.toList == t.ho.toList) = hasB 1 t h := rfl
  generalize hasB 1 t h = r at hf
  go_enter Tryd.func47, Tryd.ntmps47
  go_wp2_with (fail)
  go_ret
  exact ⟨rfl, (Below.refl _ _).alloc (Nat.le_refl _) _⟩
set_option maxHeartbeats 1000000 in
theorem has_two (A : Option Addr) (c : Nat) (t : Tl) (h : ByteArray) (w : World) (hl : Rgs w A t.rs) (hm : t.rs.length ≤ maxLen) : Calls Tryd.prog 47 #[.int .i64 2, tlV A c t, .string h] w fun e w' => e = .returned (.bool (hasB 2 t h)) ∧ Below w.heap.size w w' := by
  have hf : regB t.rs h = hasB 2 t h := rfl
  have HI := Lib.hid (fun v (hv : Rgs v A t.rs) => isReg_any A c t h v hv hm)
  have HL := Lib.hid hl
  rw [hf] at HI
  clear hl hm hf
  obtain ⟨h1, h2, h3⟩ := tl_box w A c t _ rfl
  have HT := Lib.hid h1; have HB := Lib.hid h2
  clear h1 h2 h3
  go_enter Tryd.func47, Tryd.ntmps47
  go_upto_region 1 with (fail)
  change Code.wp _ _ _ _ (w.alloc (.cells (tlC A c t) 27))
  generalize w.alloc (.cells (tlC A c t) 27) = w0 at *
  have c0 : w0.cell? ⟨w.heap.size, 0, none⟩ = some (.slice A t.rs.length c) := HT.out.cell 0
  have c1 : w0.cell? ⟨w.heap.size, 1, none⟩ = some (.int .i64 t.ty) := HT.out.cell 1
  have c2 : w0.cell? ⟨w.heap.size, 2, none⟩ = some (.string t.ho) := HT.out.cell 2
  have c3 : w0.cell? ⟨w.heap.size, 3, none⟩ = some (.int .u32 t.ge) := HT.out.cell 3
  have c4 : w0.cell? ⟨w.heap.size, 4, none⟩ = some (.bool t.ap) := HT.out.cell 4
  go_wp2_with (fail)
  refine (HI.out _ (HL.out.below HB.out)).mono ?_; rintro e w1 ⟨rfl, hb1⟩
  go_wp2_with (fail)
  go_ret
  exact ⟨rfl, HB.out.trans (hb1.mono HB.out.size)⟩
set_option maxHeartbeats 1000000 in
theorem has_zero (A : Option Addr) (c : Nat) (t : Tl) (h : ByteArray) (w : World) : Calls Tryd.prog 47 #[.int .i64 0, tlV A c t, .string h] w fun e w' => e = .returned (.bool (hasB 0 t h)) ∧ Below w.heap.size w w' := by
  have hf : hasB 0 t h = false := rfl
  rw [hf]
  clear hf
  go_enter Tryd.func47, Tryd.ntmps47
  go_wp2_with (fail)
  go_ret
  exact ⟨rfl, (Below.refl _ _).alloc (Nat.le_refl _) _⟩
set_option maxHeartbeats 1000000 in
theorem has_three (A : Option Addr) (c : Nat) (t : Tl) (h : ByteArray) (w : World) : Calls Tryd.prog 47 #[.int .i64 3, tlV A c t, .string h] w fun e w' => e = .returned (.bool (hasB 3 t h)) ∧ Below w.heap.size w w' := by
  have hf : hasB 3 t h = true := rfl
  rw [hf]
  clear hf
  go_enter Tryd.func47, Tryd.ntmps47
  go_wp2_with (fail)
  go_ret
  exact ⟨rfl, (Below.refl _ _).alloc (Nat.le_refl _) _⟩
theorem has_any (g : Int) (A : Option Addr) (c : Nat) (t : Tl) (h : ByteArray) (w : World) (hl : Rgs w A t.rs) (hm : t.rs.length ≤ maxLen) (h0 : 0 ≤ g) (h3 : g ≤ 3) : Calls Tryd.prog 47 #[.int .i64 g, tlV A c t, .string h] w fun e w' => e = .returned (.bool (hasB g t h)) ∧ Below w.heap.size w w' := by
  rcases (show g = 0 ∨ g = 1 ∨ g = 2 ∨ g = 3 by omega) with rfl | rfl | rfl | rfl
  · exact has_zero A c t h w
  · exact has_one A c t h w
  · exact has_two A c t h w hl hm
  · exact has_three A c t h w
end Go.Proofs.YtgekadfkokkapaaDoor
