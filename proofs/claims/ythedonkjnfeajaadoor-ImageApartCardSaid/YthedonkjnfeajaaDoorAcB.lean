/- What a type lets whom do: the program's functions. -/
import Derived.Test.YthedonkjnfeajaaDoorAcA
namespace Go.Proofs.YthedonkjnfeajaaDoor
open Go.RowKit
def typeB (n : Int) : Bool := decide (0 < n ∧ n < 7)
def readsB (n : Int) : Bool := decide (n = 2)
def changesB (n : Int) : Bool := decide (n = 3 ∨ n = 5 ∨ n = 6 ∨ n = 7 ∨ n = 4)
def gH : Nat → Int
  | 0 => 0 | 1 => 1 | 2 => 1 | 3 => 1 | 4 => 1 | 5 => 2 | _ => 2
def gR : Nat → Int
  | 0 => 3 | 1 => 3 | 2 => 0 | 3 => 3 | 4 => 2 | 5 => 3 | _ => 2
def gC : Nat → Int
  | 0 => 3 | 1 => 0 | 2 => 0 | 3 => 2 | 4 => 2 | 5 => 2 | _ => 2
def kindN (n : Int) : Nat := if typeB n then n.toNat else 0
theorem kindN_lt (n : Int) : kindN n < 7 := by
  unfold kindN
  split
  · rename_i h
    have := of_decide_eq_true h
    omega
  · omega
theorem type_any (n : Int) (w : World) : Calls Tryd.prog 49 #[.int .i64 n] w fun e w' => e = .returned (.bool (typeB n)) ∧ w = w' := by
  have hf : typeB n = decide (0 < n ∧ n < 7) := rfl
  generalize typeB n = r at hf
  by_cases c1 : 0 < n
  · by_cases c2 : n < 7
    · obtain rfl : r = true := by rw [hf]; exact decide_eq_true ⟨c1, c2⟩
      clear hf
      go_enter Tryd.func49, Tryd.ntmps49
      go_wp2_with (fail)
      go_ret
      exact ⟨rfl, rfl⟩
    · obtain rfl : r = false := by rw [hf]; exact decide_eq_false (by omega)
      clear hf
      go_enter Tryd.func49, Tryd.ntmps49
      go_wp2_with (fail)
      go_ret
      exact ⟨rfl, rfl⟩
  · obtain rfl : r = false := by rw [hf]; exact decide_eq_false (by omega)
    clear hf
    go_enter Tryd.func49, Tryd.ntmps49
    go_wp2_with (fail)
    go_ret
    exact ⟨rfl, rfl⟩
theorem int_beq (a b : Int) : (a == b) = decide (a = b) := by
  by_cases h : a = b
  · rw [decide_eq_true h]; simpa using h
  · rw [decide_eq_false h]; simpa using h
abbrev ruV (k : Nat) : Value := .agg #[.int .i64 (gH k), .int .i64 (gR k), .int .i64 (gC k)]
theorem not_true (v : World) : Sem.run Tryd.prog (Op.unary UnOp.not (.bool true)) v = .ok (.bool false) v := rfl
theorem not_false (v : World) : Sem.run Tryd.prog (Op.unary UnOp.not (.bool false)) v = .ok (.bool true) v := rfl
/-- Who else may, of a type. -/
def othV (k : Nat) (op : Int) : Int := if readsB op then gR k else if changesB op then gC k else 3
/-- Is a host of a group? -/
def hasB (g : Int) (t : Tl) (h : ByteArray) : Bool := if g = 1 then eqS h t.ho else if g = 2 then regB t.rs h else decide (g = 3)
theorem i1 : ∀ a : Int, (a == 1) = decide (a = 1) := fun a => int_beq a 1
end Go.Proofs.YthedonkjnfeajaaDoor
