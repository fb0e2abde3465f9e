/- Both devices beside one another: each call, whatever it is given. -/
import Derived.Test.YtlcaokgdbocmiaaRefCrash
import Derived.Test.YtlcaokgdbocmiaaDevWhole
namespace Go.Proofs.Ytlcaokgdbocmiaa
open Go.RowKit
theorem write_yes {x : St} {n : Nat} {i : Int} {s : ByteArray} (ho : s.size % 512 = 0) (hw : x.why n i (s.size / 512 : Nat) = 0) : x.write n i s = ((x.wr i.toNat s 0 (s.size / 512)).1, wrCode (x.wr i.toNat s 0 (s.size / 512)).2) := by
  unfold St.write
  rw [if_neg (by omega), if_neg (by omega)]
  rfl
theorem write_all (w : World) {F : Nat → Prop} {p n : Nat} {x : St} (h : Dv w F p n x) (i : Int) (s : ByteArray) (hi : -9223372036854775808 ≤ i ∧ i ≤ 9223372036854775807) (hs : s.size ≤ 140737488355328) (hk : x.ops ≤ 1000000000000) :
    Calls Try.prog 14 #[.pointer (some ⟨p, 0, none⟩), .int .i64 i, .string s] w fun e w' => e = .returned (.int .i64 (x.write n i s).2) ∧ DvOut F w p n (x.write n i s).1 w' := by
  by_cases ho : s.size % 512 = 0
  · by_cases hw : x.why n i (s.size / 512 : Nat) = 0
    · have h0 := (why_zero hw).1
      obtain ⟨j, rfl⟩ : ∃ j : Nat, i = (j : Int) := ⟨i.toNat, by omega⟩
      rw [write_yes ho hw, Int.toNat_natCast]
      exact write_ok w h j (s.size / 512) s (by omega) hw hk
    · exact write_why w h i s hi hs ho hw
  · exact write_odd w h i s hs ho
theorem rwrite_all (w : World) {F : Nat → Prop} {p n : Nat} {x : St} (h : Rf w F p n x) (i : Int) (s : ByteArray) (hs : s.size ≤ 140737488355328) (hk : x.ops ≤ 1000000000000) :
    Calls Try.prog 15 #[.pointer (some ⟨p, 0, none⟩), .int .i64 i, .string s] w fun e w' => e = .returned (.int .i64 (x.write n i s).2) ∧ RfOut F w p n (x.write n i s).1 w' := by
  by_cases ho : s.size % 512 = 0
  · by_cases hout : i < 0 ∨ ((s.size / 512 : Nat) : Int) < 0 ∨ (n : Int) - i < ((s.size / 512 : Nat) : Int)
    · exact rwrite_out w h i s hs ho hout
    · cases hd : x.down with
      | true => exact rwrite_down w h i s hs ho hout hd
      | false =>
        have hw := why_ok (x := x) hout hd
        obtain ⟨j, rfl⟩ : ∃ j : Nat, i = (j : Int) := ⟨i.toNat, by omega⟩
        rw [write_yes ho hw, Int.toNat_natCast]
        exact rwrite_ok w h j (s.size / 512) s (by omega) hw hk
  · exact rwrite_odd w h i s hs ho
def St.read (x : St) (n : Nat) (i k : Int) : ByteArray := if x.why n i k ≠ 0 then ⟨#[]⟩ else catS (part x.seen i.toNat k.toNat)
theorem read_all (w : World) {F : Nat → Prop} {p n : Nat} {x : St} (h : Dv w F p n x) (i k : Int) (hi : -9223372036854775808 ≤ i ∧ i ≤ 9223372036854775807) :
    Calls Try.prog 16 #[.pointer (some ⟨p, 0, none⟩), .int .i64 i, .int .i64 k] w fun e w' => e = .returned (.tuple #[.string (x.read n i k), .int .i64 (x.why n i k)]) ∧ Below w.heap.size w w' := by
  unfold St.read
  by_cases hw : x.why n i k = 0
  · rw [if_neg (by omega), hw]
    obtain ⟨h0, h1, _, _⟩ := why_zero hw
    obtain ⟨j, rfl⟩ : ∃ j : Nat, i = (j : Int) := ⟨i.toNat, by omega⟩
    obtain ⟨m, rfl⟩ : ∃ m : Nat, k = (m : Int) := ⟨k.toNat, by omega⟩
    exact read_ok w h j m hw
  · rw [if_pos hw]
    exact (read_why w h i k hi hw).mono fun e w' hq => ⟨hq.1, by rw [← hq.2]; exact Below.refl _ _⟩
theorem rread_all (w : World) {F : Nat → Prop} {p n : Nat} {x : St} (h : Rf w F p n x) (i k : Int) :
    Calls Try.prog 17 #[.pointer (some ⟨p, 0, none⟩), .int .i64 i, .int .i64 k] w fun e w' => e = .returned (.tuple #[.string (x.read n i k), .int .i64 (x.why n i k)]) ∧ Below w.heap.size w w' := by
  by_cases hout : i < 0 ∨ k < 0 ∨ (n : Int) - i < k
  · have hw := why_out (x := x) hout
    have e : x.read n i k = ⟨#[]⟩ := by unfold St.read; rw [if_pos (by omega)]
    rw [e]
    exact (rread_out w h i k hout).mono fun e w' hq => ⟨hq.1, by rw [← hq.2]; exact Below.refl _ _⟩
  · cases hd : x.down with
    | true =>
      have hw := why_down (x := x) hout hd
      have e : x.read n i k = ⟨#[]⟩ := by unfold St.read; rw [if_pos (by omega)]
      rw [e]
      exact (rread_down w h i k hout hd).mono fun e w' hq => ⟨hq.1, by rw [← hq.2]; exact Below.refl _ _⟩
    | false =>
      have hw := why_ok (x := x) hout hd
      have e : x.read n i k = catS (part x.seen i.toNat k.toNat) := by unfold St.read; rw [if_neg (by omega)]
      obtain ⟨j, rfl⟩ : ∃ j : Nat, i = (j : Int) := ⟨i.toNat, by omega⟩
      obtain ⟨m, rfl⟩ : ∃ m : Nat, k = (m : Int) := ⟨k.toNat, by omega⟩
      rw [e, hw]
      exact rread_ok w h j m hw
section
variable {B : Nat} {w0 w : World} {A2 : Thing} {p n : Nat} {x : St}
theorem p_write (hB : B ≤ w0.heap.size) (h2 : Framed A2) (h : Duo B w0 (DvA p n x) A2 w) (i : Int) (s : ByteArray) (hi : -9223372036854775808 ≤ i ∧ i ≤ 9223372036854775807) (hs : s.size ≤ 140737488355328) (hk : x.ops ≤ 1000000000000) :
    Calls Try.prog 14 #[.pointer (some ⟨p, 0, none⟩), .int .i64 i, .string s] w fun e w' => e = .returned (.int .i64 (x.write n i s).2) ∧ Duo B w0 (DvA p n (x.write n i s).1) A2 w' :=
  h.call hB h2 fun _ hd _ => write_all w hd i s hi hs hk
theorem r_write (hB : B ≤ w0.heap.size) (h2 : Framed A2) (h : Duo B w0 (RfA p n x) A2 w) (i : Int) (s : ByteArray) (hs : s.size ≤ 140737488355328) (hk : x.ops ≤ 1000000000000) :
    Calls Try.prog 15 #[.pointer (some ⟨p, 0, none⟩), .int .i64 i, .string s] w fun e w' => e = .returned (.int .i64 (x.write n i s).2) ∧ Duo B w0 (RfA p n (x.write n i s).1) A2 w' :=
  h.call hB h2 fun _ hd _ => rwrite_all w hd i s hs hk
theorem p_read (hB : B ≤ w0.heap.size) (h2 : Framed A2) (h : Duo B w0 (DvA p n x) A2 w) (i k : Int) (hi : -9223372036854775808 ≤ i ∧ i ≤ 9223372036854775807) :
    Calls Try.prog 16 #[.pointer (some ⟨p, 0, none⟩), .int .i64 i, .int .i64 k] w fun e w' => e = .returned (.tuple #[.string (x.read n i k), .int .i64 (x.why n i k)]) ∧ Duo B w0 (DvA p n x) A2 w' :=
  h.read hB (framed_dv p n x) h2 fun _ hd => read_all w hd i k hi
theorem r_read (hB : B ≤ w0.heap.size) (h2 : Framed A2) (h : Duo B w0 (RfA p n x) A2 w) (i k : Int) :
    Calls Try.prog 17 #[.pointer (some ⟨p, 0, none⟩), .int .i64 i, .int .i64 k] w fun e w' => e = .returned (.tuple #[.string (x.read n i k), .int .i64 (x.why n i k)]) ∧ Duo B w0 (RfA p n x) A2 w' :=
  h.read hB (framed_rf p n x) h2 fun _ hd => rread_all w hd i k
theorem r_ops (h : Duo B w0 (RfA p n x) A2 w) : Calls Try.prog 26 #[.pointer (some ⟨p, 0, none⟩)] w fun e w' => e = .returned (.int .i64 (x.ops : Int)) ∧ w = w' := h.look fun _ hd => rops_any w hd
theorem r_down (h : Duo B w0 (RfA p n x) A2 w) : Calls Try.prog 28 #[.pointer (some ⟨p, 0, none⟩)] w fun e w' => e = .returned (.bool x.down) ∧ w = w' := h.look fun _ hd => rdown_any w hd
theorem r_held (h : Duo B w0 (RfA p n x) A2 w) : Calls Try.prog 30 #[.pointer (some ⟨p, 0, none⟩)] w fun e w' => e = .returned (.int .i64 (x.held.length : Int)) ∧ w = w' := h.look fun _ hd => rheld_any w hd
theorem r_size (h : Duo B w0 (RfA p n x) A2 w) : Calls Try.prog 11 #[.pointer (some ⟨p, 0, none⟩)] w fun e w' => e = .returned (.int .i64 (n : Int)) ∧ w = w' := h.look fun _ hd => rsize_any w hd
theorem r_arm (hB : B ≤ w0.heap.size) (h2 : Framed A2) (h : Duo B w0 (RfA p n x) A2 w) (k : Int) (hk : k ≤ 9223372036854775807) :
    Calls Try.prog 21 #[.pointer (some ⟨p, 0, none⟩), .int .i64 k] w fun e w' => e = .returned (.tuple #[]) ∧ Duo B w0 (RfA p n (x.arm k)) A2 w' :=
  h.call hB h2 fun _ hd _ => (rarm_any w hd k hk).mono fun _ _ hq => ⟨hq.1, RfOut.of hq.2⟩
theorem r_flush (hB : B ≤ w0.heap.size) (h2 : Framed A2) (h : Duo B w0 (RfA p n x) A2 w) (hk : x.ops ≤ 1000000000000) :
    Calls Try.prog 19 #[.pointer (some ⟨p, 0, none⟩)] w fun e w' => e = .returned (.int .i64 x.flush.2) ∧ Duo B w0 (RfA p n x.flush.1) A2 w' :=
  h.call hB h2 fun _ hd _ => by
    cases h1 : x.down with
    | true => exact rflush_down w hd h1
    | false => cases h2 : x.due with
      | true => exact rflush_due w hd h1 h2
      | false => exact rflush_ok w hd h1 h2 hk
theorem r_crash (hB : B ≤ w0.heap.size) (h2 : Framed A2) (h : Duo B w0 (RfA p n x) A2 w) (hk : x.ops ≤ 1000000000000) (A : Option Addr) (c : Nat) (ks : List Int) (hks : Nums w A ks) (hoff : 0 < ks.length → ∀ a, A = some a → a.block < B) (hlen : ks.length ≤ maxLen) :
    Calls Try.prog 23 #[.pointer (some ⟨p, 0, none⟩), .slice A ks.length c] w fun e w' => e = .returned (.tuple #[]) ∧ Duo B w0 (RfA p n (x.crash ks)) A2 w' :=
  h.call hB h2 fun _ hd hl => rcrash_any w hd hk A c ks hks (fun hn a ha hf => by have := hl _ hf; have := hoff hn a ha; omega) hlen
end
/-- How the operations that are counted grow. -/
theorem wr_ops (i : Nat) (s : ByteArray) : ∀ (m k : Nat) (x : St), (x.wr i s k m).1.ops ≤ x.ops + m := by
  intro m
  induction m with
  | zero => intro k x; exact Nat.le_refl _
  | succ m ih =>
    intro k x
    cases hd : x.due with
    | true => rw [wr_due hd]; show x.ops ≤ _; omega
    | false =>
      rw [wr_go hd]
      refine Nat.le_trans (ih _ _) ?_
      show x.ops + 1 + m ≤ _
      omega
theorem write_ops (x : St) (n : Nat) (i : Int) (s : ByteArray) (hs : s.size ≤ 4096) : (x.write n i s).1.ops ≤ x.ops + 8 := by
  unfold St.write
  split
  · show x.ops ≤ _; omega
  · split
    · show x.ops ≤ _; omega
    · refine Nat.le_trans (wr_ops _ _ _ _ _) ?_
      omega
theorem flush_ops (x : St) : x.flush.1.ops ≤ x.ops + 8 := by
  unfold St.flush
  split
  · show x.ops ≤ _; omega
  · split
    · show x.ops ≤ _; omega
    · show x.ops + 1 ≤ _; omega
end Go.Proofs.Ytlcaokgdbocmiaa
