/- Two things in memory, each with blocks of its own; calls on the one leave the other as it is. -/
import Derived.Test.YtgdaihembmcamaaGreatDoorDevKeep
namespace Go.Proofs.YtgdaihembmcamaaGreatDoor
open Go.RowKit
abbrev Thing := World → (Nat → Prop) → Prop
structure Framed (A : Thing) : Prop where
  keep : ∀ w w' F S, A w F → Only S w w' → (∀ k, F k → ¬ S k) → A w' F
  lt : ∀ w F, A w F → ∀ k, F k → k < w.heap.size
def NoA : Thing := fun _ F => ∀ k, ¬ F k
def DvA (p n : Nat) (x : St) : Thing := fun w F => Dv w F p n x
theorem framed_no : Framed NoA := ⟨fun _ _ _ _ h _ _ => h, fun _ _ h k hk => absurd hk (h k)⟩
theorem framed_dv (p n : Nat) (x : St) : Framed (DvA p n x) := ⟨fun _ _ _ _ h ho hd => Dv.keep h ho hd, fun _ _ h => Dv.lt h⟩
structure DuoAt (B : Nat) (w0 : World) (A1 A2 : Thing) (w : World) (F G : Nat → Prop) : Prop where
  one : A1 w F
  two : A2 w G
  apart : ∀ k, F k → ¬ G k
  lo1 : ∀ k, F k → B ≤ k
  lo2 : ∀ k, G k → B ≤ k
  below : Below B w0 w
def Duo (B : Nat) (w0 : World) (A1 A2 : Thing) (w : World) : Prop := ∃ F G, DuoAt B w0 A1 A2 w F G
theorem Duo.swap {B : Nat} {w0 w : World} {A1 A2 : Thing} (h : Duo B w0 A1 A2 w) : Duo B w0 A2 A1 w := by
  obtain ⟨F, G, h⟩ := h
  exact ⟨G, F, h.two, h.one, fun k hg hf => h.apart k hf hg, h.lo2, h.lo1, h.below⟩
theorem Duo.start (w : World) : Duo w.heap.size w NoA NoA w :=
  ⟨fun _ => False, fun _ => False, fun _ h => h, fun _ h => h, fun _ h => h.elim, fun _ h => h.elim, fun _ h => h.elim, Below.refl _ _⟩
/-- What a call on the first thing leaves. -/
def Out (A : Thing) (F : Nat → Prop) (w w' : World) : Prop := ∃ F', A w' F' ∧ Only F w w' ∧ Grew F w F'
theorem Duo.step {B : Nat} {w0 w w' : World} {A1 A1' A2 : Thing} (hB : B ≤ w0.heap.size) (h2 : Framed A2) {F G : Nat → Prop} (h : DuoAt B w0 A1 A2 w F G) (ho : Out A1' F w w') : Duo B w0 A1' A2 w' := by
  obtain ⟨F', h1, ho, hg⟩ := ho
  have hw := h.below.size
  have hn : ∀ k, F' k → F k ∨ w.heap.size ≤ k := hg
  refine ⟨F', G, h1, h2.keep w w' G F h.two ho (fun k hk hf => h.apart k hf hk), fun k hk hgk => ?_, fun k hk => ?_, h.lo2, h.below.trans (ho.toBelow (by omega) h.lo1)⟩
  · rcases hn k hk with hf | hl
    · exact h.apart k hf hgk
    · have := h2.lt w G h.two k hgk
      omega
  · rcases hn k hk with hf | hl
    · exact h.lo1 k hf
    · omega
theorem Duo.more {B : Nat} {w0 w w' : World} {A1 A2 : Thing} (hB : B ≤ w0.heap.size) (h1 : Framed A1) (h2 : Framed A2) (h : Duo B w0 A1 A2 w) (hb : Below w.heap.size w w') : Duo B w0 A1 A2 w' := by
  obtain ⟨F, G, h⟩ := h
  have ho : Only nobody w w' := Only.of_below hb
  exact ⟨F, G, h1.keep _ _ _ _ h.one ho (fun _ _ h => h), h2.keep _ _ _ _ h.two ho (fun _ _ h => h), h.apart, h.lo1, h.lo2, h.below.trans (hb.mono (by have := h.below.size; omega))⟩
theorem Duo.drew {B : Nat} {w0 w : World} {A1 A2 : Thing} (hB : B ≤ w0.heap.size) (h1 : Framed A1) (h2 : Framed A2) (h : Duo B w0 A1 A2 w) : Duo B w0 A1 A2 w.drew := h.more hB h1 h2 (Below.refl _ _).drew
theorem Duo.alloc {B : Nat} {w0 w : World} {A1 A2 : Thing} (hB : B ≤ w0.heap.size) (h1 : Framed A1) (h2 : Framed A2) (h : Duo B w0 A1 A2 w) (o : Obj) : Duo B w0 A1 A2 (w.alloc o) := h.more hB h1 h2 ((Below.refl _ _).alloc (Nat.le_refl _) o)
/-- A call on the first thing, told of the first thing alone. -/
theorem Duo.call {P : Program} {f : FuncId} {args : Array Value} {Q : Ending → Prop} {B : Nat} {w0 w : World} {A1 A1' A2 : Thing} (hB : B ≤ w0.heap.size) (h2 : Framed A2) (h : Duo B w0 A1 A2 w)
    (hc : ∀ F, A1 w F → (∀ k, F k → B ≤ k) → Calls P f args w fun e w' => Q e ∧ Out A1' F w w') : Calls P f args w fun e w' => Q e ∧ Duo B w0 A1' A2 w' := by
  obtain ⟨F, G, h⟩ := h
  exact (hc F h.one h.lo1).mono fun e w' hq => ⟨hq.1, Duo.step hB h2 h hq.2⟩
/-- A call that reads the first thing and makes memory. -/
theorem Duo.read {P : Program} {f : FuncId} {args : Array Value} {Q : Ending → Prop} {B : Nat} {w0 w : World} {A1 A2 : Thing} (hB : B ≤ w0.heap.size) (h1 : Framed A1) (h2 : Framed A2) (h : Duo B w0 A1 A2 w)
    (hc : ∀ F, A1 w F → Calls P f args w fun e w' => Q e ∧ Below w.heap.size w w') : Calls P f args w fun e w' => Q e ∧ Duo B w0 A1 A2 w' := by
  obtain ⟨F, G, h'⟩ := h
  exact (hc F h'.one).mono fun e w' hq => ⟨hq.1, Duo.more hB h1 h2 ⟨F, G, h'⟩ hq.2⟩
/-- A call that only looks at the first thing. -/
theorem Duo.look {P : Program} {f : FuncId} {args : Array Value} {Q : Ending → Prop} {B : Nat} {w0 w : World} {A1 A2 : Thing} (h : Duo B w0 A1 A2 w)
    (hc : ∀ F, A1 w F → Calls P f args w fun e w' => Q e ∧ w = w') : Calls P f args w fun e w' => Q e ∧ w = w' := by
  obtain ⟨F, G, h⟩ := h
  exact hc F h.one
section
variable {B : Nat} {w0 w : World} {A2 : Thing} {p n : Nat} {x : St}
theorem d_new (hB : B ≤ w0.heap.size) (h2 : Framed A2) (h : Duo B w0 NoA A2 w) (m : Nat) (hm1 : 1 ≤ m) (hm2 : m ≤ 8192) :
    Calls Tryz.prog 10 #[.int .i64 (m : Int)] w fun e w' => ∃ q, e = .returned (.tuple #[.pointer (some ⟨q, 0, none⟩), .int .i64 0]) ∧ Duo B w0 (DvA q m (St.new m)) A2 w' := by
  obtain ⟨F, G, h⟩ := h
  refine (new_ok w m hm1 hm2).mono ?_
  rintro e w' ⟨q, F', rfl, hd, hb, hl⟩
  exact ⟨q, rfl, Duo.step hB h2 h ⟨F', hd, Only.of_below hb, fun k hk => .inr (hl k hk)⟩⟩
theorem d_write (hB : B ≤ w0.heap.size) (h2 : Framed A2) (h : Duo B w0 (DvA p n x) A2 w) (i m : Nat) (s : ByteArray) (hs : s.size = m * 512) (hw : x.why n i (m : Int) = 0) (hk : x.ops ≤ 1000000000000) :
    Calls Tryz.prog 12 #[.pointer (some ⟨p, 0, none⟩), .int .i64 (i : Int), .string s] w fun e w' => e = .returned (.int .i64 (wrCode (x.wr i s 0 m).2)) ∧ Duo B w0 (DvA p n (x.wr i s 0 m).1) A2 w' :=
  h.call hB h2 fun _ hd _ => write_ok w hd i m s hs hw hk
theorem d_read (hB : B ≤ w0.heap.size) (h2 : Framed A2) (h : Duo B w0 (DvA p n x) A2 w) (i k : Nat) (hw : x.why n i (k : Int) = 0) :
    Calls Tryz.prog 33 #[.pointer (some ⟨p, 0, none⟩), .int .i64 (i : Int), .int .i64 (k : Int)] w fun e w' => e = .returned (.tuple #[.string (catS (part x.seen i k)), .int .i64 0]) ∧ Duo B w0 (DvA p n x) A2 w' :=
  h.read hB (framed_dv p n x) h2 fun _ hd => read_ok w hd i k hw
theorem d_ops (h : Duo B w0 (DvA p n x) A2 w) : Calls Tryz.prog 16 #[.pointer (some ⟨p, 0, none⟩)] w fun e w' => e = .returned (.int .i64 (x.ops : Int)) ∧ w = w' := h.look fun _ hd => ops_any w hd
theorem d_down (h : Duo B w0 (DvA p n x) A2 w) : Calls Tryz.prog 22 #[.pointer (some ⟨p, 0, none⟩)] w fun e w' => e = .returned (.bool x.down) ∧ w = w' := h.look fun _ hd => down_any w hd
theorem d_size (h : Duo B w0 (DvA p n x) A2 w) : Calls Tryz.prog 63 #[.pointer (some ⟨p, 0, none⟩)] w fun e w' => e = .returned (.int .i64 (n : Int)) ∧ w = w' := h.look fun _ hd => size_any w hd
theorem d_arm (hB : B ≤ w0.heap.size) (h2 : Framed A2) (h : Duo B w0 (DvA p n x) A2 w) (k : Int) (hk : k ≤ 9223372036854775807) :
    Calls Tryz.prog 30 #[.pointer (some ⟨p, 0, none⟩), .int .i64 k] w fun e w' => e = .returned (.tuple #[]) ∧ Duo B w0 (DvA p n (x.arm k)) A2 w' :=
  h.call hB h2 fun _ hd _ => (arm_any w hd k hk).mono fun _ _ hq => ⟨hq.1, DvOut.of hq.2⟩
theorem d_flush (hB : B ≤ w0.heap.size) (h2 : Framed A2) (h : Duo B w0 (DvA p n x) A2 w) (hk : x.ops ≤ 1000000000000) :
    Calls Tryz.prog 13 #[.pointer (some ⟨p, 0, none⟩)] w fun e w' => e = .returned (.int .i64 x.flush.2) ∧ Duo B w0 (DvA p n x.flush.1) A2 w' :=
  h.call hB h2 fun _ hd _ => by
    cases h1 : x.down with
    | true => exact flush_down w hd h1
    | false => cases h2 : x.due with
      | true => exact flush_due w hd h1 h2
      | false => exact flush_ok w hd h1 h2 hk
theorem d_crash (hB : B ≤ w0.heap.size) (h2 : Framed A2) (h : Duo B w0 (DvA p n x) A2 w) {w1 : World} (hb : Below w.heap.size w w1) (hk : x.ops ≤ 1000000000000) (A : Option Addr) (c : Nat) (ks : List Int) (hks : Nums w1 A ks) (hoff : 0 < ks.length → ∀ a, A = some a → a.block < B ∨ w.heap.size ≤ a.block) (hlen : ks.length ≤ maxLen) :
    Calls Tryz.prog 23 #[.pointer (some ⟨p, 0, none⟩), .slice A ks.length c] w1 fun e w' => e = .returned (.tuple #[]) ∧ Duo B w0 (DvA p n (x.crash ks)) A2 w' := by
  obtain ⟨F, G, h⟩ := h
  have hlt := (framed_dv p n x).lt w F h.one
  have h' : DuoAt B w0 (DvA p n x) A2 w1 F G := ⟨Dv.keep h.one (Only.of_below (S := nobody) hb) (fun _ _ h => h), h2.keep _ _ _ _ h.two (Only.of_below (S := nobody) hb) (fun _ _ h => h), h.apart, h.lo1, h.lo2, h.below.trans (hb.mono (by have := h.below.size; omega))⟩
  refine (crash_any w1 h'.one hk A c ks hks (fun hn a ha hf => ?_) hlen).mono fun e w' hq => ⟨hq.1, Duo.step hB h2 h' hq.2⟩
  have := h.lo1 _ hf
  have := hlt _ hf
  have := hoff hn a ha
  omega
end
theorem catS_one (s : ByteArray) : catS [s] = s := by
  unfold catS flatB
  simp
theorem sec_whole {s : ByteArray} (h : s.size = 512) : sec s 0 = s := by
  unfold sec
  rw [show (0 + 1) * 512 = s.size by omega, Nat.zero_mul]
  exact ByteArray.extract_zero_size
theorem bytes_eq {a b : ByteArray} (h : a.data.toList = b.data.toList) : a = b := by
  obtain ⟨⟨a⟩⟩ := a
  obtain ⟨⟨b⟩⟩ := b
  simp only at h
  rw [h]
theorem ext_toList (a : ByteArray) (i j : Nat) : (a.extract i j).data.toList = (a.data.toList.take j).drop i := by
  rw [ByteArray.data_extract, Array.toList_extract, List.extract_eq_take_drop, List.drop_take]
theorem mix_noneD {s t : ByteArray} (h : t.size = 512) : mixS 0 s t = t := by
  unfold mixS
  refine bytes_eq ?_
  rw [ByteArray.data_append, Array.toList_append, ext_toList, ext_toList]
  have : t.data.toList.length = t.size := by simp
  rw [List.take_zero, List.drop_nil, List.nil_append, List.drop_zero, List.take_of_length_le (by omega)]
theorem nums_nil (w : World) : Nums w none [] := fun h => absurd h (Nat.not_lt_zero _)
end Go.Proofs.YtgdaihembmcamaaGreatDoor
