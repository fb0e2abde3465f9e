/- The code's pages: numbered, the standard page, the list of pages, the page of the Id, the page of limits; Page. -/
import Derived.Test.YtgncllhhajjnlaaInP
import Derived.Maps.AppendAt
import Derived.Laws.OwnMore
namespace Go.Proofs.Ytgncllhhajjnlaa
open Go.RowKit
theorem infoPt : (Try.prog.info? 50).map (fun i => (i.zero, i.size, i.bytes)) = some (some (.agg #[.int .i64 0, .string ⟨#[]⟩]), 2, 24) := by kernel_rfl
theorem own_belowP {w w' : World} {base : Nat} {e : TypeId} {size n : Nat} {v : Value} {xs : List Value} (h : w.ownsRow base e size v n xs) (hb : Below w.heap.size w w') : w'.ownsRow base e size v n xs :=
  own_keep h (fun g hg => hb.block g (h.lt g hg).2)
theorem cells_of (w : World) (cs : Array Value) (t : TypeId) {m : Nat} (hm : w.heap.size = m) : ∀ j u, cs.toList[j]? = some u → (w.alloc (.cells cs t)).cell? ((⟨m, 0, none⟩ : Addr).add j) = some u := by
  intro j u hj
  subst hm
  rw [Addr.add_mid, Nat.zero_add, (Blk.new w t cs).cell j]
  simpa using hj
theorem ok_nil {M : Nat} : ∀ p ∈ ([] : List Pt), p.a < M ∧ p.a + p.t.size ≤ M := fun p h => by cases h
theorem ok_cons {M a : Nat} {t : ByteArray} {l : List Pt} (h1 : a < M) (h2 : a + t.size ≤ M) (hl : ∀ p ∈ l, p.a < M ∧ p.a + p.t.size ≤ M) : ∀ p ∈ (⟨a, t⟩ : Pt) :: l, p.a < M ∧ p.a + p.t.size ≤ M := fun p h => by
  rcases List.mem_cons.1 h with rfl | h
  · exact ⟨h1, h2⟩
  · exact hl p h
set_option maxRecDepth 100000 in
set_option maxHeartbeats 4000000 in
theorem numbered_any (pg M n c g0 base : Nat) (l : List Pt) (w : World) (hpg : pg < 256) (h4 : 4 ≤ M) (hM : M ≤ 100000) (hln : l.length = n) (hn1 : 0 < n) (hn : n ≤ 1000) (hok : ∀ p ∈ l, p.a < M ∧ p.a + p.t.size ≤ M) (hbase : base ≤ w.heap.size)
    (hv : w.ownsRow base 50 2 (.slice (some ⟨g0, 0, none⟩) n c) n (pcs l)) :
    Calls Try.prog 36 #[.int .i64 (pg : Int), .int .i64 (M : Int), .slice (some ⟨g0, 0, none⟩) n c] w fun e w' => e = .returned (.string (cmS M (l ++ [⟨1, putHi pg ((1 : Nat) : Int)⟩, ⟨2, putHi (M - 4) ((2 : Nat) : Int)⟩]))) ∧ Below base w w' := by
  have s1 : (putHi pg ((1 : Nat) : Int)).size = 1 := putHi_size _ 1 (by decide) (by decide)
  have s2 : (putHi (M - 4) ((2 : Nat) : Int)).size = 2 := putHi_size _ 2 (by decide) (by decide)
  have HN1 : Hid (∀ v, Calls Try.prog 28 #[.int .i64 1, .int .i64 1, .int .i64 (pg : Int)] v fun e w' => e = .returned (.agg #[.int .i64 1, .string (putHi pg ((1 : Nat) : Int))]) ∧ Below v.heap.size v w') := Lib.hid (fun v => number_any 1 1 pg (by omega) v)
  have HN2 : Hid (∀ v, Calls Try.prog 28 #[.int .i64 2, .int .i64 2, .int .i64 ((M - 4 : Nat) : Int)] v fun e w' => e = .returned (.agg #[.int .i64 2, .string (putHi (M - 4) ((2 : Nat) : Int))]) ∧ Below v.heap.size v w') := Lib.hid (fun v => number_any 2 2 (M - 4) (by omega) v)
  have e1 : IntKind.i64.wrap ((M : Int) - 4) = ((M - 4 : Nat) : Int) := by rw [IntWalk.i64_in _ (by omega)]; omega
  have HC := Lib.hid (fun (m1 m2 : ByteArray) (h1 : m1.size = 1) (h2 : m2.size = 2) (g4 c4 : Nat) (v : World) (h : v.ownsRow base 50 2 (.slice (some ⟨g4, 0, none⟩) (n + 2) c4) (n + 2) (pcs (l ++ [⟨1, m1⟩, ⟨2, m2⟩]))) => compose_any M (n + 2) c4 g4 base (l ++ [⟨1, m1⟩, ⟨2, m2⟩]) v hM (by rw [List.length_append, hln]; rfl) (by omega) (by omega) (fun p hp => by
    rcases List.mem_append.1 hp with h | h
    · exact hok p h
    · exact ok_cons (by omega) (by omega) (ok_cons (by omega) (by omega) ok_nil) p h) h)
  have HV := Lib.hid hv
  have HBA := Lib.hid hbase
  have HM1 := Lib.hid (show n + 2 ≤ maxLen by unfold maxLen; omega)
  have HM2 := Lib.hid (show (n + 2) * 24 ≤ 140737488355328 by omega)
  have S1 := Lib.hid s1
  have S2 := Lib.hid s2
  obtain ⟨i0, hi0, hz0, hz1, hz2⟩ := info_parts infoPt
  clear hpg h4 hM hln hn1 hn hok hv s1 s2 hbase
  generalize M - 4 = M4 at *
  generalize putHi pg ((1 : Nat) : Int) = m1 at *
  generalize putHi M4 ((2 : Nat) : Int) = m2 at *
  go_enter Try.func36, Try.ntmps36
  go_wp2_with (fail)
  refine (HN1.out w).mono ?_; rintro e v1 ⟨rfl, hb⟩
  have HB := Lib.hid (show Below base w v1 from hb.mono HBA.out); have HV1 := Lib.hid (own_belowP HV.out hb); have HZ1 := Lib.hid (Nat.le_trans HBA.out hb.size)
  clear hb
  go_wp2_with (fail)
  refine (HN2.out v1).mono ?_; rintro e v2 ⟨rfl, hb⟩
  replace HB := Lib.hid (HB.out.trans (hb.mono HZ1.out))
  have HV2 := Lib.hid (((own_belowP HV1.out hb)).alloc (.cells #[.int .i64 1, .string m1, .int .i64 2, .string m2] 50))
  have HZ2 := Lib.hid (Nat.le_trans HZ1.out hb.size)
  have HBS := Lib.hid (show base ≤ (v2.alloc (.cells #[.int .i64 1, .string m1, .int .i64 2, .string m2] 50)).heap.size by have := HZ2.out; simp; omega)
  clear hb HV HV1
  go_wp2_with (at_builtin; refine wpList_append_own_at _ rfl (.tmp 8) (.tmp 14) _ rfl base 50 i0 _ 2 24 Try.underlying54 hi0 hz0 hz1 hz2 rfl (by omega) (.slice (some ⟨g0, 0, none⟩) n c) n (pcs l) rfl HV2.out _ 2 2 (pcs [⟨1, m1⟩, ⟨2, m2⟩]) rfl rfl (cells_of v2 #[.int .i64 1, .string m1, .int .i64 2, .string m2] _ rfl) pcs_one HM1.out HM2.out HBS.out ?_; intro v4 w4 hown4 hg4 hn4 hat4; have HW4 := Lib.hid hown4; have HG4 := Lib.hid hg4; clear hown4 hg4 hn4 hat4)
  obtain ⟨A4, c4, rfl⟩ := own_form HW4.out
  obtain ⟨g4, cur4, rfl, _, _, _⟩ := own_some HW4.out (by omega)
  refine (HC.out m1 m2 S1.out S2.out g4 c4 w4 (by rw [← pcs_app]; exact HW4.out)).mono ?_; rintro e v5 ⟨rfl, hb⟩
  have HB4 := Lib.hid ((HB.out.alloc HZ2.out (.cells #[.int .i64 1, .string m1, .int .i64 2, .string m2] 50)).grown HG4.out HBS.out (fun g hg => (HV2.out.lt g hg).1))
  have HB5 := Lib.hid (HB4.out.trans (hb.mono (Nat.le_trans HBS.out HG4.out.size)))
  clear hb
  go_wp2_with (fail)
  go_ret
  exact ⟨rfl, HB5.out⟩
set_option maxRecDepth 100000 in
set_option maxHeartbeats 4000000 in
theorem std_true (w : World) : Calls Try.prog 21 #[.bool true] w fun e w' => e = .returned (.string (stdS true)) ∧ Below w.heap.size w w' := by
  obtain ⟨m1, hm1⟩ : ∃ m, m = putHi 0 ((1 : Nat) : Int) := ⟨_, rfl⟩
  have s1 : m1.size = 1 := by rw [hm1]; exact putHi_size _ 1 (by decide) (by decide)
  have HN1 : Hid (∀ v, Calls Try.prog 28 #[.int .i64 0, .int .i64 1, .int .i64 0] v fun e w' => e = .returned (.agg #[.int .i64 0, .string m1]) ∧ Below v.heap.size v w') := Lib.hid (fun v => by rw [hm1]; exact number_any 0 1 0 (by decide) v)
  obtain ⟨m2, hm2⟩ : ∃ m, m = putHi 6 ((1 : Nat) : Int) := ⟨_, rfl⟩
  have s2 : m2.size = 1 := by rw [hm2]; exact putHi_size _ 1 (by decide) (by decide)
  have HN2 : Hid (∀ v, Calls Try.prog 28 #[.int .i64 2, .int .i64 1, .int .i64 6] v fun e w' => e = .returned (.agg #[.int .i64 2, .string m2]) ∧ Below v.heap.size v w') := Lib.hid (fun v => by rw [hm2]; exact number_any 2 1 6 (by decide) v)
  obtain ⟨m3, hm3⟩ : ∃ m, m = putHi 2 ((1 : Nat) : Int) := ⟨_, rfl⟩
  have s3 : m3.size = 1 := by rw [hm3]; exact putHi_size _ 1 (by decide) (by decide)
  have HN3 : Hid (∀ v, Calls Try.prog 28 #[.int .i64 3, .int .i64 1, .int .i64 2] v fun e w' => e = .returned (.agg #[.int .i64 3, .string m3]) ∧ Below v.heap.size v w') := Lib.hid (fun v => by rw [hm3]; exact number_any 3 1 2 (by decide) v)
  obtain ⟨m4, hm4⟩ : ∃ m, m = putHi 31 ((1 : Nat) : Int) := ⟨_, rfl⟩
  have s4 : m4.size = 1 := by rw [hm4]; exact putHi_size _ 1 (by decide) (by decide)
  have HN4 : Hid (∀ v, Calls Try.prog 28 #[.int .i64 4, .int .i64 1, .int .i64 31] v fun e w' => e = .returned (.agg #[.int .i64 4, .string m4]) ∧ Below v.heap.size v w') := Lib.hid (fun v => by rw [hm4]; exact number_any 4 1 31 (by decide) v)
  have s5 : (⟨#[72, 69, 65, 68, 71, 65, 84, 69]⟩ : ByteArray).size = 8 := rfl
  have s6 : (⟨#[66, 76, 79, 67, 75, 32, 85, 78, 73, 84, 32, 32, 32, 32, 32, 32]⟩ : ByteArray).size = 16 := rfl
  have s7 : (⟨#[48, 48, 48, 49]⟩ : ByteArray).size = 4 := rfl
  have HC : Hid (∀ v : World, Calls Try.prog 27 #[.int .i64 36, .slice (some ⟨v.heap.size, 0, none⟩) 7 7] (v.alloc (.cells #[.int .i64 0, .string m1, .int .i64 2, .string m2, .int .i64 3, .string m3, .int .i64 4, .string m4, .int .i64 8, .string ⟨#[72, 69, 65, 68, 71, 65, 84, 69]⟩, .int .i64 16, .string ⟨#[66, 76, 79, 67, 75, 32, 85, 78, 73, 84, 32, 32, 32, 32, 32, 32]⟩, .int .i64 32, .string ⟨#[48, 48, 48, 49]⟩] 50)) fun e w' => e = .returned (.string (cmS 36 [⟨0, m1⟩, ⟨2, m2⟩, ⟨3, m3⟩, ⟨4, m4⟩, ⟨8, ⟨#[72, 69, 65, 68, 71, 65, 84, 69]⟩⟩, ⟨16, ⟨#[66, 76, 79, 67, 75, 32, 85, 78, 73, 84, 32, 32, 32, 32, 32, 32]⟩⟩, ⟨32, ⟨#[48, 48, 48, 49]⟩⟩])) ∧ Below (v.alloc (.cells #[.int .i64 0, .string m1, .int .i64 2, .string m2, .int .i64 3, .string m3, .int .i64 4, .string m4, .int .i64 8, .string ⟨#[72, 69, 65, 68, 71, 65, 84, 69]⟩, .int .i64 16, .string ⟨#[66, 76, 79, 67, 75, 32, 85, 78, 73, 84, 32, 32, 32, 32, 32, 32]⟩, .int .i64 32, .string ⟨#[48, 48, 48, 49]⟩] 50)).heap.size (v.alloc (.cells #[.int .i64 0, .string m1, .int .i64 2, .string m2, .int .i64 3, .string m3, .int .i64 4, .string m4, .int .i64 8, .string ⟨#[72, 69, 65, 68, 71, 65, 84, 69]⟩, .int .i64 16, .string ⟨#[66, 76, 79, 67, 75, 32, 85, 78, 73, 84, 32, 32, 32, 32, 32, 32]⟩, .int .i64 32, .string ⟨#[48, 48, 48, 49]⟩] 50)) w') := Lib.hid (fun v => compose_any 36 7 7 v.heap.size v.heap.size [⟨0, m1⟩, ⟨2, m2⟩, ⟨3, m3⟩, ⟨4, m4⟩, ⟨8, ⟨#[72, 69, 65, 68, 71, 65, 84, 69]⟩⟩, ⟨16, ⟨#[66, 76, 79, 67, 75, 32, 85, 78, 73, 84, 32, 32, 32, 32, 32, 32]⟩⟩, ⟨32, ⟨#[48, 48, 48, 49]⟩⟩] (v.alloc (.cells #[.int .i64 0, .string m1, .int .i64 2, .string m2, .int .i64 3, .string m3, .int .i64 4, .string m4, .int .i64 8, .string ⟨#[72, 69, 65, 68, 71, 65, 84, 69]⟩, .int .i64 16, .string ⟨#[66, 76, 79, 67, 75, 32, 85, 78, 73, 84, 32, 32, 32, 32, 32, 32]⟩, .int .i64 32, .string ⟨#[48, 48, 48, 49]⟩] 50)) (by decide) rfl (by decide) (by decide) (ok_cons (by decide) (by omega) (ok_cons (by decide) (by omega) (ok_cons (by decide) (by omega) (ok_cons (by decide) (by omega) (ok_cons (by decide) (by omega) (ok_cons (by decide) (by omega) (ok_cons (by decide) (by omega) ok_nil))))))) (World.ownsRow_lit v #[.int .i64 0, .string m1, .int .i64 2, .string m2, .int .i64 3, .string m3, .int .i64 4, .string m4, .int .i64 8, .string ⟨#[72, 69, 65, 68, 71, 65, 84, 69]⟩, .int .i64 16, .string ⟨#[66, 76, 79, 67, 75, 32, 85, 78, 73, 84, 32, 32, 32, 32, 32, 32]⟩, .int .i64 32, .string ⟨#[48, 48, 48, 49]⟩] 7 (Nat.le_refl _) (by decide) rfl))
  have HR := Lib.hid (show cmS 36 [⟨0, m1⟩, ⟨2, m2⟩, ⟨3, m3⟩, ⟨4, m4⟩, ⟨8, ⟨#[72, 69, 65, 68, 71, 65, 84, 69]⟩⟩, ⟨16, ⟨#[66, 76, 79, 67, 75, 32, 85, 78, 73, 84, 32, 32, 32, 32, 32, 32]⟩⟩, ⟨32, ⟨#[48, 48, 48, 49]⟩⟩] = (stdS true) by rw [hm1, hm2, hm3, hm4]; exact std_cm true)
  rw [HR.out] at HC
  clear HR s1 hm1 s2 hm2 s3 hm3 s4 hm4 s5 s6 s7
  generalize stdS true = R at *
  go_enter Try.func21, Try.ntmps21
  go_wp2_with (fail)
  refine (HN1.out _).mono ?_; rintro e v1 ⟨rfl, hb⟩
  have HB := Lib.hid hb; clear hb
  go_wp2_with (fail)
  refine (HN2.out _).mono ?_; rintro e v2 ⟨rfl, hb⟩
  replace HB := Lib.hid (HB.out.trans (hb.mono HB.out.size)); clear hb
  go_wp2_with (fail)
  refine (HN3.out _).mono ?_; rintro e v3 ⟨rfl, hb⟩
  replace HB := Lib.hid (HB.out.trans (hb.mono HB.out.size)); clear hb
  go_wp2_with (fail)
  refine (HN4.out _).mono ?_; rintro e v4 ⟨rfl, hb⟩
  replace HB := Lib.hid (HB.out.trans (hb.mono HB.out.size)); clear hb
  go_wp2_with (fail)
  refine (HC.out _).mono ?_; rintro e vz ⟨rfl, hb⟩
  replace HB := Lib.hid ((HB.out.alloc HB.out.size (.cells #[.int .i64 0, .string m1, .int .i64 2, .string m2, .int .i64 3, .string m3, .int .i64 4, .string m4, .int .i64 8, .string ⟨#[72, 69, 65, 68, 71, 65, 84, 69]⟩, .int .i64 16, .string ⟨#[66, 76, 79, 67, 75, 32, 85, 78, 73, 84, 32, 32, 32, 32, 32, 32]⟩, .int .i64 32, .string ⟨#[48, 48, 48, 49]⟩] 50)).trans (hb.mono (HB.out.alloc HB.out.size (.cells #[.int .i64 0, .string m1, .int .i64 2, .string m2, .int .i64 3, .string m3, .int .i64 4, .string m4, .int .i64 8, .string ⟨#[72, 69, 65, 68, 71, 65, 84, 69]⟩, .int .i64 16, .string ⟨#[66, 76, 79, 67, 75, 32, 85, 78, 73, 84, 32, 32, 32, 32, 32, 32]⟩, .int .i64 32, .string ⟨#[48, 48, 48, 49]⟩] 50)).size))
  clear hb
  go_wp2_with (fail)
  go_ret
  exact ⟨rfl, HB.out⟩
set_option maxRecDepth 100000 in
set_option maxHeartbeats 4000000 in
theorem std_false (w : World) : Calls Try.prog 21 #[.bool false] w fun e w' => e = .returned (.string (stdS false)) ∧ Below w.heap.size w w' := by
  obtain ⟨m1, hm1⟩ : ∃ m, m = putHi 127 ((1 : Nat) : Int) := ⟨_, rfl⟩
  have s1 : m1.size = 1 := by rw [hm1]; exact putHi_size _ 1 (by decide) (by decide)
  have HN1 : Hid (∀ v, Calls Try.prog 28 #[.int .i64 0, .int .i64 1, .int .i64 127] v fun e w' => e = .returned (.agg #[.int .i64 0, .string m1]) ∧ Below v.heap.size v w') := Lib.hid (fun v => by rw [hm1]; exact number_any 0 1 127 (by decide) v)
  obtain ⟨m2, hm2⟩ : ∃ m, m = putHi 6 ((1 : Nat) : Int) := ⟨_, rfl⟩
  have s2 : m2.size = 1 := by rw [hm2]; exact putHi_size _ 1 (by decide) (by decide)
  have HN2 : Hid (∀ v, Calls Try.prog 28 #[.int .i64 2, .int .i64 1, .int .i64 6] v fun e w' => e = .returned (.agg #[.int .i64 2, .string m2]) ∧ Below v.heap.size v w') := Lib.hid (fun v => by rw [hm2]; exact number_any 2 1 6 (by decide) v)
  obtain ⟨m3, hm3⟩ : ∃ m, m = putHi 2 ((1 : Nat) : Int) := ⟨_, rfl⟩
  have s3 : m3.size = 1 := by rw [hm3]; exact putHi_size _ 1 (by decide) (by decide)
  have HN3 : Hid (∀ v, Calls Try.prog 28 #[.int .i64 3, .int .i64 1, .int .i64 2] v fun e w' => e = .returned (.agg #[.int .i64 3, .string m3]) ∧ Below v.heap.size v w') := Lib.hid (fun v => by rw [hm3]; exact number_any 3 1 2 (by decide) v)
  obtain ⟨m4, hm4⟩ : ∃ m, m = putHi 31 ((1 : Nat) : Int) := ⟨_, rfl⟩
  have s4 : m4.size = 1 := by rw [hm4]; exact putHi_size _ 1 (by decide) (by decide)
  have HN4 : Hid (∀ v, Calls Try.prog 28 #[.int .i64 4, .int .i64 1, .int .i64 31] v fun e w' => e = .returned (.agg #[.int .i64 4, .string m4]) ∧ Below v.heap.size v w') := Lib.hid (fun v => by rw [hm4]; exact number_any 4 1 31 (by decide) v)
  have s5 : (⟨#[72, 69, 65, 68, 71, 65, 84, 69]⟩ : ByteArray).size = 8 := rfl
  have s6 : (⟨#[66, 76, 79, 67, 75, 32, 85, 78, 73, 84, 32, 32, 32, 32, 32, 32]⟩ : ByteArray).size = 16 := rfl
  have s7 : (⟨#[48, 48, 48, 49]⟩ : ByteArray).size = 4 := rfl
  have HC : Hid (∀ v : World, Calls Try.prog 27 #[.int .i64 36, .slice (some ⟨v.heap.size, 0, none⟩) 7 7] (v.alloc (.cells #[.int .i64 0, .string m1, .int .i64 2, .string m2, .int .i64 3, .string m3, .int .i64 4, .string m4, .int .i64 8, .string ⟨#[72, 69, 65, 68, 71, 65, 84, 69]⟩, .int .i64 16, .string ⟨#[66, 76, 79, 67, 75, 32, 85, 78, 73, 84, 32, 32, 32, 32, 32, 32]⟩, .int .i64 32, .string ⟨#[48, 48, 48, 49]⟩] 50)) fun e w' => e = .returned (.string (cmS 36 [⟨0, m1⟩, ⟨2, m2⟩, ⟨3, m3⟩, ⟨4, m4⟩, ⟨8, ⟨#[72, 69, 65, 68, 71, 65, 84, 69]⟩⟩, ⟨16, ⟨#[66, 76, 79, 67, 75, 32, 85, 78, 73, 84, 32, 32, 32, 32, 32, 32]⟩⟩, ⟨32, ⟨#[48, 48, 48, 49]⟩⟩])) ∧ Below (v.alloc (.cells #[.int .i64 0, .string m1, .int .i64 2, .string m2, .int .i64 3, .string m3, .int .i64 4, .string m4, .int .i64 8, .string ⟨#[72, 69, 65, 68, 71, 65, 84, 69]⟩, .int .i64 16, .string ⟨#[66, 76, 79, 67, 75, 32, 85, 78, 73, 84, 32, 32, 32, 32, 32, 32]⟩, .int .i64 32, .string ⟨#[48, 48, 48, 49]⟩] 50)).heap.size (v.alloc (.cells #[.int .i64 0, .string m1, .int .i64 2, .string m2, .int .i64 3, .string m3, .int .i64 4, .string m4, .int .i64 8, .string ⟨#[72, 69, 65, 68, 71, 65, 84, 69]⟩, .int .i64 16, .string ⟨#[66, 76, 79, 67, 75, 32, 85, 78, 73, 84, 32, 32, 32, 32, 32, 32]⟩, .int .i64 32, .string ⟨#[48, 48, 48, 49]⟩] 50)) w') := Lib.hid (fun v => compose_any 36 7 7 v.heap.size v.heap.size [⟨0, m1⟩, ⟨2, m2⟩, ⟨3, m3⟩, ⟨4, m4⟩, ⟨8, ⟨#[72, 69, 65, 68, 71, 65, 84, 69]⟩⟩, ⟨16, ⟨#[66, 76, 79, 67, 75, 32, 85, 78, 73, 84, 32, 32, 32, 32, 32, 32]⟩⟩, ⟨32, ⟨#[48, 48, 48, 49]⟩⟩] (v.alloc (.cells #[.int .i64 0, .string m1, .int .i64 2, .string m2, .int .i64 3, .string m3, .int .i64 4, .string m4, .int .i64 8, .string ⟨#[72, 69, 65, 68, 71, 65, 84, 69]⟩, .int .i64 16, .string ⟨#[66, 76, 79, 67, 75, 32, 85, 78, 73, 84, 32, 32, 32, 32, 32, 32]⟩, .int .i64 32, .string ⟨#[48, 48, 48, 49]⟩] 50)) (by decide) rfl (by decide) (by decide) (ok_cons (by decide) (by omega) (ok_cons (by decide) (by omega) (ok_cons (by decide) (by omega) (ok_cons (by decide) (by omega) (ok_cons (by decide) (by omega) (ok_cons (by decide) (by omega) (ok_cons (by decide) (by omega) ok_nil))))))) (World.ownsRow_lit v #[.int .i64 0, .string m1, .int .i64 2, .string m2, .int .i64 3, .string m3, .int .i64 4, .string m4, .int .i64 8, .string ⟨#[72, 69, 65, 68, 71, 65, 84, 69]⟩, .int .i64 16, .string ⟨#[66, 76, 79, 67, 75, 32, 85, 78, 73, 84, 32, 32, 32, 32, 32, 32]⟩, .int .i64 32, .string ⟨#[48, 48, 48, 49]⟩] 7 (Nat.le_refl _) (by decide) rfl))
  have HR := Lib.hid (show cmS 36 [⟨0, m1⟩, ⟨2, m2⟩, ⟨3, m3⟩, ⟨4, m4⟩, ⟨8, ⟨#[72, 69, 65, 68, 71, 65, 84, 69]⟩⟩, ⟨16, ⟨#[66, 76, 79, 67, 75, 32, 85, 78, 73, 84, 32, 32, 32, 32, 32, 32]⟩⟩, ⟨32, ⟨#[48, 48, 48, 49]⟩⟩] = (stdS false) by rw [hm1, hm2, hm3, hm4]; exact std_cm false)
  rw [HR.out] at HC
  clear HR s1 hm1 s2 hm2 s3 hm3 s4 hm4 s5 s6 s7
  generalize stdS false = R at *
  go_enter Try.func21, Try.ntmps21
  go_wp2_with (fail)
  refine (HN1.out _).mono ?_; rintro e v1 ⟨rfl, hb⟩
  have HB := Lib.hid hb; clear hb
  go_wp2_with (fail)
  refine (HN2.out _).mono ?_; rintro e v2 ⟨rfl, hb⟩
  replace HB := Lib.hid (HB.out.trans (hb.mono HB.out.size)); clear hb
  go_wp2_with (fail)
  refine (HN3.out _).mono ?_; rintro e v3 ⟨rfl, hb⟩
  replace HB := Lib.hid (HB.out.trans (hb.mono HB.out.size)); clear hb
  go_wp2_with (fail)
  refine (HN4.out _).mono ?_; rintro e v4 ⟨rfl, hb⟩
  replace HB := Lib.hid (HB.out.trans (hb.mono HB.out.size)); clear hb
  go_wp2_with (fail)
  refine (HC.out _).mono ?_; rintro e vz ⟨rfl, hb⟩
  replace HB := Lib.hid ((HB.out.alloc HB.out.size (.cells #[.int .i64 0, .string m1, .int .i64 2, .string m2, .int .i64 3, .string m3, .int .i64 4, .string m4, .int .i64 8, .string ⟨#[72, 69, 65, 68, 71, 65, 84, 69]⟩, .int .i64 16, .string ⟨#[66, 76, 79, 67, 75, 32, 85, 78, 73, 84, 32, 32, 32, 32, 32, 32]⟩, .int .i64 32, .string ⟨#[48, 48, 48, 49]⟩] 50)).trans (hb.mono (HB.out.alloc HB.out.size (.cells #[.int .i64 0, .string m1, .int .i64 2, .string m2, .int .i64 3, .string m3, .int .i64 4, .string m4, .int .i64 8, .string ⟨#[72, 69, 65, 68, 71, 65, 84, 69]⟩, .int .i64 16, .string ⟨#[66, 76, 79, 67, 75, 32, 85, 78, 73, 84, 32, 32, 32, 32, 32, 32]⟩, .int .i64 32, .string ⟨#[48, 48, 48, 49]⟩] 50)).size))
  clear hb
  go_wp2_with (fail)
  go_ret
  exact ⟨rfl, HB.out⟩
theorem std_any (th : Bool) (w : World) : Calls Try.prog 21 #[.bool th] w fun e w' => e = .returned (.string (stdS th)) ∧ Below w.heap.size w w' := by
  cases th
  · exact std_false w
  · exact std_true w
set_option maxRecDepth 100000 in
set_option maxHeartbeats 4000000 in
theorem pages_any (w : World) : Calls Try.prog 22 #[] w fun e w' => e = .returned (.string listP) ∧ Below w.heap.size w w' := by
  obtain ⟨m1, hm1⟩ : ∃ m, m = putHi 0 ((1 : Nat) : Int) := ⟨_, rfl⟩
  have s1 : m1.size = 1 := by rw [hm1]; exact putHi_size _ 1 (by decide) (by decide)
  have HN1 : Hid (∀ v, Calls Try.prog 28 #[.int .i64 4, .int .i64 1, .int .i64 0] v fun e w' => e = .returned (.agg #[.int .i64 4, .string m1]) ∧ Below v.heap.size v w') := Lib.hid (fun v => by rw [hm1]; exact number_any 4 1 0 (by decide) v)
  obtain ⟨m2, hm2⟩ : ∃ m, m = putHi 131 ((1 : Nat) : Int) := ⟨_, rfl⟩
  have s2 : m2.size = 1 := by rw [hm2]; exact putHi_size _ 1 (by decide) (by decide)
  have HN2 : Hid (∀ v, Calls Try.prog 28 #[.int .i64 5, .int .i64 1, .int .i64 131] v fun e w' => e = .returned (.agg #[.int .i64 5, .string m2]) ∧ Below v.heap.size v w') := Lib.hid (fun v => by rw [hm2]; exact number_any 5 1 131 (by decide) v)
  obtain ⟨m3, hm3⟩ : ∃ m, m = putHi 176 ((1 : Nat) : Int) := ⟨_, rfl⟩
  have s3 : m3.size = 1 := by rw [hm3]; exact putHi_size _ 1 (by decide) (by decide)
  have HN3 : Hid (∀ v, Calls Try.prog 28 #[.int .i64 6, .int .i64 1, .int .i64 176] v fun e w' => e = .returned (.agg #[.int .i64 6, .string m3]) ∧ Below v.heap.size v w') := Lib.hid (fun v => by rw [hm3]; exact number_any 6 1 176 (by decide) v)
  have HC : Hid (∀ v : World, Calls Try.prog 36 #[.int .i64 0, .int .i64 7, .slice (some ⟨v.heap.size, 0, none⟩) 3 3] (v.alloc (.cells #[.int .i64 4, .string m1, .int .i64 5, .string m2, .int .i64 6, .string m3] 50)) fun e w' => e = .returned (.string (cmS 7 ([⟨4, m1⟩, ⟨5, m2⟩, ⟨6, m3⟩] ++ [⟨1, putHi 0 ((1 : Nat) : Int)⟩, ⟨2, putHi (7 - 4) ((2 : Nat) : Int)⟩]))) ∧ Below v.heap.size (v.alloc (.cells #[.int .i64 4, .string m1, .int .i64 5, .string m2, .int .i64 6, .string m3] 50)) w') := Lib.hid (fun v => numbered_any 0 7 3 3 v.heap.size v.heap.size [⟨4, m1⟩, ⟨5, m2⟩, ⟨6, m3⟩] (v.alloc (.cells #[.int .i64 4, .string m1, .int .i64 5, .string m2, .int .i64 6, .string m3] 50)) (by decide) (by decide) (by decide) rfl (by decide) (by decide) (ok_cons (by decide) (by omega) (ok_cons (by decide) (by omega) (ok_cons (by decide) (by omega) ok_nil))) (by simp) (World.ownsRow_lit v #[.int .i64 4, .string m1, .int .i64 5, .string m2, .int .i64 6, .string m3] 3 (Nat.le_refl _) (by decide) rfl))
  have HR := Lib.hid (show cmS 7 ([⟨4, m1⟩, ⟨5, m2⟩, ⟨6, m3⟩] ++ [⟨1, putHi 0 ((1 : Nat) : Int)⟩, ⟨2, putHi (7 - 4) ((2 : Nat) : Int)⟩]) = listP by rw [hm1, hm2, hm3]; exact list_cm)
  rw [HR.out] at HC
  clear HR s1 hm1 s2 hm2 s3 hm3
  generalize listP = R at *
  go_enter Try.func22, Try.ntmps22
  go_wp2_with (fail)
  refine (HN1.out _).mono ?_; rintro e v1 ⟨rfl, hb⟩
  have HB := Lib.hid hb; clear hb
  go_wp2_with (fail)
  refine (HN2.out _).mono ?_; rintro e v2 ⟨rfl, hb⟩
  replace HB := Lib.hid (HB.out.trans (hb.mono HB.out.size)); clear hb
  go_wp2_with (fail)
  refine (HN3.out _).mono ?_; rintro e v3 ⟨rfl, hb⟩
  replace HB := Lib.hid (HB.out.trans (hb.mono HB.out.size)); clear hb
  go_wp2_with (fail)
  refine (HC.out _).mono ?_; rintro e vz ⟨rfl, hb⟩
  replace HB := Lib.hid ((HB.out.alloc HB.out.size (.cells #[.int .i64 4, .string m1, .int .i64 5, .string m2, .int .i64 6, .string m3] 50)).trans (hb.mono HB.out.size))
  clear hb
  go_wp2_with (fail)
  go_ret
  exact ⟨rfl, HB.out⟩
set_option maxRecDepth 100000 in
set_option maxHeartbeats 4000000 in
theorem id_any (id : ByteArray) (hid : id.size = 16) (w : World) : Calls Try.prog 23 #[.string id] w fun e w' => e = .returned (.string (idP ++ id)) ∧ Below w.heap.size w w' := by
  obtain ⟨m1, hm1⟩ : ∃ m, m = putHi 1 ((1 : Nat) : Int) := ⟨_, rfl⟩
  have s1 : m1.size = 1 := by rw [hm1]; exact putHi_size _ 1 (by decide) (by decide)
  have HN1 : Hid (∀ v, Calls Try.prog 28 #[.int .i64 4, .int .i64 1, .int .i64 1] v fun e w' => e = .returned (.agg #[.int .i64 4, .string m1]) ∧ Below v.heap.size v w') := Lib.hid (fun v => by rw [hm1]; exact number_any 4 1 1 (by decide) v)
  obtain ⟨m2, hm2⟩ : ∃ m, m = putHi 1 ((1 : Nat) : Int) := ⟨_, rfl⟩
  have s2 : m2.size = 1 := by rw [hm2]; exact putHi_size _ 1 (by decide) (by decide)
  have HN2 : Hid (∀ v, Calls Try.prog 28 #[.int .i64 5, .int .i64 1, .int .i64 1] v fun e w' => e = .returned (.agg #[.int .i64 5, .string m2]) ∧ Below v.heap.size v w') := Lib.hid (fun v => by rw [hm2]; exact number_any 5 1 1 (by decide) v)
  obtain ⟨m3, hm3⟩ : ∃ m, m = putHi 16 ((1 : Nat) : Int) := ⟨_, rfl⟩
  have s3 : m3.size = 1 := by rw [hm3]; exact putHi_size _ 1 (by decide) (by decide)
  have HN3 : Hid (∀ v, Calls Try.prog 28 #[.int .i64 7, .int .i64 1, .int .i64 16] v fun e w' => e = .returned (.agg #[.int .i64 7, .string m3]) ∧ Below v.heap.size v w') := Lib.hid (fun v => by rw [hm3]; exact number_any 7 1 16 (by decide) v)
  have s4 : (id : ByteArray).size = 16 := hid
  have HC : Hid (∀ v : World, Calls Try.prog 36 #[.int .i64 131, .int .i64 24, .slice (some ⟨v.heap.size, 0, none⟩) 4 4] (v.alloc (.cells #[.int .i64 4, .string m1, .int .i64 5, .string m2, .int .i64 7, .string m3, .int .i64 8, .string id] 50)) fun e w' => e = .returned (.string (cmS 24 ([⟨4, m1⟩, ⟨5, m2⟩, ⟨7, m3⟩, ⟨8, id⟩] ++ [⟨1, putHi 131 ((1 : Nat) : Int)⟩, ⟨2, putHi (24 - 4) ((2 : Nat) : Int)⟩]))) ∧ Below v.heap.size (v.alloc (.cells #[.int .i64 4, .string m1, .int .i64 5, .string m2, .int .i64 7, .string m3, .int .i64 8, .string id] 50)) w') := Lib.hid (fun v => numbered_any 131 24 4 4 v.heap.size v.heap.size [⟨4, m1⟩, ⟨5, m2⟩, ⟨7, m3⟩, ⟨8, id⟩] (v.alloc (.cells #[.int .i64 4, .string m1, .int .i64 5, .string m2, .int .i64 7, .string m3, .int .i64 8, .string id] 50)) (by decide) (by decide) (by decide) rfl (by decide) (by decide) (ok_cons (by decide) (by omega) (ok_cons (by decide) (by omega) (ok_cons (by decide) (by omega) (ok_cons (by decide) (by omega) ok_nil)))) (by simp) (World.ownsRow_lit v #[.int .i64 4, .string m1, .int .i64 5, .string m2, .int .i64 7, .string m3, .int .i64 8, .string id] 4 (Nat.le_refl _) (by decide) rfl))
  have HR := Lib.hid (show cmS 24 ([⟨4, m1⟩, ⟨5, m2⟩, ⟨7, m3⟩, ⟨8, id⟩] ++ [⟨1, putHi 131 ((1 : Nat) : Int)⟩, ⟨2, putHi (24 - 4) ((2 : Nat) : Int)⟩]) = (idP ++ id) by rw [hm1, hm2, hm3]; exact id_cm hid)
  rw [HR.out] at HC
  clear HR s1 hm1 s2 hm2 s3 hm3 s4
  generalize idP ++ id = R at *
  clear hid
  go_enter Try.func23, Try.ntmps23
  go_wp2_with (fail)
  refine (HN1.out _).mono ?_; rintro e v1 ⟨rfl, hb⟩
  have HB := Lib.hid hb; clear hb
  go_wp2_with (fail)
  refine (HN2.out _).mono ?_; rintro e v2 ⟨rfl, hb⟩
  replace HB := Lib.hid (HB.out.trans (hb.mono HB.out.size)); clear hb
  go_wp2_with (fail)
  refine (HN3.out _).mono ?_; rintro e v3 ⟨rfl, hb⟩
  replace HB := Lib.hid (HB.out.trans (hb.mono HB.out.size)); clear hb
  go_wp2_with (fail)
  refine (HC.out _).mono ?_; rintro e vz ⟨rfl, hb⟩
  replace HB := Lib.hid ((HB.out.alloc HB.out.size (.cells #[.int .i64 4, .string m1, .int .i64 5, .string m2, .int .i64 7, .string m3, .int .i64 8, .string id] 50)).trans (hb.mono HB.out.size))
  clear hb
  go_wp2_with (fail)
  go_ret
  exact ⟨rfl, HB.out⟩
set_option maxRecDepth 100000 in
set_option maxHeartbeats 4000000 in
theorem limits_any (w : World) : Calls Try.prog 24 #[] w fun e w' => e = .returned (.string limP) ∧ Below w.heap.size w w' := by
  obtain ⟨m1, hm1⟩ : ∃ m, m = putHi 32 ((1 : Nat) : Int) := ⟨_, rfl⟩
  have s1 : m1.size = 1 := by rw [hm1]; exact putHi_size _ 1 (by decide) (by decide)
  have HN1 : Hid (∀ v, Calls Try.prog 28 #[.int .i64 5, .int .i64 1, .int .i64 32] v fun e w' => e = .returned (.agg #[.int .i64 5, .string m1]) ∧ Below v.heap.size v w') := Lib.hid (fun v => by rw [hm1]; exact number_any 5 1 32 (by decide) v)
  obtain ⟨m2, hm2⟩ : ∃ m, m = putHi 64 ((4 : Nat) : Int) := ⟨_, rfl⟩
  have s2 : m2.size = 4 := by rw [hm2]; exact putHi_size _ 4 (by decide) (by decide)
  have HN2 : Hid (∀ v, Calls Try.prog 28 #[.int .i64 8, .int .i64 4, .int .i64 64] v fun e w' => e = .returned (.agg #[.int .i64 8, .string m2]) ∧ Below v.heap.size v w') := Lib.hid (fun v => by rw [hm2]; exact number_any 8 4 64 (by decide) v)
  obtain ⟨m3, hm3⟩ : ∃ m, m = putHi 4096 ((4 : Nat) : Int) := ⟨_, rfl⟩
  have s3 : m3.size = 4 := by rw [hm3]; exact putHi_size _ 4 (by decide) (by decide)
  have HN3 : Hid (∀ v, Calls Try.prog 28 #[.int .i64 20, .int .i64 4, .int .i64 4096] v fun e w' => e = .returned (.agg #[.int .i64 20, .string m3]) ∧ Below v.heap.size v w') := Lib.hid (fun v => by rw [hm3]; exact number_any 20 4 4096 (by decide) v)
  obtain ⟨m4, hm4⟩ : ∃ m, m = putHi 16 ((4 : Nat) : Int) := ⟨_, rfl⟩
  have s4 : m4.size = 4 := by rw [hm4]; exact putHi_size _ 4 (by decide) (by decide)
  have HN4 : Hid (∀ v, Calls Try.prog 28 #[.int .i64 24, .int .i64 4, .int .i64 16] v fun e w' => e = .returned (.agg #[.int .i64 24, .string m4]) ∧ Below v.heap.size v w') := Lib.hid (fun v => by rw [hm4]; exact number_any 24 4 16 (by decide) v)
  have HC : Hid (∀ v : World, Calls Try.prog 36 #[.int .i64 176, .int .i64 64, .slice (some ⟨v.heap.size, 0, none⟩) 4 4] (v.alloc (.cells #[.int .i64 5, .string m1, .int .i64 8, .string m2, .int .i64 20, .string m3, .int .i64 24, .string m4] 50)) fun e w' => e = .returned (.string (cmS 64 ([⟨5, m1⟩, ⟨8, m2⟩, ⟨20, m3⟩, ⟨24, m4⟩] ++ [⟨1, putHi 176 ((1 : Nat) : Int)⟩, ⟨2, putHi (64 - 4) ((2 : Nat) : Int)⟩]))) ∧ Below v.heap.size (v.alloc (.cells #[.int .i64 5, .string m1, .int .i64 8, .string m2, .int .i64 20, .string m3, .int .i64 24, .string m4] 50)) w') := Lib.hid (fun v => numbered_any 176 64 4 4 v.heap.size v.heap.size [⟨5, m1⟩, ⟨8, m2⟩, ⟨20, m3⟩, ⟨24, m4⟩] (v.alloc (.cells #[.int .i64 5, .string m1, .int .i64 8, .string m2, .int .i64 20, .string m3, .int .i64 24, .string m4] 50)) (by decide) (by decide) (by decide) rfl (by decide) (by decide) (ok_cons (by decide) (by omega) (ok_cons (by decide) (by omega) (ok_cons (by decide) (by omega) (ok_cons (by decide) (by omega) ok_nil)))) (by simp) (World.ownsRow_lit v #[.int .i64 5, .string m1, .int .i64 8, .string m2, .int .i64 20, .string m3, .int .i64 24, .string m4] 4 (Nat.le_refl _) (by decide) rfl))
  have HR := Lib.hid (show cmS 64 ([⟨5, m1⟩, ⟨8, m2⟩, ⟨20, m3⟩, ⟨24, m4⟩] ++ [⟨1, putHi 176 ((1 : Nat) : Int)⟩, ⟨2, putHi (64 - 4) ((2 : Nat) : Int)⟩]) = limP by rw [hm1, hm2, hm3, hm4]; exact lim_cm)
  rw [HR.out] at HC
  clear HR s1 hm1 s2 hm2 s3 hm3 s4 hm4
  generalize limP = R at *
  go_enter Try.func24, Try.ntmps24
  go_wp2_with (fail)
  refine (HN1.out _).mono ?_; rintro e v1 ⟨rfl, hb⟩
  have HB := Lib.hid hb; clear hb
  go_wp2_with (fail)
  refine (HN2.out _).mono ?_; rintro e v2 ⟨rfl, hb⟩
  replace HB := Lib.hid (HB.out.trans (hb.mono HB.out.size)); clear hb
  go_wp2_with (fail)
  refine (HN3.out _).mono ?_; rintro e v3 ⟨rfl, hb⟩
  replace HB := Lib.hid (HB.out.trans (hb.mono HB.out.size)); clear hb
  go_wp2_with (fail)
  refine (HN4.out _).mono ?_; rintro e v4 ⟨rfl, hb⟩
  replace HB := Lib.hid (HB.out.trans (hb.mono HB.out.size)); clear hb
  go_wp2_with (fail)
  refine (HC.out _).mono ?_; rintro e vz ⟨rfl, hb⟩
  replace HB := Lib.hid ((HB.out.alloc HB.out.size (.cells #[.int .i64 5, .string m1, .int .i64 8, .string m2, .int .i64 20, .string m3, .int .i64 24, .string m4] 50)).trans (hb.mono HB.out.size))
  clear hb
  go_wp2_with (fail)
  go_ret
  exact ⟨rfl, HB.out⟩
end Go.Proofs.Ytgncllhhajjnlaa
