/- The code's Page, Capacity and List. -/
import Derived.Test.YtgncllhhajjnlaaInQ
namespace Go.Proofs.Ytgncllhhajjnlaa
open Go.RowKit
set_option maxRecDepth 100000 in
set_option maxHeartbeats 4000000 in
theorem pg_std (n : Int) (id : ByteArray) (th : Bool) (w : World) : Calls Try.prog 9 #[unV n id, .bool th, .int .i64 0] w fun e w' => e = .returned (.tuple #[.string (stdS th), .int .i64 0]) ∧ Below w.heap.size w w' := by
  have HS := Lib.hid (fun v => std_any th v)
  generalize stdS th = R at *
  have HB0 := Lib.hid ((Below.refl w.heap.size w).alloc (Nat.le_refl _) (.cells (unC n id) 23))
  have HX0 := Lib.hid (Blk.new w 23 (unC n id))
  go_enter Try.func9, Try.ntmps9
  go_upto_region 1 with (fail)
  change Code.wp _ _ _ _ (w.alloc (.cells (unC n id) 23))
  generalize w.alloc (.cells (unC n id) 23) = v0 at *
  obtain ⟨g, hg⟩ : ∃ g, g = w.heap.size := ⟨_, rfl⟩
  rw [← hg] at HX0 ⊢
  clear hg
  have c1 : v0.cell? ⟨g, 1, none⟩ = some (.string id) := HX0.out.cell 1
  go_wp2_with (fail)
  refine (HS.out v0).mono ?_; rintro e v1 ⟨rfl, hb⟩
  replace HB0 := Lib.hid (HB0.out.trans (hb.mono HB0.out.size)); clear hb
  go_wp2_with (fail)
  go_ret2
  exact ⟨rfl, HB0.out⟩
set_option maxRecDepth 100000 in
set_option maxHeartbeats 4000000 in
theorem pg_off (n : Int) (id : ByteArray) (p : Int) (hp0 : ¬ p = 0) (w : World) : Calls Try.prog 9 #[unV n id, .bool false, .int .i64 p] w fun e w' => e = .returned (.tuple #[.string ⟨#[]⟩, .int .i64 180]) ∧ Below w.heap.size w w' := by
  have q0 : (p == 0) = false := by simpa using hp0
  have HB0 := Lib.hid ((Below.refl w.heap.size w).alloc (Nat.le_refl _) (.cells (unC n id) 23))
  have HX0 := Lib.hid (Blk.new w 23 (unC n id))
  go_enter Try.func9, Try.ntmps9
  go_upto_region 1 with (fail)
  change Code.wp _ _ _ _ (w.alloc (.cells (unC n id) 23))
  generalize w.alloc (.cells (unC n id) 23) = v0 at *
  obtain ⟨g, hg⟩ : ∃ g, g = w.heap.size := ⟨_, rfl⟩
  rw [← hg] at HX0 ⊢
  clear hg
  have c1 : v0.cell? ⟨g, 1, none⟩ = some (.string id) := HX0.out.cell 1
  go_wp2_with (fail)
  go_ret2
  exact ⟨rfl, HB0.out⟩
set_option maxRecDepth 100000 in
set_option maxHeartbeats 4000000 in
theorem pg_list (n : Int) (id : ByteArray) (w : World) : Calls Try.prog 9 #[unV n id, .bool true, .int .i64 256] w fun e w' => e = .returned (.tuple #[.string listP, .int .i64 0]) ∧ Below w.heap.size w w' := by
  have HS := Lib.hid (fun v => pages_any v)
  generalize listP = R at *
  have HB0 := Lib.hid ((Below.refl w.heap.size w).alloc (Nat.le_refl _) (.cells (unC n id) 23))
  have HX0 := Lib.hid (Blk.new w 23 (unC n id))
  go_enter Try.func9, Try.ntmps9
  go_upto_region 1 with (fail)
  change Code.wp _ _ _ _ (w.alloc (.cells (unC n id) 23))
  generalize w.alloc (.cells (unC n id) 23) = v0 at *
  obtain ⟨g, hg⟩ : ∃ g, g = w.heap.size := ⟨_, rfl⟩
  rw [← hg] at HX0 ⊢
  clear hg
  have c1 : v0.cell? ⟨g, 1, none⟩ = some (.string id) := HX0.out.cell 1
  go_wp2_with (fail)
  refine (HS.out v0).mono ?_; rintro e v1 ⟨rfl, hb⟩
  replace HB0 := Lib.hid (HB0.out.trans (hb.mono HB0.out.size)); clear hb
  go_wp2_with (fail)
  go_ret2
  exact ⟨rfl, HB0.out⟩
set_option maxRecDepth 100000 in
set_option maxHeartbeats 4000000 in
theorem pg_id (n : Int) (id : ByteArray) (h : id.size = 16) (w : World) : Calls Try.prog 9 #[unV n id, .bool true, .int .i64 387] w fun e w' => e = .returned (.tuple #[.string (idP ++ id), .int .i64 0]) ∧ Below w.heap.size w w' := by
  have HS := Lib.hid (fun v => id_any id h v)
  have q1 : ((id.size : Int) == 16) = true := by rw [h]; rfl
  have q2 : (id.size : Int) = 16 := by rw [h]; rfl
  generalize idP ++ id = R at *
  clear h
  have HB0 := Lib.hid ((Below.refl w.heap.size w).alloc (Nat.le_refl _) (.cells (unC n id) 23))
  have HX0 := Lib.hid (Blk.new w 23 (unC n id))
  go_enter Try.func9, Try.ntmps9
  go_upto_region 1 with (fail)
  change Code.wp _ _ _ _ (w.alloc (.cells (unC n id) 23))
  generalize w.alloc (.cells (unC n id) 23) = v0 at *
  obtain ⟨g, hg⟩ : ∃ g, g = w.heap.size := ⟨_, rfl⟩
  rw [← hg] at HX0 ⊢
  clear hg
  have c1 : v0.cell? ⟨g, 1, none⟩ = some (.string id) := HX0.out.cell 1
  go_wp2_with (fail)
  refine (HS.out v0).mono ?_; rintro e v1 ⟨rfl, hb⟩
  replace HB0 := Lib.hid (HB0.out.trans (hb.mono HB0.out.size)); clear hb
  go_wp2_with (fail)
  go_ret2
  exact ⟨rfl, HB0.out⟩
set_option maxRecDepth 100000 in
set_option maxHeartbeats 4000000 in
theorem pg_lim (n : Int) (id : ByteArray) (w : World) : Calls Try.prog 9 #[unV n id, .bool true, .int .i64 432] w fun e w' => e = .returned (.tuple #[.string limP, .int .i64 0]) ∧ Below w.heap.size w w' := by
  have HS := Lib.hid (fun v => limits_any v)
  generalize limP = R at *
  have HB0 := Lib.hid ((Below.refl w.heap.size w).alloc (Nat.le_refl _) (.cells (unC n id) 23))
  have HX0 := Lib.hid (Blk.new w 23 (unC n id))
  go_enter Try.func9, Try.ntmps9
  go_upto_region 1 with (fail)
  change Code.wp _ _ _ _ (w.alloc (.cells (unC n id) 23))
  generalize w.alloc (.cells (unC n id) 23) = v0 at *
  obtain ⟨g, hg⟩ : ∃ g, g = w.heap.size := ⟨_, rfl⟩
  rw [← hg] at HX0 ⊢
  clear hg
  have c1 : v0.cell? ⟨g, 1, none⟩ = some (.string id) := HX0.out.cell 1
  go_wp2_with (fail)
  refine (HS.out v0).mono ?_; rintro e v1 ⟨rfl, hb⟩
  replace HB0 := Lib.hid (HB0.out.trans (hb.mono HB0.out.size)); clear hb
  go_wp2_with (fail)
  go_ret2
  exact ⟨rfl, HB0.out⟩
set_option maxRecDepth 100000 in
set_option maxHeartbeats 4000000 in
theorem pg_no (n : Int) (id : ByteArray) (p : Int) (h0 : ¬ p = 0) (h1 : ¬ p = 256) (h2 : ¬ p = 387) (h3 : ¬ p = 432) (w : World) : Calls Try.prog 9 #[unV n id, .bool true, .int .i64 p] w fun e w' => e = .returned (.tuple #[.string ⟨#[]⟩, .int .i64 180]) ∧ Below w.heap.size w w' := by
  have q0 : (p == 0) = false := by simpa using h0
  have q1 : (p == 256) = false := by simpa using h1
  have q2 : (p == 387) = false := by simpa using h2
  have q3 : (p == 432) = false := by simpa using h3
  have HB0 := Lib.hid ((Below.refl w.heap.size w).alloc (Nat.le_refl _) (.cells (unC n id) 23))
  have HX0 := Lib.hid (Blk.new w 23 (unC n id))
  go_enter Try.func9, Try.ntmps9
  go_upto_region 1 with (fail)
  change Code.wp _ _ _ _ (w.alloc (.cells (unC n id) 23))
  generalize w.alloc (.cells (unC n id) 23) = v0 at *
  obtain ⟨g, hg⟩ : ∃ g, g = w.heap.size := ⟨_, rfl⟩
  rw [← hg] at HX0 ⊢
  clear hg
  have c1 : v0.cell? ⟨g, 1, none⟩ = some (.string id) := HX0.out.cell 1
  go_wp2_with (fail)
  go_ret2
  exact ⟨rfl, HB0.out⟩
set_option maxRecDepth 100000 in
set_option maxHeartbeats 4000000 in
theorem pg_noid (n : Int) (id : ByteArray) (h2 : ¬ id.size = 16) (w : World) : Calls Try.prog 9 #[unV n id, .bool true, .int .i64 387] w fun e w' => e = .returned (.tuple #[.string ⟨#[]⟩, .int .i64 180]) ∧ Below w.heap.size w w' := by
  have q1 : ((id.size : Int) == 16) = false := by rw [beq_eq_false_iff_ne]; omega
  have q2 : ¬ (id.size : Int) = 16 := by omega
  have HB0 := Lib.hid ((Below.refl w.heap.size w).alloc (Nat.le_refl _) (.cells (unC n id) 23))
  have HX0 := Lib.hid (Blk.new w 23 (unC n id))
  go_enter Try.func9, Try.ntmps9
  go_upto_region 1 with (fail)
  change Code.wp _ _ _ _ (w.alloc (.cells (unC n id) 23))
  generalize w.alloc (.cells (unC n id) 23) = v0 at *
  obtain ⟨g, hg⟩ : ∃ g, g = w.heap.size := ⟨_, rfl⟩
  rw [← hg] at HX0 ⊢
  clear hg
  have c1 : v0.cell? ⟨g, 1, none⟩ = some (.string id) := HX0.out.cell 1
  go_wp2_with (fail)
  go_ret2
  exact ⟨rfl, HB0.out⟩
theorem page_any (n : Int) (id : ByteArray) (th : Bool) (p : Int) (w : World) : Calls Try.prog 9 #[unV n id, .bool th, .int .i64 p] w fun e w' => e = .returned (pageV (pageX id th p)) ∧ Below w.heap.size w w' := by
  unfold pageX
  by_cases h0 : p = 0
  · subst h0; rw [if_pos rfl]; exact pg_std n id th w
  · rw [if_neg h0]
    cases th with
    | false => rw [if_pos rfl]; exact pg_off n id p h0 w
    | true =>
      rw [if_neg (by decide)]
      by_cases h1 : p = 256
      · subst h1; rw [if_pos rfl]; exact pg_list n id w
      · rw [if_neg h1]
        by_cases h2 : p = 387
        · subst h2
          by_cases h16 : id.size = 16
          · rw [if_pos ⟨rfl, h16⟩]; exact pg_id n id h16 w
          · rw [if_neg (fun h => h16 h.2), if_neg (by decide)]; exact pg_noid n id h16 w
        · rw [if_neg (fun h => h2 h.1)]
          by_cases h3 : p = 432
          · subst h3; rw [if_pos rfl]; exact pg_lim n id w
          · rw [if_neg h3]; exact pg_no n id p h0 h1 h2 h3 w
set_option maxRecDepth 100000 in
set_option maxHeartbeats 4000000 in
theorem capC_in (m : Nat) (hm : m < 4294967295) (w : World) : Calls Try.prog 11 #[.int .i64 ((m : Int) + 1)] w fun e w' => e = .returned (.string (putHi m ((4 : Nat) : Int) ++ putHi 512 ((4 : Nat) : Int))) ∧ Below w.heap.size w w' := by
  obtain ⟨x1, hx1⟩ : ∃ x, x = putHi m ((4 : Nat) : Int) := ⟨_, rfl⟩
  obtain ⟨x2, hx2⟩ : ∃ x, x = putHi 512 ((4 : Nat) : Int) := ⟨_, rfl⟩
  have a1 : x1.size = 4 := by rw [hx1]; exact putHi_size _ 4 (by decide) (by decide)
  have a2 : x2.size = 4 := by rw [hx2]; exact putHi_size _ 4 (by decide) (by decide)
  have HN1 : Hid (∀ v, Calls Try.prog 28 #[.int .i64 0, .int .i64 4, .int .i64 (m : Int)] v fun e w' => e = .returned (.agg #[.int .i64 0, .string x1]) ∧ Below v.heap.size v w') := Lib.hid (fun v => by rw [hx1]; exact number_any 0 4 m (by omega) v)
  have HN2 : Hid (∀ v, Calls Try.prog 28 #[.int .i64 4, .int .i64 4, .int .i64 512] v fun e w' => e = .returned (.agg #[.int .i64 4, .string x2]) ∧ Below v.heap.size v w') := Lib.hid (fun v => by rw [hx2]; exact number_any 4 4 512 (by decide) v)
  have HC : Hid (∀ v : World, Calls Try.prog 27 #[.int .i64 8, .slice (some ⟨v.heap.size, 0, none⟩) 2 2] (v.alloc (.cells #[.int .i64 0, .string x1, .int .i64 4, .string x2] 50)) fun e w' => e = .returned (.string (cmS 8 [⟨0, x1⟩, ⟨4, x2⟩])) ∧ Below (v.alloc (.cells #[.int .i64 0, .string x1, .int .i64 4, .string x2] 50)).heap.size (v.alloc (.cells #[.int .i64 0, .string x1, .int .i64 4, .string x2] 50)) w') := Lib.hid (fun v => compose_any 8 2 2 v.heap.size v.heap.size [⟨0, x1⟩, ⟨4, x2⟩] (v.alloc (.cells #[.int .i64 0, .string x1, .int .i64 4, .string x2] 50)) (by decide) rfl (by decide) (by decide) (ok_cons (by decide) (by omega) (ok_cons (by decide) (by omega) ok_nil)) (World.ownsRow_lit v #[.int .i64 0, .string x1, .int .i64 4, .string x2] 2 (Nat.le_refl _) (by decide) rfl))
  have HR := Lib.hid (show cmS 8 [⟨0, x1⟩, ⟨4, x2⟩] = putHi m ((4 : Nat) : Int) ++ putHi 512 ((4 : Nat) : Int) by rw [hx1, hx2]; exact cap_cm m)
  rw [HR.out] at HC
  clear HR hx1 hx2 a1 a2
  generalize putHi m ((4 : Nat) : Int) ++ putHi 512 ((4 : Nat) : Int) = R at *
  have q0 : ¬ (m : Int) + 1 < 1 := by omega
  have q1 : ¬ (4294967296 : Int) ≤ (m : Int) + 1 := by omega
  have e0 : (m : Int) + 1 - 1 = (m : Int) := by omega
  have e1 : IntKind.i64.wrap (m : Int) = (m : Int) := IntWalk.i64_in _ (by omega)
  clear hm
  generalize hB : (m : Int) + 1 = B at *
  clear hB
  go_enter Try.func11, Try.ntmps11
  go_wp2_with (fail)
  refine (HN1.out _).mono ?_; rintro e v1 ⟨rfl, hb⟩
  have HB := Lib.hid hb; clear hb
  go_wp2_with (fail)
  refine (HN2.out _).mono ?_; rintro e v2 ⟨rfl, hb⟩
  replace HB := Lib.hid (HB.out.trans (hb.mono HB.out.size)); clear hb
  go_wp2_with (fail)
  refine (HC.out _).mono ?_; rintro e v3 ⟨rfl, hb⟩
  replace HB := Lib.hid ((HB.out.alloc HB.out.size (.cells #[.int .i64 0, .string x1, .int .i64 4, .string x2] 50)).trans (hb.mono (HB.out.alloc HB.out.size (.cells #[.int .i64 0, .string x1, .int .i64 4, .string x2] 50)).size))
  clear hb
  go_wp2_with (fail)
  go_ret
  exact ⟨rfl, HB.out⟩
set_option maxRecDepth 100000 in
set_option maxHeartbeats 4000000 in
theorem capC_lo (b : Int) (q0 : b < 1) (w : World) : Calls Try.prog 11 #[.int .i64 b] w fun e w' => e = .returned (.string (putHi 0 ((4 : Nat) : Int) ++ putHi 512 ((4 : Nat) : Int))) ∧ Below w.heap.size w w' := by
  obtain ⟨x1, hx1⟩ : ∃ x, x = putHi 0 ((4 : Nat) : Int) := ⟨_, rfl⟩
  obtain ⟨x2, hx2⟩ : ∃ x, x = putHi 512 ((4 : Nat) : Int) := ⟨_, rfl⟩
  have a1 : x1.size = 4 := by rw [hx1]; exact putHi_size _ 4 (by decide) (by decide)
  have a2 : x2.size = 4 := by rw [hx2]; exact putHi_size _ 4 (by decide) (by decide)
  have HN1 : Hid (∀ v, Calls Try.prog 28 #[.int .i64 0, .int .i64 4, .int .i64 0] v fun e w' => e = .returned (.agg #[.int .i64 0, .string x1]) ∧ Below v.heap.size v w') := Lib.hid (fun v => by rw [hx1]; exact number_any 0 4 0 (by omega) v)
  have HN2 : Hid (∀ v, Calls Try.prog 28 #[.int .i64 4, .int .i64 4, .int .i64 512] v fun e w' => e = .returned (.agg #[.int .i64 4, .string x2]) ∧ Below v.heap.size v w') := Lib.hid (fun v => by rw [hx2]; exact number_any 4 4 512 (by decide) v)
  have HC : Hid (∀ v : World, Calls Try.prog 27 #[.int .i64 8, .slice (some ⟨v.heap.size, 0, none⟩) 2 2] (v.alloc (.cells #[.int .i64 0, .string x1, .int .i64 4, .string x2] 50)) fun e w' => e = .returned (.string (cmS 8 [⟨0, x1⟩, ⟨4, x2⟩])) ∧ Below (v.alloc (.cells #[.int .i64 0, .string x1, .int .i64 4, .string x2] 50)).heap.size (v.alloc (.cells #[.int .i64 0, .string x1, .int .i64 4, .string x2] 50)) w') := Lib.hid (fun v => compose_any 8 2 2 v.heap.size v.heap.size [⟨0, x1⟩, ⟨4, x2⟩] (v.alloc (.cells #[.int .i64 0, .string x1, .int .i64 4, .string x2] 50)) (by decide) rfl (by decide) (by decide) (ok_cons (by decide) (by omega) (ok_cons (by decide) (by omega) ok_nil)) (World.ownsRow_lit v #[.int .i64 0, .string x1, .int .i64 4, .string x2] 2 (Nat.le_refl _) (by decide) rfl))
  have HR := Lib.hid (show cmS 8 [⟨0, x1⟩, ⟨4, x2⟩] = putHi 0 ((4 : Nat) : Int) ++ putHi 512 ((4 : Nat) : Int) by rw [hx1, hx2]; exact cap_cm 0)
  rw [HR.out] at HC
  clear HR hx1 hx2 a1 a2
  generalize putHi 0 ((4 : Nat) : Int) ++ putHi 512 ((4 : Nat) : Int) = R at *
  go_enter Try.func11, Try.ntmps11
  go_wp2_with (fail)
  refine (HN1.out _).mono ?_; rintro e v1 ⟨rfl, hb⟩
  have HB := Lib.hid hb; clear hb
  go_wp2_with (fail)
  refine (HN2.out _).mono ?_; rintro e v2 ⟨rfl, hb⟩
  replace HB := Lib.hid (HB.out.trans (hb.mono HB.out.size)); clear hb
  go_wp2_with (fail)
  refine (HC.out _).mono ?_; rintro e v3 ⟨rfl, hb⟩
  replace HB := Lib.hid ((HB.out.alloc HB.out.size (.cells #[.int .i64 0, .string x1, .int .i64 4, .string x2] 50)).trans (hb.mono (HB.out.alloc HB.out.size (.cells #[.int .i64 0, .string x1, .int .i64 4, .string x2] 50)).size))
  clear hb
  go_wp2_with (fail)
  go_ret
  exact ⟨rfl, HB.out⟩
set_option maxRecDepth 100000 in
set_option maxHeartbeats 4000000 in
theorem capC_hi (b : Int) (q1 : 4294967296 ≤ b) (w : World) : Calls Try.prog 11 #[.int .i64 b] w fun e w' => e = .returned (.string (putHi 0 ((4 : Nat) : Int) ++ putHi 512 ((4 : Nat) : Int))) ∧ Below w.heap.size w w' := by
  obtain ⟨x1, hx1⟩ : ∃ x, x = putHi 0 ((4 : Nat) : Int) := ⟨_, rfl⟩
  obtain ⟨x2, hx2⟩ : ∃ x, x = putHi 512 ((4 : Nat) : Int) := ⟨_, rfl⟩
  have a1 : x1.size = 4 := by rw [hx1]; exact putHi_size _ 4 (by decide) (by decide)
  have a2 : x2.size = 4 := by rw [hx2]; exact putHi_size _ 4 (by decide) (by decide)
  have HN1 : Hid (∀ v, Calls Try.prog 28 #[.int .i64 0, .int .i64 4, .int .i64 0] v fun e w' => e = .returned (.agg #[.int .i64 0, .string x1]) ∧ Below v.heap.size v w') := Lib.hid (fun v => by rw [hx1]; exact number_any 0 4 0 (by omega) v)
  have HN2 : Hid (∀ v, Calls Try.prog 28 #[.int .i64 4, .int .i64 4, .int .i64 512] v fun e w' => e = .returned (.agg #[.int .i64 4, .string x2]) ∧ Below v.heap.size v w') := Lib.hid (fun v => by rw [hx2]; exact number_any 4 4 512 (by decide) v)
  have HC : Hid (∀ v : World, Calls Try.prog 27 #[.int .i64 8, .slice (some ⟨v.heap.size, 0, none⟩) 2 2] (v.alloc (.cells #[.int .i64 0, .string x1, .int .i64 4, .string x2] 50)) fun e w' => e = .returned (.string (cmS 8 [⟨0, x1⟩, ⟨4, x2⟩])) ∧ Below (v.alloc (.cells #[.int .i64 0, .string x1, .int .i64 4, .string x2] 50)).heap.size (v.alloc (.cells #[.int .i64 0, .string x1, .int .i64 4, .string x2] 50)) w') := Lib.hid (fun v => compose_any 8 2 2 v.heap.size v.heap.size [⟨0, x1⟩, ⟨4, x2⟩] (v.alloc (.cells #[.int .i64 0, .string x1, .int .i64 4, .string x2] 50)) (by decide) rfl (by decide) (by decide) (ok_cons (by decide) (by omega) (ok_cons (by decide) (by omega) ok_nil)) (World.ownsRow_lit v #[.int .i64 0, .string x1, .int .i64 4, .string x2] 2 (Nat.le_refl _) (by decide) rfl))
  have HR := Lib.hid (show cmS 8 [⟨0, x1⟩, ⟨4, x2⟩] = putHi 0 ((4 : Nat) : Int) ++ putHi 512 ((4 : Nat) : Int) by rw [hx1, hx2]; exact cap_cm 0)
  rw [HR.out] at HC
  clear HR hx1 hx2 a1 a2
  generalize putHi 0 ((4 : Nat) : Int) ++ putHi 512 ((4 : Nat) : Int) = R at *
  have q0 : ¬ b < 1 := by omega
  go_enter Try.func11, Try.ntmps11
  go_wp2_with (fail)
  refine (HN1.out _).mono ?_; rintro e v1 ⟨rfl, hb⟩
  have HB := Lib.hid hb; clear hb
  go_wp2_with (fail)
  refine (HN2.out _).mono ?_; rintro e v2 ⟨rfl, hb⟩
  replace HB := Lib.hid (HB.out.trans (hb.mono HB.out.size)); clear hb
  go_wp2_with (fail)
  refine (HC.out _).mono ?_; rintro e v3 ⟨rfl, hb⟩
  replace HB := Lib.hid ((HB.out.alloc HB.out.size (.cells #[.int .i64 0, .string x1, .int .i64 4, .string x2] 50)).trans (hb.mono (HB.out.alloc HB.out.size (.cells #[.int .i64 0, .string x1, .int .i64 4, .string x2] 50)).size))
  clear hb
  go_wp2_with (fail)
  go_ret
  exact ⟨rfl, HB.out⟩
theorem cap_any (b : Int) (w : World) : Calls Try.prog 11 #[.int .i64 b] w fun e w' => e = .returned (.string (capS b)) ∧ Below w.heap.size w w' := by
  unfold capS
  by_cases h0 : b < 1
  · rw [if_pos (Or.inl h0)]; exact capC_lo b h0 w
  · by_cases h1 : 4294967296 ≤ b
    · rw [if_pos (Or.inr h1)]; exact capC_hi b h1 w
    · rw [if_neg (by omega)]
      obtain ⟨m, rfl⟩ : ∃ m : Nat, b = (m : Int) + 1 := ⟨(b - 1).toNat, by omega⟩
      have e : ((m : Int) + 1 - 1).toNat = m := by omega
      rw [e]
      exact capC_in m (by omega) w
set_option maxRecDepth 100000 in
set_option maxHeartbeats 4000000 in
theorem listC_in (M : Nat) (hM : M ≤ 256) (w : World) : Calls Try.prog 13 #[.int .i64 (M : Int)] w fun e w' => e = .returned (.string (putHi (8 * M) ((4 : Nat) : Int) ++ zerS 4 ++ rowsL M)) ∧ Below w.heap.size w w' := by
  obtain ⟨x0, hx0⟩ : ∃ x, x = putHi (8 * M) ((4 : Nat) : Int) := ⟨_, rfl⟩
  obtain ⟨K, hK⟩ : ∃ K : Nat, K = 8 * M := ⟨_, rfl⟩
  have HN1 : Hid (∀ v, Calls Try.prog 28 #[.int .i64 0, .int .i64 4, .int .i64 (K : Int)] v fun e w' => e = .returned (.agg #[.int .i64 0, .string x0]) ∧ Below v.heap.size v w') := Lib.hid (fun v => by rw [hx0, hK]; exact number_any 0 4 (8 * M) (by omega) v)
  have HX0 := Lib.hid (show pcs (ptsL M 0) = [.int .i64 0, .string x0] by rw [hx0]; rfl)
  obtain ⟨Z, hZ⟩ : ∃ Z : Nat, Z = 8 + 8 * M := ⟨_, rfl⟩
  have e1 : IntKind.i64.wrap ((M : Int) * 8) = (K : Int) := by rw [IntWalk.i64_in _ (by omega)]; omega
  have e2 : IntKind.i64.wrap (8 + (K : Int)) = (Z : Int) := by rw [IntWalk.i64_in _ (by omega)]; omega
  have hZ8 : Z = 8 + 8 * M := by omega
  have HC : Hid (∀ (g c : Nat) (v : World) (h : v.ownsRow w.heap.size 50 2 (.slice (some ⟨g, 0, none⟩) (M + 1) c) (M + 1) (pcs (ptsL M M))), Calls Try.prog 27 #[.int .i64 (Z : Int), .slice (some ⟨g, 0, none⟩) (M + 1) c] v fun e w' => e = .returned (.string (cmS Z (ptsL M M))) ∧ Below v.heap.size v w') := Lib.hid (fun (g c : Nat) (v : World) (h : v.ownsRow w.heap.size 50 2 (.slice (some ⟨g, 0, none⟩) (M + 1) c) (M + 1) (pcs (ptsL M M))) => compose_any Z (M + 1) c g w.heap.size (ptsL M M) v (by omega) (ptsL_length _ _) (by omega) (by omega) (fun p hp => by have := ptsL_ok M M (Nat.le_refl _) p hp; omega) h)
  have HR := Lib.hid (show cmS Z (ptsL M M) = putHi (8 * M) ((4 : Nat) : Int) ++ zerS 4 ++ rowsL M by
    have h := units_cm M M (Nat.le_refl _)
    rw [Nat.sub_self, ← hZ8] at h
    exact h.trans (ByteArray.append_empty (b := _)))
  generalize putHi (8 * M) ((4 : Nat) : Int) ++ zerS 4 ++ rowsL M = R at *
  obtain ⟨i0, hi0, hz0, hz1, hz2⟩ := info_parts infoPt
  have q0 : ¬ (M : Int) < 0 := by omega
  have q1 : ¬ (256 : Int) < (M : Int) := by omega
  clear hx0 hZ hK hZ8
  go_enter Try.func13, Try.ntmps13
  go_wp2_with (fail)
  refine (HN1.out _).mono ?_; rintro e v1 ⟨rfl, hb⟩
  have HB1 := Lib.hid hb; clear hb
  have HB := Lib.hid (HB1.out.alloc HB1.out.size (.cells #[.int .i64 0, .string x0] 50))
  have HOW : Hid ((v1.alloc (.cells #[.int .i64 0, .string x0] 50)).ownsRow w.heap.size 50 2 (.slice (some ⟨v1.heap.size, 0, none⟩) 1 1) 1 (pcs (ptsL M 0))) := Lib.hid (by rw [HX0.out]; exact World.ownsRow_lit v1 #[.int .i64 0, .string x0] 1 HB1.out.size (by decide) rfl)
  go_wp2_with (fail)
  go_loopw [3, 16] (fun v i wr => ∃ k : Nat, k ≤ M ∧ i = .int .i64 k ∧ Hid (wr.ownsRow w.heap.size 50 2 v (k + 1) (pcs (ptsL M k))) ∧ Hid (Below w.heap.size w wr)) (fun _ i _ => M - (intOf i).toNat)
  case atStart => exact ⟨0, by omega, rfl, HOW, HB⟩
  case round =>
    clear HB HOW HB1 HX0
    obtain ⟨k, hk, rfl, HOW, HB⟩ := hrel
    obtain ⟨A1, c1, rfl⟩ := own_form HOW.out
    by_cases hkM : (k : Int) < (M : Int)
    · obtain ⟨J, hJ⟩ : ∃ J : Nat, J = 8 * k + 9 := ⟨_, rfl⟩
      obtain ⟨mk, hmk⟩ : ∃ m, m = putHi k ((1 : Nat) : Int) := ⟨_, rfl⟩
      have HNK : Hid (∀ v, Calls Try.prog 28 #[.int .i64 (J : Int), .int .i64 1, .int .i64 (k : Int)] v fun e w' => e = .returned (.agg #[.int .i64 (J : Int), .string mk]) ∧ Below v.heap.size v w') := Lib.hid (fun v => by rw [hmk]; exact number_any J 1 k (by omega) v)
      have HPT := Lib.hid (show ptsL M (k + 1) = ptsL M k ++ [⟨J, mk⟩] by rw [hJ, hmk]; rfl)
      obtain ⟨J1, hJ1⟩ : ∃ J1 : Nat, J1 = 8 * k := ⟨_, rfl⟩
      obtain ⟨J2, hJ2⟩ : ∃ J2 : Nat, J2 = 8 + 8 * k := ⟨_, rfl⟩
      have f1 : IntKind.i64.wrap ((k : Int) * 8) = (J1 : Int) := by rw [IntWalk.i64_in _ (by omega)]; omega
      have f2 : IntKind.i64.wrap (8 + (J1 : Int)) = (J2 : Int) := by rw [IntWalk.i64_in _ (by omega)]; omega
      have f3 : IntKind.i64.wrap ((J2 : Int) + 1) = (J : Int) := by rw [IntWalk.i64_in _ (by omega)]; omega
      have HM1 := Lib.hid (show k + 1 + 1 ≤ maxLen by unfold maxLen; omega)
      have HM2 := Lib.hid (show (k + 1 + 1) * 24 ≤ 140737488355328 by omega)
      clear hJ hmk hJ1 hJ2 e1 e2
      go_wp2_with (fail)
      refine (HNK.out _).mono ?_; rintro e v2 ⟨rfl, hb⟩
      have HO3 := Lib.hid ((own_belowP HOW.out hb).alloc (.cells #[.int .i64 (J : Int), .string mk] 50))
      have HB2 := Lib.hid (HB.out.trans (hb.mono HB.out.size))
      have HBS := Lib.hid (show w.heap.size ≤ (v2.alloc (.cells #[.int .i64 (J : Int), .string mk] 50)).heap.size by have := HB2.out.size; simp; omega)
      clear hb
      go_wp2_with (at_builtin; refine wpList_append_own_at _ rfl (.tmp 19) (.tmp 26) _ rfl w.heap.size 50 i0 _ 2 24 Try.underlying54 hi0 hz0 hz1 hz2 rfl (by omega) (.slice A1 (k + 1) c1) (k + 1) (pcs (ptsL M k)) rfl HO3.out _ 1 1 (pcs [⟨J, mk⟩]) rfl rfl (cells_of v2 #[.int .i64 (J : Int), .string mk] _ rfl) pcs_one HM1.out HM2.out HBS.out ?_; intro v4 w4 hown4 hg4 hn4 hat4; have HW4 := Lib.hid hown4; have HG4 := Lib.hid hg4; clear hown4 hg4 hn4 hat4)
      go_roundw
      case rel =>
        refine ⟨k + 1, by omega, by go_num, ?_, ?_⟩
        · rw [HPT.out, ← pcs_app]
          exact HW4
        · exact Lib.hid ((HB2.out.alloc HB2.out.size _).grown HG4.out HBS.out (fun g hg => (HO3.out.lt g hg).1))
      case measure => simp [intOf]; omega
    · obtain rfl : k = M := by omega
      obtain ⟨g1, cur1, rfl, _, _, _⟩ := own_some HOW.out (by omega)
      go_wp2_with (fail)
      refine (HC.out g1 c1 wr HOW.out).mono ?_; rintro e v5 ⟨rfl, hb⟩
      rw [HR.out]
      have HB5 := Lib.hid (HB.out.trans (hb.mono HB.out.size))
      clear hb
      go_wp2_with (fail)
      go_ret
      exact ⟨rfl, HB5.out⟩
set_option maxRecDepth 100000 in
set_option maxHeartbeats 4000000 in
theorem listC_neg (n : Int) (q0 : n < 0) (M : Nat) (hM : M = 0) (w : World) : Calls Try.prog 13 #[.int .i64 n] w fun e w' => e = .returned (.string (putHi (8 * M) ((4 : Nat) : Int) ++ zerS 4 ++ rowsL M)) ∧ Below w.heap.size w w' := by
  obtain ⟨x0, hx0⟩ : ∃ x, x = putHi (8 * M) ((4 : Nat) : Int) := ⟨_, rfl⟩
  obtain ⟨K, hK⟩ : ∃ K : Nat, K = 8 * M := ⟨_, rfl⟩
  have HN1 : Hid (∀ v, Calls Try.prog 28 #[.int .i64 0, .int .i64 4, .int .i64 0] v fun e w' => e = .returned (.agg #[.int .i64 0, .string x0]) ∧ Below v.heap.size v w') := Lib.hid (fun v => by have h := number_any 0 4 (8 * M) (by omega) v; rw [show ((8 * M : Nat) : Int) = 0 by omega, ← hx0] at h; exact h)
  have HX0 := Lib.hid (show pcs (ptsL M 0) = [.int .i64 0, .string x0] by rw [hx0]; rfl)
  obtain ⟨Z, hZ⟩ : ∃ Z : Nat, Z = 8 + 8 * M := ⟨_, rfl⟩
  have hZ8 : 8 = 8 + 8 * M := by omega
  have HC : Hid (∀ (g c : Nat) (v : World) (h : v.ownsRow w.heap.size 50 2 (.slice (some ⟨g, 0, none⟩) (M + 1) c) (M + 1) (pcs (ptsL M M))), Calls Try.prog 27 #[.int .i64 8, .slice (some ⟨g, 0, none⟩) (M + 1) c] v fun e w' => e = .returned (.string (cmS 8 (ptsL M M))) ∧ Below v.heap.size v w') := Lib.hid (fun (g c : Nat) (v : World) (h : v.ownsRow w.heap.size 50 2 (.slice (some ⟨g, 0, none⟩) (M + 1) c) (M + 1) (pcs (ptsL M M))) => compose_any 8 (M + 1) c g w.heap.size (ptsL M M) v (by omega) (ptsL_length _ _) (by omega) (by omega) (fun p hp => by have := ptsL_ok M M (Nat.le_refl _) p hp; omega) h)
  have HR := Lib.hid (show cmS 8 (ptsL M M) = putHi (8 * M) ((4 : Nat) : Int) ++ zerS 4 ++ rowsL M by
    have h := units_cm M M (Nat.le_refl _)
    rw [Nat.sub_self, ← hZ8] at h
    exact h.trans (ByteArray.append_empty (b := _)))
  generalize putHi (8 * M) ((4 : Nat) : Int) ++ zerS 4 ++ rowsL M = R at *
  obtain ⟨i0, hi0, hz0, hz1, hz2⟩ := info_parts infoPt
  have HM0 := Lib.hid hM
  clear hM
  clear hx0 hZ hK hZ8
  go_enter Try.func13, Try.ntmps13
  go_wp2_with (fail)
  refine (HN1.out _).mono ?_; rintro e v1 ⟨rfl, hb⟩
  have HB1 := Lib.hid hb; clear hb
  have HB := Lib.hid (HB1.out.alloc HB1.out.size (.cells #[.int .i64 0, .string x0] 50))
  have HOW : Hid ((v1.alloc (.cells #[.int .i64 0, .string x0] 50)).ownsRow w.heap.size 50 2 (.slice (some ⟨v1.heap.size, 0, none⟩) 1 1) 1 (pcs (ptsL M 0))) := Lib.hid (by rw [HX0.out]; exact World.ownsRow_lit v1 #[.int .i64 0, .string x0] 1 HB1.out.size (by decide) rfl)
  go_wp2_with (fail)
  go_loopw [3, 16] (fun v i wr => ∃ k : Nat, k ≤ M ∧ i = .int .i64 k ∧ Hid (wr.ownsRow w.heap.size 50 2 v (k + 1) (pcs (ptsL M k))) ∧ Hid (Below w.heap.size w wr)) (fun _ i _ => M - (intOf i).toNat)
  case atStart => exact ⟨0, by omega, rfl, HOW, HB⟩
  case round =>
    clear HB HOW HB1 HX0
    obtain ⟨k, hk, rfl, HOW, HB⟩ := hrel
    obtain ⟨A1, c1, rfl⟩ := own_form HOW.out
    obtain rfl : k = M := by have := HM0.out; omega
    have hkM : ¬ (k : Int) < 0 := by omega
    obtain ⟨g1, cur1, rfl, _, _, _⟩ := own_some HOW.out (by omega)
    go_wp2_with (fail)
    refine (HC.out g1 c1 wr HOW.out).mono ?_; rintro e v5 ⟨rfl, hb⟩
    rw [HR.out]
    have HB5 := Lib.hid (HB.out.trans (hb.mono HB.out.size))
    clear hb
    go_wp2_with (fail)
    go_ret
    exact ⟨rfl, HB5.out⟩
set_option maxRecDepth 100000 in
set_option maxHeartbeats 4000000 in
theorem listC_big (n : Int) (q1 : 256 < n) (M : Nat) (hM : M = 0) (w : World) : Calls Try.prog 13 #[.int .i64 n] w fun e w' => e = .returned (.string (putHi (8 * M) ((4 : Nat) : Int) ++ zerS 4 ++ rowsL M)) ∧ Below w.heap.size w w' := by
  obtain ⟨x0, hx0⟩ : ∃ x, x = putHi (8 * M) ((4 : Nat) : Int) := ⟨_, rfl⟩
  obtain ⟨K, hK⟩ : ∃ K : Nat, K = 8 * M := ⟨_, rfl⟩
  have HN1 : Hid (∀ v, Calls Try.prog 28 #[.int .i64 0, .int .i64 4, .int .i64 0] v fun e w' => e = .returned (.agg #[.int .i64 0, .string x0]) ∧ Below v.heap.size v w') := Lib.hid (fun v => by have h := number_any 0 4 (8 * M) (by omega) v; rw [show ((8 * M : Nat) : Int) = 0 by omega, ← hx0] at h; exact h)
  have HX0 := Lib.hid (show pcs (ptsL M 0) = [.int .i64 0, .string x0] by rw [hx0]; rfl)
  obtain ⟨Z, hZ⟩ : ∃ Z : Nat, Z = 8 + 8 * M := ⟨_, rfl⟩
  have hZ8 : 8 = 8 + 8 * M := by omega
  have HC : Hid (∀ (g c : Nat) (v : World) (h : v.ownsRow w.heap.size 50 2 (.slice (some ⟨g, 0, none⟩) (M + 1) c) (M + 1) (pcs (ptsL M M))), Calls Try.prog 27 #[.int .i64 8, .slice (some ⟨g, 0, none⟩) (M + 1) c] v fun e w' => e = .returned (.string (cmS 8 (ptsL M M))) ∧ Below v.heap.size v w') := Lib.hid (fun (g c : Nat) (v : World) (h : v.ownsRow w.heap.size 50 2 (.slice (some ⟨g, 0, none⟩) (M + 1) c) (M + 1) (pcs (ptsL M M))) => compose_any 8 (M + 1) c g w.heap.size (ptsL M M) v (by omega) (ptsL_length _ _) (by omega) (by omega) (fun p hp => by have := ptsL_ok M M (Nat.le_refl _) p hp; omega) h)
  have HR := Lib.hid (show cmS 8 (ptsL M M) = putHi (8 * M) ((4 : Nat) : Int) ++ zerS 4 ++ rowsL M by
    have h := units_cm M M (Nat.le_refl _)
    rw [Nat.sub_self, ← hZ8] at h
    exact h.trans (ByteArray.append_empty (b := _)))
  generalize putHi (8 * M) ((4 : Nat) : Int) ++ zerS 4 ++ rowsL M = R at *
  obtain ⟨i0, hi0, hz0, hz1, hz2⟩ := info_parts infoPt
  have q0 : ¬ n < 0 := by omega
  have HM0 := Lib.hid hM
  clear hM
  clear hx0 hZ hK hZ8
  go_enter Try.func13, Try.ntmps13
  go_wp2_with (fail)
  refine (HN1.out _).mono ?_; rintro e v1 ⟨rfl, hb⟩
  have HB1 := Lib.hid hb; clear hb
  have HB := Lib.hid (HB1.out.alloc HB1.out.size (.cells #[.int .i64 0, .string x0] 50))
  have HOW : Hid ((v1.alloc (.cells #[.int .i64 0, .string x0] 50)).ownsRow w.heap.size 50 2 (.slice (some ⟨v1.heap.size, 0, none⟩) 1 1) 1 (pcs (ptsL M 0))) := Lib.hid (by rw [HX0.out]; exact World.ownsRow_lit v1 #[.int .i64 0, .string x0] 1 HB1.out.size (by decide) rfl)
  go_wp2_with (fail)
  go_loopw [3, 16] (fun v i wr => ∃ k : Nat, k ≤ M ∧ i = .int .i64 k ∧ Hid (wr.ownsRow w.heap.size 50 2 v (k + 1) (pcs (ptsL M k))) ∧ Hid (Below w.heap.size w wr)) (fun _ i _ => M - (intOf i).toNat)
  case atStart => exact ⟨0, by omega, rfl, HOW, HB⟩
  case round =>
    clear HB HOW HB1 HX0
    obtain ⟨k, hk, rfl, HOW, HB⟩ := hrel
    obtain ⟨A1, c1, rfl⟩ := own_form HOW.out
    obtain rfl : k = M := by have := HM0.out; omega
    have hkM : ¬ (k : Int) < 0 := by omega
    obtain ⟨g1, cur1, rfl, _, _, _⟩ := own_some HOW.out (by omega)
    go_wp2_with (fail)
    refine (HC.out g1 c1 wr HOW.out).mono ?_; rintro e v5 ⟨rfl, hb⟩
    rw [HR.out]
    have HB5 := Lib.hid (HB.out.trans (hb.mono HB.out.size))
    clear hb
    go_wp2_with (fail)
    go_ret
    exact ⟨rfl, HB5.out⟩
theorem list_any (n : Int) (w : World) : Calls Try.prog 13 #[.int .i64 n] w fun e w' => e = .returned (.string (listS n)) ∧ Below w.heap.size w w' := by
  unfold listS
  by_cases h0 : n < 0
  · rw [if_pos (Or.inl h0)]; exact listC_neg n h0 0 rfl w
  · by_cases h1 : 256 < n
    · rw [if_pos (Or.inr h1)]; exact listC_big n h1 0 rfl w
    · rw [if_neg (by omega)]
      obtain ⟨M, rfl⟩ : ∃ M : Nat, n = (M : Int) := ⟨n.toNat, by omega⟩
      exact listC_in M (by omega) w
end Go.Proofs.Ytgncllhhajjnlaa
