/- UnitsOrder. -/
import Derived.Test.YtacogfllnhopoaaUnR
namespace Go.Proofs.Ytacogfllnhopoaa
open Go.RowKit Go.Maps
theorem mod8_any (k : Int) (w : World) : Calls Try.prog 21 #[.int .i64 k, .int .i64 8] w fun e w' => e = .returned (.int .i64 (k % 8)) ∧ w = w' := mod_any k 8 (by omega) (by omega) w
theorem mod4_any (k : Int) (w : World) : Calls Try.prog 21 #[.int .i64 k, .int .i64 4] w fun e w' => e = .returned (.int .i64 (k % 4)) ∧ w = w' := mod_any k 4 (by omega) (by omega) w
theorem wpList_append_run {P : Program} (w : World) {ops : Array Oper} {rest : List Oper} {o : Oper} {a : Act} {Q : Exit → Act → World → Prop} (hgd : o.guard = none) (s x : Operand) (t : TypeId)
    (ho : o.op = .call { callee := .builtin .append, args := #[s, x], argTypes := #[t, t] }) {v vx v' : Value} {w' : World} (hs : a.eval s = v) (hx : a.eval x = vx)
    (hr : (Builtin.append_ #[t, t] o.type #[v, vx]).run P w = .ok v' w') (h : wpList P ops Q rest (a.put o.dst v') w') : wpList P ops Q (o :: rest) a w := by
  refine wpList_plain hgd fun K hK => ?_
  unfold Oper.wp execOp
  simp only [ho, resolve, invoke, builtin, Sem.run_bind, Sem.run_pure, Result.andThen_ok, List.map_toArray, List.map_cons, List.map_nil, hs, hx, hr]
  exact hK _ _ h
theorem hosts_none {l : Int} {hl : List ByteArray} (h : HostsOf noF l hl) : hl = [] := by
  cases hl with
  | nil => rfl
  | cons x t => exact absurd rfl ((h.iff x).1 (by simp))
set_option maxRecDepth 100000 in
set_option maxHeartbeats 2000000 in
theorem order_many (l : Int) (h : ByteArray) (A : Option Addr) (n c : Nat) (w : World) (hn : ¬ n ≤ 100) : Calls Try.prog 4 #[.int .i64 l, .string h, .slice A n c] w fun e w' => e = .returned (.bool true) ∧ Below w.heap.size w w' := by
  have hgt : (100 : Int) < (n : Int) := by omega
  go_enter Try.func4, Try.ntmps4
  go_wp2_with (first
    | (go_at_call 7; refine (ou_new _).mono ?_; rintro e w1 ⟨p, rfl, _, h1⟩; have H1 := Lib.hid h1; clear h1)
    | (go_at_call 19; refine (wakes_any _).mono ?_; rintro e w3 ⟨rfl, hb⟩; have H3 := Lib.hid hb; clear hb))
  go_ret
  exact ⟨rfl, H1.out.below.trans (H3.out.mono H1.out.below.size)⟩
set_option maxRecDepth 100000 in
set_option maxHeartbeats 2000000 in
theorem order_long (l : Int) (h : ByteArray) (A : Option Addr) (n c : Nat) (w : World) (hn : n ≤ 100) (hh : ¬ h.size ≤ 1000) : Calls Try.prog 4 #[.int .i64 l, .string h, .slice A n c] w fun e w' => e = .returned (.bool true) ∧ Below w.heap.size w w' := by
  have hgt : ¬ (100 : Int) < (n : Int) := by omega
  have hg2 : (1000 : Int) < (h.size : Int) := by omega
  go_enter Try.func4, Try.ntmps4
  go_wp2_with (first
    | (go_at_call 7; refine (ou_new _).mono ?_; rintro e w1 ⟨p, rfl, _, h1⟩; have H1 := Lib.hid h1; clear h1)
    | (go_at_call 19; refine (wakes_any _).mono ?_; rintro e w3 ⟨rfl, hb⟩; have H3 := Lib.hid hb; clear hb))
  go_ret
  exact ⟨rfl, H1.out.below.trans (H3.out.mono H1.out.below.size)⟩
set_option maxRecDepth 100000 in
set_option maxHeartbeats 2000000 in
theorem order_odd (l : Int) (h : ByteArray) (A : Option Addr) (n c : Nat) (w : World) (hn : n ≤ 100) (hh : h.size ≤ 1000) (hs : h.size ≤ maxLen) (hna : nameB h = false) : Calls Try.prog 4 #[.int .i64 l, .string h, .slice A n c] w fun e w' => e = .returned (.bool true) ∧ Below w.heap.size w w' := by
  have hgt : ¬ (100 : Int) < (n : Int) := by omega
  have hg2 : ¬ (1000 : Int) < (h.size : Int) := by omega
  go_enter Try.func4, Try.ntmps4
  go_wp2_with (first
    | (go_at_call 7; refine (ou_new _).mono ?_; rintro e w1 ⟨p, rfl, _, h1⟩; have H1 := Lib.hid h1; clear h1)
    | (go_at_call 20; refine (refName_any _ _ hs).mono ?_; rintro e w2 ⟨rfl, rfl⟩)
    | (go_at_call 19; refine (wakes_any _).mono ?_; rintro e w3 ⟨rfl, hb⟩; have H3 := Lib.hid hb; clear hb))
  go_ret
  exact ⟨rfl, H1.out.below.trans (H3.out.mono H1.out.below.size)⟩
set_option maxRecDepth 100000 in
set_option maxHeartbeats 2000000 in
theorem order_main (l : Int) (h : ByteArray) (A : Option Addr) (ks : List Int) (c : Nat) (w : World) (hA : Nums w A ks) (hn : ks.length ≤ 100) (hh : h.size ≤ 1000) (hs : h.size ≤ maxLen) (hna : nameB h = true) :
    Calls Try.prog 4 #[.int .i64 l, .string h, .slice A ks.length c] w fun e w' => e = .returned (.bool true) ∧ Below w.heap.size w w' := by
  have hgt : ¬ (100 : Int) < (ks.length : Int) := by omega
  have hg2 : ¬ (1000 : Int) < (h.size : Int) := by omega
  have HM8 := Lib.hid (mod8_any l)
  obtain ⟨K, hK⟩ : ∃ K, K = l % 8 := ⟨_, rfl⟩
  rw [← hK] at HM8
  have HK := Lib.hid (show 0 ≤ K ∧ K < 8 by omega)
  have HKV := Lib.hid (isKv (l := K) (h := h) (by omega) hs)
  have HA := Lib.hid hA; have HS := Lib.hid hs; have HNA := Lib.hid hna; have HN := Lib.hid hn
  clear hK hA hn hh
  go_enter Try.func4, Try.ntmps4
  go_wp2_with (first
    | (go_at_call 7; refine (ou_new _).mono ?_; rintro e w1 ⟨p, rfl, _, h1⟩; have H1 := Lib.hid h1; clear h1)
    | (go_at_call 20; refine (refName_any _ _ hs).mono ?_; rintro e w2 ⟨rfl, rfl⟩)
    | (go_at_call 21; refine (HM8.out _).mono ?_; rintro e w2 ⟨rfl, rfl⟩))
  clear hgt hg2 hs hna
  go_loopw [9, 10] (fun v i wr => ∃ (k : Nat) (zs : List Int) (B : Option Addr) (n d : Nat), k ≤ ks.length ∧ v = .slice B n d ∧ i = .int .i64 (k : Int) ∧ OrdAt w wr p (only1 K h zs) (.slice B n d) zs ∧ n = zs.length ∧ n ≤ 8) (fun _ i _ => ks.length - (intOf i).toNat)
  case atStart => exact ⟨0, [], none, 0, 0, by omega, rfl, rfl, by rw [only1_nil]; exact H1.out.ord, rfl, by omega⟩
  case round =>
    obtain ⟨k, zs, B, n, d, hkl, rfl, rfl, hord, hnz, hn8⟩ := hrel
    by_cases hk : k < ks.length
    · have hlt : (k : Int) < (ks.length : Int) := by omega
      obtain ⟨b, ob, rfl, hbl, hcs⟩ := (HA.out.below hord.below) (by omega)
      obtain ⟨x, hx⟩ : ∃ x, ks[k]? = some x := ⟨_, List.getElem?_eq_getElem hk⟩
      have hcx : wr.cell? ⟨b, ob + k, none⟩ = some (.int .i64 x) := hcs k x hx
      have HM4 := Lib.hid (mod4_any x)
      obtain ⟨y, hy⟩ : ∃ y, y = x % 4 := ⟨_, rfl⟩
      rw [← hy] at HM4
      have hy4 : 0 ≤ y ∧ y < 4 := by omega
      obtain ⟨z, hz⟩ : ∃ z, z = 1 + y := ⟨_, rfl⟩
      have hwz : IntKind.i64.wrap (1 + y) = z := by rw [hz]; exact IntWalk.i64_in _ (by omega)
      have hz4 : 1 ≤ z ∧ z ≤ 4 := by omega
      have HAB := Lib.hid (only1_addB (zs := zs) HK.out HNA.out hz4)
      have HAF := Lib.hid (only1_addF (l := K) (h := h) (zs := zs) (x := z))
      have HAD := Lib.hid (ord_add hord K h z HKV.out HS.out)
      have hwr : IntKind.i64.wrap ((k : Int) + 1) = (k : Int) + 1 := IntWalk.i64_in _ (by omega)
      have HORD := Lib.hid hord
      have HNZ := Lib.hid hnz
      have HKK := Lib.hid (show k + 1 ≤ ks.length from hk)
      clear hy hz hy4 hz4 hbl hcs hx hord hkl hk hnz
      rcases Nat.eq_zero_or_pos n with h0 | hpos
      · subst h0
        have HNE := Lib.hid (show ¬ zs.getLast? = some z by rw [List.length_eq_zero_iff.1 HNZ.out.symm]; simp)
        have hle8 : ¬ (8 : Int) < 1 := by omega
        have hB : addB (only1 K h zs) K h z = true := by rw [HAB.out]; simpa using HNE.out
        rw [HAF.out, hB, if_pos rfl] at HAD
        have HP8 := Lib.hid (show push8 zs z = zs ++ [z] by unfold push8; rw [if_neg (by have := HNZ.out; omega)])
        rw [HP8.out] at HAD
        clear hB HAF HAB
        go_wp2_with (first
          | (go_at_call 21; refine (HM4.out _).mono ?_; rintro e w5 ⟨rfl, rfl⟩)
          | (go_at_call 8; refine HAD.out.mono ?_; rintro e w2 ⟨rfl, h2⟩; have HB2 := Lib.hid ((h2.more ((Below.refl _ _).alloc (Nat.le_refl _) (.cells #[.int .i64 z] 3))).push (s := w2.heap.size) (x := z) (by have := HNZ.out; omega) ((Blk.new w2 3 _).cell 0) 41); obtain ⟨A3, c3, w3, hr, h3⟩ := HB2.out; have H3 := Lib.hid h3; clear h3; clear HB2)
          | (at_builtin; refine wpList_append_run _ rfl (.tmp 76) (.tmp 78) 41 rfl rfl rfl hr ?_; clear hr))
        go_roundw
        case rel => exact ⟨k + 1, zs ++ [z], A3, 0 + 1, c3, HKK.out, rfl, by go_num, H3.out, by rw [List.length_append, List.length_singleton, ← HNZ.out], by omega⟩
        case measure => simp [intOf]; omega
      by_cases h8 : n = 8
      · subst h8
        obtain ⟨g, og, rfl, hqq, hcell⟩ := HORD.out.ro.at_ (by have := HNZ.out; omega)
        clear hqq
        obtain ⟨yl, hyl⟩ : ∃ yl, zs[7]? = some yl := ⟨_, List.getElem?_eq_getElem (by have := HNZ.out; omega)⟩
        have hcl : wr.cell? ⟨g, og + (7), none⟩ = some (.int .i64 yl) := hcell _ _ hyl
        have hlast : zs.getLast? = some yl := by rw [List.getLast?_eq_getElem?, ← HNZ.out]; exact hyl
        have HLA := Lib.hid hlast
        clear hcell hyl hlast
        by_cases hyz : yl = z
        · subst hyz
          have hB : addB (only1 K h zs) K h yl = false := by rw [HAB.out, HLA.out]; simp
          rw [HAF.out, hB, if_neg (by simp)] at HAD
          clear hB HAF HAB
          go_wp2_with (first
            | (go_at_call 21; refine (HM4.out _).mono ?_; rintro e w5 ⟨rfl, rfl⟩)
            | (go_at_call 8; refine HAD.out.mono ?_; rintro e w2 ⟨rfl, h2⟩; have H2 := Lib.hid h2; clear h2))
          go_roundw
          case rel => exact ⟨k + 1, zs, _, 8, d, HKK.out, rfl, by go_num, H2.out, HNZ.out, by omega⟩
          case measure => simp [intOf]; omega
        have hne : (yl == z) = false := by simpa using hyz
        have hne2 : (yl != z) = true := by simpa using hyz
        have HNE := Lib.hid (show ¬ zs.getLast? = some z by rw [HLA.out]; simpa using hyz)
        clear hyz
        have hB : addB (only1 K h zs) K h z = true := by rw [HAB.out]; simpa using HNE.out
        rw [HAF.out, hB, if_pos rfl] at HAD
        have HP8 := Lib.hid (show push8 zs z = (zs ++ [z]).drop 1 by unfold push8; rw [if_pos (by have := HNZ.out; omega), List.drop_append_of_le_length (by have := HNZ.out; omega)])
        rw [HP8.out] at HAD
        clear hB HAF HAB
        go_wp2_with (first
          | (go_at_call 21; refine (HM4.out _).mono ?_; rintro e w5 ⟨rfl, rfl⟩)
          | fail)
        refine HAD.out.mono ?_; rintro e w2 ⟨rfl, h2⟩; have HB2 := Lib.hid ((h2.more ((Below.refl _ _).alloc (Nat.le_refl _) (.cells #[.int .i64 z] 3))).push (s := w2.heap.size) (x := z) (by have := HNZ.out; omega) ((Blk.new w2 3 _).cell 0) 41); obtain ⟨A3, c3, w3, hr, h3⟩ := HB2.out; have H3 := Lib.hid h3; clear h3; obtain ⟨g3, o3, rfl, hq1, hq2⟩ := H3.out.ro.at_ (by simp); clear hq1 hq2; obtain ⟨h4, hc1, hnc, hq3⟩ := H3.out.cut (by rw [List.length_append, List.length_singleton]; have := HNZ.out; omega); clear hq3; have H4 := Lib.hid h4; clear h4; have hi1 : (1 : Int) ≤ (c3 : Int) := (by omega); have hi2 : (9 : Int) ≤ (c3 : Int) := (by omega); have hi3 : ¬ c3 = 1 := (by omega); have hi4 : ¬ c3 - 1 = 0 := (by omega); clear HB2
        go_wp2_with (first | (at_builtin; refine wpList_append_run _ rfl (.tmp 76) (.tmp 78) 41 rfl rfl rfl hr ?_; clear hr))
        go_roundw
        case rel => exact ⟨k + 1, (zs ++ [z]).drop 1, _, 8, _, HKK.out, rfl, by go_num, H4.out, by rw [List.length_drop, List.length_append, List.length_singleton, ← HNZ.out], by omega⟩
        case measure => simp [intOf]; omega
      have hgt0 : ((n : Int) == 0) = false := by simpa using (show ¬ (n : Int) = 0 by omega)
      have hw1 : IntKind.i64.wrap ((n : Int) - 1) = (n : Int) - 1 := IntWalk.i64_in _ (by omega)
      have hge : (0 : Int) ≤ (n : Int) - 1 := by omega
      have hlt1 : (n : Int) - 1 < (n : Int) := by omega
      have htn : ((n : Int) - 1).toNat = n - 1 := by omega
      have hn7 : n + 1 ≤ 8 := by omega
      have hle8 : ¬ (8 : Int) < (n : Int) + 1 := by omega
      obtain ⟨g, og, rfl, hqq, hcell⟩ := HORD.out.ro.at_ (by have := HNZ.out; omega)
      clear hqq
      obtain ⟨yl, hyl⟩ : ∃ yl, zs[n - 1]? = some yl := ⟨_, List.getElem?_eq_getElem (by have := HNZ.out; omega)⟩
      have hcl : wr.cell? ⟨g, og + (n - 1), none⟩ = some (.int .i64 yl) := hcell _ _ hyl
      have hlast : zs.getLast? = some yl := by rw [List.getLast?_eq_getElem?, ← HNZ.out]; exact hyl
      have HLA := Lib.hid hlast
      clear hcell hyl hlast
      by_cases hyz : yl = z
      · subst hyz
        have hB : addB (only1 K h zs) K h yl = false := by rw [HAB.out, HLA.out]; simp
        rw [HAF.out, hB, if_neg (by simp)] at HAD
        clear hB HAF HAB h8
        go_wp2_with (first
          | (go_at_call 21; refine (HM4.out _).mono ?_; rintro e w5 ⟨rfl, rfl⟩)
          | (go_at_call 8; refine HAD.out.mono ?_; rintro e w2 ⟨rfl, h2⟩; have H2 := Lib.hid h2; clear h2))
        go_roundw
        case rel => exact ⟨k + 1, zs, _, n, d, HKK.out, rfl, by go_num, H2.out, HNZ.out, by omega⟩
        case measure => simp [intOf]; omega
      have hne : (yl == z) = false := by simpa using hyz
      have hne2 : (yl != z) = true := by simpa using hyz
      have HNE := Lib.hid (show ¬ zs.getLast? = some z by rw [HLA.out]; simpa using hyz)
      clear hyz
      have hB : addB (only1 K h zs) K h z = true := by rw [HAB.out]; simpa using HNE.out
      rw [HAF.out, hB, if_pos rfl] at HAD
      have HP8 := Lib.hid (show push8 zs z = zs ++ [z] by unfold push8; rw [if_neg (by have := HNZ.out; omega)])
      rw [HP8.out] at HAD
      clear hB HAF HAB
      go_wp2_with (first
        | (go_at_call 21; refine (HM4.out _).mono ?_; rintro e w5 ⟨rfl, rfl⟩)
        | (go_at_call 8; refine HAD.out.mono ?_; rintro e w2 ⟨rfl, h2⟩; have HB2 := Lib.hid ((h2.more ((Below.refl _ _).alloc (Nat.le_refl _) (.cells #[.int .i64 z] 3))).push (s := w2.heap.size) (x := z) (by have := HNZ.out; omega) ((Blk.new w2 3 _).cell 0) 41); obtain ⟨A3, c3, w3, hr, h3⟩ := HB2.out; have H3 := Lib.hid h3; clear h3; clear HB2)
        | (at_builtin; refine wpList_append_run _ rfl (.tmp 76) (.tmp 78) 41 rfl rfl rfl hr ?_; clear hr))
      go_roundw
      case rel => exact ⟨k + 1, zs ++ [z], A3, n + 1, c3, HKK.out, rfl, by go_num, H3.out, by rw [List.length_append, List.length_singleton, ← HNZ.out], by omega⟩
      case measure => simp [intOf]; omega
    · obtain rfl : k = ks.length := by omega
      have HORD := Lib.hid hord
      have HNZ := Lib.hid hnz
      have HWT := Lib.hid (ou_wait hord.ou HKV.out)
      rw [only1_at, ← hnz] at HWT
      clear hord hnz hk hkl
      go_wp2_with (first
        | (go_at_call 14; refine HWT.out.mono ?_; rintro e w5 ⟨rfl, rfl⟩)
        | fail)
      go_loopw [13] (fun i vr => ∃ (j : Nat), j ≤ n ∧ i = .int .i64 (j : Int) ∧ OrdAt w vr p (only1 K h (zs.drop j)) (.slice B n d) zs) (fun i _ => n - (intOf i).toNat)
      case atStart => exact ⟨0, by omega, rfl, HORD⟩
      case round =>
        obtain ⟨j, hjn, rfl, ho⟩ := hrel
        by_cases hj : j < n
        · obtain ⟨g, og, rfl, hqq, hcell⟩ := ho.ro.at_ (by have := HNZ.out; omega)
          obtain ⟨x, hx⟩ : ∃ x, zs[j]? = some x := ⟨_, List.getElem?_eq_getElem (by have := HNZ.out; omega)⟩
          have hcx : wr.cell? ⟨g, og + j, none⟩ = some (.int .i64 x) := hcell _ _ hx
          have hdr : zs.drop j = x :: zs.drop (j + 1) := by
            obtain ⟨hjl, hjx⟩ := List.getElem?_eq_some_iff.1 hx
            rw [List.drop_eq_getElem_cons hjl, hjx]
          have HTK := Lib.hid (ord_take ho K h HKV.out)
          rw [only1_take, only1_at, hdr] at HTK
          have hjlt : (j : Int) < (n : Int) := by omega
          have hwj : IntKind.i64.wrap ((j : Int) + 1) = (j : Int) + 1 := IntWalk.i64_in _ (by omega)
          have HJ := Lib.hid (show j + 1 ≤ n from hj)
          have HX := Lib.hid hx
          have HC5 : Hid (∀ v : World, Ro v w.heap.size (.slice (some ⟨g, og, none⟩) n d) zs → v.cell? ⟨g, og + j, none⟩ = some (.int .i64 x)) := fun v hv => by
            obtain ⟨g', o', e1, _, e2⟩ := hv.at_ (by have := HNZ.out; omega)
            cases e1
            exact e2 _ _ hx
          clear hqq hcell hx ho hdr hjn hj
          go_wp2_with (first | (go_at_call 10; refine HTK.out.mono ?_; rintro e w5 ⟨rfl, h5⟩; have H5 := Lib.hid h5; have hc5 := HC5.out w5 h5.ro; clear h5) | fail)
          go_roundw
          case rel => exact ⟨j + 1, HJ.out, by go_num, H5.out⟩
          case measure => simp [intOf]; omega
        · obtain rfl : j = n := by omega
          have hz0 : zs.drop j = [] := List.drop_eq_nil_of_le (by have := HNZ.out; omega)
          rw [hz0, only1_nil] at ho
          have HTK := Lib.hid (ou_take ho.ou K h HKV.out)
          have HTF := Lib.hid (show takeF noF K h = noF from upd_noop rfl)
          rw [HTF.out] at HTK
          clear hz0 hj hjn ho HWT HORD
          go_wp2_with (first
            | (go_at_call 10; refine HTK.out.mono ?_; rintro e w5 ⟨rfl, h5⟩; have H5 := Lib.hid h5; have HW5 := Lib.hid (ou_wait h5 HKV.out); have HH5 := Lib.hid (ou_hosts h5 K Small.zero (by omega)); clear h5)
            | (go_at_call 14; refine HW5.out.mono ?_; rintro e w6 ⟨rfl, rfl⟩)
            | (go_at_call 17; refine HH5.out.mono ?_; rintro e w7 ⟨A7, c7, hl, rfl, hhl, hb7, _⟩; have hl0 := hosts_none hhl; subst hl0; have H7 := Lib.hid hb7; clear hb7 hhl)
            | (go_at_call 19; refine (wakes_any _).mono ?_; rintro e w8 ⟨rfl, hb⟩; have H8 := Lib.hid hb; clear hb))
          go_ret
          exact ⟨rfl, H5.out.below.trans ((H7.out.mono H5.out.below.size).trans (H8.out.mono (Nat.le_trans H5.out.below.size H7.out.size)))⟩
theorem order_any (l : Int) (h : ByteArray) (A : Option Addr) (ks : List Int) (c : Nat) (w : World) (hA : Nums w A ks) (hs : h.size ≤ maxLen) :
    Calls Try.prog 4 #[.int .i64 l, .string h, .slice A ks.length c] w fun e w' => e = .returned (.bool true) ∧ Below w.heap.size w w' := by
  by_cases hn : ks.length ≤ 100
  · by_cases hh : h.size ≤ 1000
    · cases hna : nameB h with
      | false => exact order_odd l h A _ c w hn hh hs hna
      | true => exact order_main l h A ks c w hA hn hh hs hna
    · exact order_long l h A _ c w hn hh
  · exact order_many l h A _ c w hn
end Go.Proofs.Ytacogfllnhopoaa
