/- Extents as a text: the document's Text. -/
import Derived.Test.YtdopcliicjmjeaaExBy
import Derived.Test.YtdopcliicjmjeaaPutRefs
namespace Go.Proofs.Ytdopcliicjmjeaa
open Go.RowKit
theorem wpList_append_str {ops : Array Oper} {rest : List Oper} {o : Oper} {a : Act} {w : World} {Q : Exit → Act → World → Prop} (hgd : o.guard = none) (sl x : Operand)
    (ho : o.op = .call { callee := .builtin .append, args := #[sl, x], argTypes := #[62, 9] }) (B g cap : Nat) (xs s : ByteArray) (hs : a.eval sl = .slice (some ⟨g, 0, none⟩) xs.size cap) (hown : OwnB w B g cap xs)
    (hx : a.eval x = .string s) (hn : xs.size + s.size ≤ 100000000) (hB : B ≤ w.heap.size)
    (h : ∀ g' cap' w', OwnB w' B g' cap' (xs ++ s) → Below B w w' → wpList Try.prog ops Q rest (a.put o.dst (.slice (some ⟨g', 0, none⟩) (xs ++ s).size cap')) w') : wpList Try.prog ops Q (o :: rest) a w := by
  refine wpList_plain hgd fun K hK => ?_
  obtain ⟨g', cap', w', hr, h2, h3⟩ := append_str w B g cap xs s o.type hown hB hn
  unfold Oper.wp execOp
  simp only [ho, resolve, invoke, builtin, Sem.run_bind, Sem.run_pure, Result.andThen_ok, List.map_toArray, List.map_cons, List.map_nil, hs, hx, hr]
  exact hK _ _ (h g' cap' w' h2 h3)
def RtAt (w : World) (l : List Ex) (v i : Value) (W : World) : Prop :=
  ∃ (k g cap : Nat), i = .int .i64 k ∧ k ≤ l.length ∧ v = .slice (some ⟨g, 0, none⟩) (accT l k).size cap ∧ OwnB W w.heap.size g cap (accT l k) ∧ Below w.heap.size w W
set_option maxRecDepth 100000 in
set_option maxHeartbeats 2000000 in
theorem refText_any (A : Option Addr) (c : Nat) (l : List Ex) (w : World) (hl : Exts w A l) :
    Calls Try.prog 24 #[.slice A l.length c] w fun e w' => e = .returned (textV l) ∧ Below w.heap.size w w' := by
  have HL := Lib.hid hl
  clear hl
  have HGA := Lib.hid (fun v (h : Exts v A l) => refGood_any A c l v h)
  unfold textV
  go_enter Try.func24, Try.ntmps24
  cases hg : goodB l with
  | false =>
    rw [hg] at HGA
    clear hg
    rw [if_neg (by simp)]
    go_wp2_with (fail)
    refine (HGA.out _ HL.out).mono ?_; rintro e w1 ⟨rfl, hb1⟩
    have HB1 := Lib.hid hb1
    clear hb1
    have hnt := not_false w1
    go_wp2_with (fail)
    go_ret2
    exact ⟨rfl, HB1.out⟩
  | true =>
    have HF := Lib.hid (good_asc hg).fits
    have hn := good_length hg
    rw [hg] at HGA
    clear hg
    rw [if_pos rfl]
    have hcl : IntKind.u64.wrap (l.length : Int) = (l.length : Int) := by rw [IntKind.wrap_u64]; omega
    go_wp2_with (fail)
    refine (HGA.out _ HL.out).mono ?_; rintro e w1 ⟨rfl, hb1⟩
    have HB1 := Lib.hid hb1
    clear hb1
    have hnt := not_true w1
    go_wp2_with (fail)
    refine (refPutBig_any l.length 4 _ (by omega)).mono ?_; rintro e w2 ⟨rfl, hb2⟩
    have H1 := Lib.hid (HB1.out.trans (hb2.mono HB1.out.size)); clear hb2 hnt hcl
    have hcv := Lib.run_convert_string_bytes (P := Try.prog) w2 9 62 5 (putHi l.length 4) Try.underlying9 Try.underlying62 Try.underlying5
    have HOW := Lib.hid (own_conv w2 (putHi l.length 4) w.heap.size H1.out.size)
    have HBW := Lib.hid (H1.out.trans ((bytesWorld_below w2 (putHi l.length 4)).mono H1.out.size))
    have e0 : accT l 0 = putHi l.length 4 := by unfold accT; rw [List.take_zero]; exact app_nil _
    have HE0 := Lib.hid e0; clear e0
    go_wp2_with (fail)
    clear hcv
    go_loopw [4, 5] (fun v i wr => RtAt w l v i wr) (fun _ i _ => l.length - (intOf i).toNat)
    case atStart => exact ⟨0, w2.heap.size, _, rfl, Nat.zero_le _, by rw [HE0.out], by rw [HE0.out]; exact HOW.out, HBW.out⟩
    case round =>
      obtain ⟨k, g, cap, rfl, hk, rfl, hown, hbl⟩ := hrel
      have HO := Lib.hid hown; clear hown
      have HB2 := Lib.hid hbl; clear hbl
      by_cases hlt : k < l.length
      · have hki : (k : Int) < l.length := by omega
        obtain ⟨b, o, x, rfl, hat, wf, c0, c1, c2⟩ := (HL.out.below HB2.out).at_ hlt
        have hbw : b < w.heap.size := HL.out.lt (by omega) _ rfl
        have HN := Lib.hid (accT_next hat)
        have hf := HF.out x (List.mem_of_getElem? hat)
        have HSZ := Lib.hid (accT_size l k)
        unfold Ex.Fits at hf
        have HPB := Lib.hid (fun (z : Int) (hz : 0 ≤ z ∧ z ≤ 8192) v => (by have := refPutBig_any z.toNat 4 v (by omega); rwa [Int.toNat_of_nonneg hz.1] at this : Calls Try.prog 38 #[.int .u64 z, .int .i64 4] v fun e w' => e = .returned (.string (putHi z.toNat 4)) ∧ Below v.heap.size v w'))
        have hv0 : IntKind.u64.wrap x.l = x.l := by rw [IntKind.wrap_u64]; omega
        have hv1 : IntKind.u64.wrap x.b = x.b := by rw [IntKind.wrap_u64]; omega
        have hv2 : IntKind.u64.wrap x.a = x.a := by rw [IntKind.wrap_u64]; omega
        have HFF := Lib.hid hf
        have q0 := putHi4 x.l.toNat
        have q1 := putHi4 x.b.toNat
        have q2 := putHi4 x.a.toNat
        have HC := Lib.hid (fun v (h : Below w.heap.size wr v) => (⟨(h.cell (p := ⟨b, o + k * 3, none⟩) hbw).trans c0, (h.cell (p := ⟨b, o + k * 3 + 1, none⟩) hbw).trans c1, (h.cell (p := ⟨b, o + k * 3 + 2, none⟩) hbw).trans c2⟩ : v.cell? ⟨b, o + k * 3, none⟩ = some (.int .i64 x.l) ∧ v.cell? ⟨b, o + k * 3 + 1, none⟩ = some (.int .i64 x.b) ∧ v.cell? ⟨b, o + k * 3 + 2, none⟩ = some (.int .i64 x.a)))
        clear hat wf hf
        obtain ⟨X, hX⟩ : ∃ X, accT l k = X := ⟨_, rfl⟩
        rw [hX] at HO HN HSZ ⊢
        clear hX
        obtain ⟨X1, hX1⟩ : ∃ X1, X ++ putHi x.l.toNat 4 = X1 := ⟨_, rfl⟩
        obtain ⟨X2, hX2⟩ : ∃ X2, X1 ++ putHi x.b.toNat 4 = X2 := ⟨_, rfl⟩
        have HX1 := Lib.hid hX1; have HX2 := Lib.hid hX2
        have HX3 := Lib.hid (show X2 ++ putHi x.a.toNat 4 = accT l (k + 1) by
          rw [← HN.out, ← hX2, ← hX1]; unfold exT; simp only [ByteArray.append_assoc])
        have HS1 := Lib.hid (show X1.size ≤ 4 + 12 * k + 4 by rw [← hX1, ByteArray.size_append, q0]; have := HSZ.out; omega)
        have HS2 := Lib.hid (show X2.size ≤ 4 + 12 * k + 8 by rw [← hX2, ByteArray.size_append, q1]; have := HS1.out; omega)
        clear hX1 hX2
        go_wp2_with (fail)
        refine (HPB.out x.l (by have := HFF.out; omega) _).mono ?_; rintro e w4 ⟨rfl, hb4⟩
        have HO4 := Lib.hid (HO.out.below hb4)
        have HB4 := Lib.hid (show Below w.heap.size wr w4 from hb4.mono HB2.out.size)
        have HS4 := Lib.hid (show w.heap.size ≤ w4.heap.size from Nat.le_trans HB2.out.size hb4.size)
        clear hb4 c0 c1 c2
        obtain ⟨c0, c1, c2⟩ := HC.out _ HB4.out
        have HZ := Lib.hid (show X.size + (putHi x.l.toNat 4).size ≤ 100000000 by have := HSZ.out; omega)
        go_wp2_with (at_builtin; refine wpList_append_str rfl (.tmp 20) (.tmp 27) rfl w.heap.size g cap X (putHi x.l.toNat 4) rfl HO4.out rfl HZ.out HS4.out ?_; intro g5 cap5 w5 hown5 hb5; rw [HX1.out] at hown5 ⊢; have HO5 := Lib.hid hown5; have HB5 := Lib.hid (HB4.out.trans hb5); have HS5 := Lib.hid (Nat.le_trans HS4.out hb5.size); clear hown5 hb5 c0 c1 c2; obtain ⟨c0, c1, c2⟩ := HC.out _ HB5.out)
        refine (HPB.out x.b (by have := HFF.out; omega) _).mono ?_; rintro e w6 ⟨rfl, hb6⟩
        have HO6 := Lib.hid (HO5.out.below hb6)
        have HB6 := Lib.hid (HB5.out.trans (hb6.mono HS5.out))
        have HS6 := Lib.hid (Nat.le_trans HS5.out hb6.size)
        clear hb6 c0 c1 c2 HZ
        obtain ⟨c0, c1, c2⟩ := HC.out _ HB6.out
        have HZ := Lib.hid (show X1.size + (putHi x.b.toNat 4).size ≤ 100000000 by have := HS1.out; omega)
        go_wp2_with (at_builtin; refine wpList_append_str rfl (.tmp 29) (.tmp 36) rfl w.heap.size g5 cap5 X1 (putHi x.b.toNat 4) rfl HO6.out rfl HZ.out HS6.out ?_; intro g7 cap7 w7 hown7 hb7; rw [HX2.out] at hown7 ⊢; have HO7 := Lib.hid hown7; have HB7 := Lib.hid (HB6.out.trans hb7); have HS7 := Lib.hid (Nat.le_trans HS6.out hb7.size); clear hown7 hb7 c0 c1 c2; obtain ⟨c0, c1, c2⟩ := HC.out _ HB7.out)
        refine (HPB.out x.a (by have := HFF.out; omega) _).mono ?_; rintro e w8 ⟨rfl, hb8⟩
        have HO8 := Lib.hid (HO7.out.below hb8)
        have HB8 := Lib.hid (HB7.out.trans (hb8.mono HS7.out))
        have HS8 := Lib.hid (Nat.le_trans HS7.out hb8.size)
        clear hb8 c0 c1 c2 HZ
        have HZ := Lib.hid (show X2.size + (putHi x.a.toNat 4).size ≤ 100000000 by have := HS2.out; omega)
        go_wp2_with (at_builtin; refine wpList_append_str rfl (.tmp 38) (.tmp 45) rfl w.heap.size g7 cap7 X2 (putHi x.a.toNat 4) rfl HO8.out rfl HZ.out HS8.out ?_; intro g9 cap9 w9 hown9 hb9; rw [HX3.out] at hown9 ⊢; have HO9 := Lib.hid hown9; have HB9 := Lib.hid (HB8.out.trans hb9); clear hown9 hb9)
        go_roundw
        case rel => exact ⟨k + 1, g9, cap9, by go_num, by omega, rfl, HO9.out, HB2.out.trans HB9.out⟩
        case measure => simp [intOf]; omega
      · obtain rfl : k = l.length := by omega
        have hacc : accT l l.length = textX l := by unfold accT textX; rw [List.take_length]
        have hcv2 := bytes_str (cap := cap) HO.out.at_
        rw [hacc] at hcv2
        have HAC := Lib.hid hacc
        rw [hacc]
        clear hacc
        go_wp2
        go_ret2
        exact ⟨rfl, HB2.out⟩
end Go.Proofs.Ytdopcliicjmjeaa
