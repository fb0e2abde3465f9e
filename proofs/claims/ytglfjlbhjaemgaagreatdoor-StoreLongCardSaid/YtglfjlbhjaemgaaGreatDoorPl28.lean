/- Extents as a text: the code's Text. -/
import Derived.Test.YtglfjlbhjaemgaaGreatDoorPl07
import Derived.Test.YtglfjlbhjaemgaaGreatDoorPl09
import Derived.Test.YtglfjlbhjaemgaaGreatDoorPl01
namespace Go.Proofs.YtglfjlbhjaemgaaGreatDoor.Ext
open Go.RowKit
theorem app_list (a b : ByteArray) : (a ++ b).data.toList = a.data.toList ++ b.data.toList := by simp
theorem list_size (a : ByteArray) : a.data.toList.length = a.size := by simp
theorem bytes_ext {a b : ByteArray} (h : a.data.toList = b.data.toList) : a = b := by
  cases a with | mk a => cases b with | mk b => simp only at h; exact congrArg _ (Array.toList_inj.1 h)
theorem app_nil (a : ByteArray) : a ++ (⟨#[]⟩ : ByteArray) = a := by apply bytes_ext; rw [app_list]; simp
theorem putHi_size (x n : Nat) (h1 : 1 ≤ n) (h8 : n ≤ 8) : (putHi x n).size = n := by rw [putHi_yes h1 h8]; show (outB (hiG x n) n).toArray.size = n; rw [List.size_toArray, outB_length]
theorem putHi4 (x : Nat) : (putHi x 4).size = 4 := putHi_size x 4 (by decide) (by decide)
theorem builder_below {B b : Nat} {bs : List Value} {w w' : World} (h : Lib.IsBuilderF 207 5 B b bs w) (hb : Below w.heap.size w w') : Lib.IsBuilderF 207 5 B b bs w' := by
  have key : ∀ p, Lib.BuilderAtF 207 5 B b p bs w → Lib.BuilderAtF 207 5 B b p bs w' := by
    intro p hp
    have hlt := hp.lt
    obtain ⟨hB, v, hbk, hown, hne⟩ := hp
    exact ⟨hB, v, (hb.block b hlt).trans hbk, hown.kept (grown_of_below hb) (by cases hv : v.ownBlock <;> simp), hne⟩
  exact h.elim (fun x => .inl (key _ x)) (fun x => .inr (key _ x))
theorem builder_new (w : World) : Lib.IsBuilderF 207 5 w.heap.size w.heap.size [] (w.alloc (.cells #[.pointer none, .slice none 0 0] 207)) :=
  .inl ⟨Nat.le_refl _, .slice none 0 0, heap_alloc_new w _, World.ownsRowF_nil _ _ _ _, by simp [Value.ownBlock]⟩
/-- The bytes of one extent, of a list, of its text. -/
def exT (x : Ex) : ByteArray := putHi x.l.toNat 4 ++ putHi x.b.toNat 4 ++ putHi x.a.toNat 4
def catT : List Ex → ByteArray
  | [] => ⟨#[]⟩
  | x :: t => exT x ++ catT t
def textX (l : List Ex) : ByteArray := putHi l.length 4 ++ catT l
theorem catT_app : ∀ a b : List Ex, catT (a ++ b) = catT a ++ catT b
  | [], b => by show catT b = ⟨#[]⟩ ++ catT b; apply bytes_ext; rw [app_list]; rfl
  | x :: a, b => by
    show exT x ++ catT (a ++ b) = exT x ++ catT a ++ catT b
    rw [catT_app a b]
    simp only [ByteArray.append_assoc]
theorem exT_size (x : Ex) : (exT x).size = 12 := by unfold exT; rw [ByteArray.size_append, ByteArray.size_append, putHi4, putHi4, putHi4]
theorem catT_size : ∀ l : List Ex, (catT l).size = 12 * l.length
  | [] => rfl
  | x :: t => by show (exT x ++ catT t).size = _; rw [ByteArray.size_append, exT_size, catT_size t]; simp only [List.length_cons]; omega
/-- What stands in the builder when k extents, and j numbers of the next one, are written. -/
def accT (l : List Ex) (k : Nat) : ByteArray := putHi l.length 4 ++ catT (l.take k)
def pieceT (x : Ex) (j : Nat) : ByteArray := if j = 0 then ⟨#[]⟩ else if j = 1 then putHi x.l.toNat 4 else if j = 2 then putHi x.l.toNat 4 ++ putHi x.b.toNat 4 else exT x
theorem accT_next {l : List Ex} {k : Nat} {x : Ex} (h : l[k]? = some x) : accT l k ++ exT x = accT l (k + 1) := by
  unfold accT
  rw [List.take_add_one, h, Option.toList_some, catT_app, show catT [x] = exT x from app_nil _, ByteArray.append_assoc]
theorem accT_size (l : List Ex) (k : Nat) : (accT l k).size ≤ 4 + 12 * k := by
  unfold accT
  rw [ByteArray.size_append, putHi4, catT_size, List.length_take]
  omega
def numT (x : Ex) (j : Nat) : Int := if j = 0 then x.l else if j = 1 then x.b else x.a
theorem numT_in {x : Ex} (h : x.Fits) (j : Nat) : 0 ≤ numT x j ∧ numT x j ≤ 8192 := by
  unfold Ex.Fits at h
  unfold numT
  split
  · omega
  · split <;> omega
theorem pieceT_next (x : Ex) (j : Nat) (hj : j < 3) : pieceT x j ++ putHi (numT x j).toNat 4 = pieceT x (j + 1) := by
  match j, hj with
  | 0, _ => show (⟨#[]⟩ : ByteArray) ++ putHi x.l.toNat 4 = putHi x.l.toNat 4; apply bytes_ext; rw [app_list]; rfl
  | 1, _ => rfl
  | 2, _ => rfl
theorem pieceT_size (x : Ex) (j : Nat) : (pieceT x j).size ≤ 12 := by
  unfold pieceT
  split
  · exact Nat.zero_le _
  · split
    · rw [putHi4]; omega
    · split
      · rw [ByteArray.size_append, putHi4, putHi4]; omega
      · rw [exT_size]; omega
def TxAt (w : World) (l : List Ex) (i : Value) (v : World) : Prop :=
  ∃ k : Nat, i = .int .i64 k ∧ k ≤ l.length ∧ Lib.IsBuilderF 207 5 w.heap.size w.heap.size (Lib.byteCells (accT l k).data.toList) v ∧ Below w.heap.size w v
def TyAt (w : World) (l : List Ex) (k : Nat) (x : Ex) (i : Value) (v : World) : Prop :=
  ∃ j : Nat, i = .int .i64 j ∧ j ≤ 3 ∧ Lib.IsBuilderF 207 5 w.heap.size w.heap.size (Lib.byteCells (accT l k ++ pieceT x j).data.toList) v ∧ Below w.heap.size w v
def textV (l : List Ex) : Value := if goodB l then .tuple #[.string (textX l), .int .i64 0] else .tuple #[.string ⟨#[]⟩, .int .i64 70]
theorem index71_0 (p q r : Int) (v : World) : Sem.run Tryz.prog (Instr.index 258 (.agg #[.int .i64 p, .int .i64 q, .int .i64 r]) (.int .i64 0)) v = .ok (.int .i64 p) v := by kernel_rfl
theorem index71_1 (p q r : Int) (v : World) : Sem.run Tryz.prog (Instr.index 258 (.agg #[.int .i64 p, .int .i64 q, .int .i64 r]) (.int .i64 1)) v = .ok (.int .i64 q) v := by kernel_rfl
theorem index71_2 (p q r : Int) (v : World) : Sem.run Tryz.prog (Instr.index 258 (.agg #[.int .i64 p, .int .i64 q, .int .i64 r]) (.int .i64 2)) v = .ok (.int .i64 r) v := by kernel_rfl
theorem build71 (p q r : Int) (v : World) : Sem.run Tryz.prog (Instr.build 258 #[(0, .int .i64 p), (1, .int .i64 q), (2, .int .i64 r)]) v = .ok (.agg #[.int .i64 p, .int .i64 q, .int .i64 r]) v := by kernel_rfl
set_option maxRecDepth 100000 in
set_option maxHeartbeats 2000000 in
theorem text_any (A : Option Addr) (c : Nat) (l : List Ex) (w : World) (hl : Exts w A l) (hn : l.length ≤ 100000) :
    Calls Tryz.prog 120 #[.slice A l.length c] w fun e w' => e = .returned (textV l) ∧ Below w.heap.size w w' := by
  have HL := Lib.hid hl
  clear hl
  have HGA := Lib.hid (fun v (h : Exts v A l) => good_any A c l v h (by unfold maxLen; omega))
  unfold textV
  go_enter Tryz.func120, Tryz.ntmps120
  cases hg : goodB l with
  | false =>
    rw [hg] at HGA
    clear hg
    rw [if_neg (by simp)]
    go_wp2_with (fail)
    refine (HGA.out _ HL.out).mono ?_; rintro e w1 ⟨rfl, hb1⟩
    have HB1 := Lib.hid hb1
    clear hb1
    have hnt := not_false w1
    go_wp2_with (fail)
    go_ret2
    exact ⟨rfl, HB1.out⟩
  | true =>
    have HF := Lib.hid (good_asc hg).fits
    rw [hg] at HGA
    clear hg
    rw [if_pos rfl]
    have hcl : IntKind.u64.wrap (l.length : Int) = (l.length : Int) := by rw [IntKind.wrap_u64]; omega
    have p4 := putHi4 l.length
    go_wp2_with (fail)
    refine (HGA.out _ HL.out).mono ?_; rintro e w1 ⟨rfl, hb1⟩
    have HB1 := Lib.hid hb1
    clear hb1
    have hnt := not_true w1
    go_wp2_with (fail)
    have HB0 := Lib.hid (builder_new w1)
    have HBe := Lib.hid ((Below.refl w1.heap.size w1).alloc (Nat.le_refl _) (.cells #[.pointer none, .slice none 0 0] 207))
    refine (putBig_any l.length 4 _).mono ?_; rintro e w2 ⟨rfl, hb2⟩
    have HD := Lib.hid (builder_below HB0.out hb2)
    have HG := Lib.hid (HBe.out.trans (hb2.mono HBe.out.size))
    clear hb2 hnt
    go_wp2_with (fail)
    refine (Tryz.Builder_WriteString_k _ _ _ _ _ HD.out (by rw [p4]; simp) HG.out.size).mono ?_; rintro e w3 ⟨rfl, hB3, hb3, _⟩
    replace HG := Lib.hid (HG.out.trans hb3)
    have HD3 := Lib.hid (show Lib.IsBuilderF 207 5 w1.heap.size w1.heap.size (Lib.byteCells (accT l 0).data.toList) w3 by
      have e : accT l 0 = putHi l.length 4 := by unfold accT; rw [List.take_zero]; exact app_nil _
      rw [e]
      exact .inr (by simpa [Lib.strCells_eq] using hB3))
    clear hb3 hB3 HD hcl p4 HGA
    go_wp2_with (fail)
    go_loopw [19] (fun i v => TxAt w1 l i v) (fun i _ => l.length - (intOf i).toNat)
    case atStart => exact ⟨0, rfl, Nat.zero_le _, HD3.out, HG.out⟩
    case round =>
      obtain ⟨k, rfl, hk, hbd, hbl⟩ := hrel
      have HBD := Lib.hid hbd; have HBL := Lib.hid hbl
      clear hbd hbl HD3
      generalize wr = W at *
      by_cases hlt : k < l.length
      · have hki : (k : Int) < l.length := by omega
        obtain ⟨b, o, x, rfl, hat, wf, c0, c1, c2⟩ := ((HL.out.below HB1.out).below HBL.out).at_ hlt
        have HN := Lib.hid (accT_next hat)
        have hf := HF.out x (List.mem_of_getElem? hat)
        have HNUM := Lib.hid (numT_in hf)
        have HSZ := Lib.hid (accT_size l k)
        obtain ⟨hbx, hbb⟩ := one_box W x _ rfl
        have HD1 := Lib.hid (builder_below HBD.out hbb)
        have HB2 := Lib.hid (HBL.out.trans (hbb.mono HBL.out.size))
        have hbld := build71 x.l x.b x.a (W.alloc (.cells #[.int .i64 x.l, .int .i64 x.b, .int .i64 x.a] 158))
        clear hat wf hf hbb hbx
        go_wp2_with (fail)
        clear hbld
        generalize (W.alloc (.cells #[.int .i64 x.l, .int .i64 x.b, .int .i64 x.a] 158)) = W2 at *
        go_loopw [30] (fun i v => TyAt w1 l k x i v) (fun i _ => 3 - (intOf i).toNat)
        case atStart => exact ⟨0, rfl, by omega, by rw [show pieceT x 0 = ⟨#[]⟩ from rfl, app_nil]; exact HD1.out, HB2.out⟩
        case round =>
          obtain ⟨j, rfl, hj, hbd, hbl⟩ := hrel
          have HVD := Lib.hid hbd; have HVL := Lib.hid hbl
          clear hbd hbl
          by_cases hj3 : j < 3
          · have hji : (j : Int) < 3 := by omega
            have hj0 : (0 : Int) ≤ (j : Int) := by omega
            rcases (show j = 0 ∨ j = 1 ∨ j = 2 by omega) with rfl | rfl | rfl
            · have HPN := Lib.hid (pieceT_next x 0 (by omega))
              have HPS := Lib.hid (pieceT_size x 0)
              have hnum : 0 ≤ x.l ∧ x.l ≤ 8192 := HNUM.out 0
              have hcv : IntKind.u64.wrap x.l = x.l := by rw [IntKind.wrap_u64]; omega
              have HPB := Lib.hid (fun v => (by have := putBig_any x.l.toNat 4 v; rwa [Int.toNat_of_nonneg hnum.1] at this : Calls Tryz.prog 162 #[.int .u64 x.l, .int .i64 4] v fun e w' => e = .returned (.string (putHi x.l.toNat 4)) ∧ Below v.heap.size v w'))
              have q4 := putHi4 x.l.toNat
              have hix := index71_0 x.l x.b x.a wr
              clear hj hj3
              go_wp2_with (fail)
              refine (HPB.out _).mono ?_; rintro e w5 ⟨rfl, hb5⟩
              have HVD5 := Lib.hid (builder_below HVD.out hb5)
              have HVL5 := Lib.hid (HVL.out.trans (hb5.mono HVL.out.size))
              clear hb5
              go_wp2_with (fail)
              refine (Tryz.Builder_WriteString_k _ _ _ _ _ HVD5.out (by have := HSZ.out; have := HPS.out; rw [q4, Lib.byteCells_length, list_size, ByteArray.size_append]; omega) HVL5.out.size).mono ?_; rintro e w6 ⟨rfl, hB6, hb6, _⟩
              have HVL6 := Lib.hid (HVL5.out.trans hb6)
              rw [Lib.strCells_eq, ← Lib.byteCells_append, ← app_list] at hB6
              have HB6 := Lib.hid (show Lib.IsBuilderF 207 5 w1.heap.size w1.heap.size (Lib.byteCells (accT l k ++ pieceT x 1).data.toList) w6 by
                rw [← HPN.out, ← ByteArray.append_assoc]; exact .inr hB6)
              clear hB6 hb6
              go_wp2_with (fail)
              go_roundw
              case rel => exact ⟨1, by go_num, by omega, HB6.out, HVL6.out⟩
              case measure => simp [intOf]
            · have HPN := Lib.hid (pieceT_next x 1 (by omega))
              have HPS := Lib.hid (pieceT_size x 1)
              have hnum : 0 ≤ x.b ∧ x.b ≤ 8192 := HNUM.out 1
              have hcv : IntKind.u64.wrap x.b = x.b := by rw [IntKind.wrap_u64]; omega
              have HPB := Lib.hid (fun v => (by have := putBig_any x.b.toNat 4 v; rwa [Int.toNat_of_nonneg hnum.1] at this : Calls Tryz.prog 162 #[.int .u64 x.b, .int .i64 4] v fun e w' => e = .returned (.string (putHi x.b.toNat 4)) ∧ Below v.heap.size v w'))
              have q4 := putHi4 x.b.toNat
              have hix := index71_1 x.l x.b x.a wr
              clear hj hj3
              go_wp2_with (fail)
              refine (HPB.out _).mono ?_; rintro e w5 ⟨rfl, hb5⟩
              have HVD5 := Lib.hid (builder_below HVD.out hb5)
              have HVL5 := Lib.hid (HVL.out.trans (hb5.mono HVL.out.size))
              clear hb5
              go_wp2_with (fail)
              refine (Tryz.Builder_WriteString_k _ _ _ _ _ HVD5.out (by have := HSZ.out; have := HPS.out; rw [q4, Lib.byteCells_length, list_size, ByteArray.size_append]; omega) HVL5.out.size).mono ?_; rintro e w6 ⟨rfl, hB6, hb6, _⟩
              have HVL6 := Lib.hid (HVL5.out.trans hb6)
              rw [Lib.strCells_eq, ← Lib.byteCells_append, ← app_list] at hB6
              have HB6 := Lib.hid (show Lib.IsBuilderF 207 5 w1.heap.size w1.heap.size (Lib.byteCells (accT l k ++ pieceT x 2).data.toList) w6 by
                rw [← HPN.out, ← ByteArray.append_assoc]; exact .inr hB6)
              clear hB6 hb6
              go_wp2_with (fail)
              go_roundw
              case rel => exact ⟨2, by go_num, by omega, HB6.out, HVL6.out⟩
              case measure => simp [intOf]
            · have HPN := Lib.hid (pieceT_next x 2 (by omega))
              have HPS := Lib.hid (pieceT_size x 2)
              have hnum : 0 ≤ x.a ∧ x.a ≤ 8192 := HNUM.out 2
              have hcv : IntKind.u64.wrap x.a = x.a := by rw [IntKind.wrap_u64]; omega
              have HPB := Lib.hid (fun v => (by have := putBig_any x.a.toNat 4 v; rwa [Int.toNat_of_nonneg hnum.1] at this : Calls Tryz.prog 162 #[.int .u64 x.a, .int .i64 4] v fun e w' => e = .returned (.string (putHi x.a.toNat 4)) ∧ Below v.heap.size v w'))
              have q4 := putHi4 x.a.toNat
              have hix := index71_2 x.l x.b x.a wr
              clear hj hj3
              go_wp2_with (fail)
              refine (HPB.out _).mono ?_; rintro e w5 ⟨rfl, hb5⟩
              have HVD5 := Lib.hid (builder_below HVD.out hb5)
              have HVL5 := Lib.hid (HVL.out.trans (hb5.mono HVL.out.size))
              clear hb5
              go_wp2_with (fail)
              refine (Tryz.Builder_WriteString_k _ _ _ _ _ HVD5.out (by have := HSZ.out; have := HPS.out; rw [q4, Lib.byteCells_length, list_size, ByteArray.size_append]; omega) HVL5.out.size).mono ?_; rintro e w6 ⟨rfl, hB6, hb6, _⟩
              have HVL6 := Lib.hid (HVL5.out.trans hb6)
              rw [Lib.strCells_eq, ← Lib.byteCells_append, ← app_list] at hB6
              have HB6 := Lib.hid (show Lib.IsBuilderF 207 5 w1.heap.size w1.heap.size (Lib.byteCells (accT l k ++ pieceT x 3).data.toList) w6 by
                rw [← HPN.out, ← ByteArray.append_assoc]; exact .inr hB6)
              clear hB6 hb6
              go_wp2_with (fail)
              go_roundw
              case rel => exact ⟨3, by go_num, by omega, HB6.out, HVL6.out⟩
              case measure => simp [intOf]
          · obtain rfl : j = 3 := by omega
            have HBE := Lib.hid (show Lib.IsBuilderF 207 5 w1.heap.size w1.heap.size (Lib.byteCells (accT l (k + 1)).data.toList) wr by
              rw [← HN.out]; exact HVD.out)
            clear hj hj3
            go_wp2_with (fail)
            go_roundw
            case rel => exact ⟨k + 1, by go_num, by omega, HBE.out, HVL.out⟩
            case measure => simp [intOf]; omega
      · obtain rfl : k = l.length := by omega
        have HBE := Lib.hid (show Lib.IsBuilderF 207 5 w1.heap.size w1.heap.size (Lib.byteCells (textX l).data.toList) W by
          have := HBD.out
          unfold accT at this
          rw [List.take_length] at this
          exact this)
        go_wp2_with (fail)
        refine (Tryz.Builder_String_any_kk _ _ _ _ HBE.out HBL.out.size).mono ?_; rintro e w5 ⟨rfl, hb5⟩
        have HBL5 := Lib.hid (HB1.out.trans ((HBL.out.trans hb5).mono HB1.out.size))
        clear hb5
        go_wp2_with (fail)
        go_ret2
        exact ⟨rfl, HBL5.out⟩
end Go.Proofs.YtglfjlbhjaemgaaGreatDoor.Ext
