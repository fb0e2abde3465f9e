/- ResvStruck: for every input the call returns true and leaves its arguments as they were; no condition: what the listed variables hold is tied to the text of the program. -/
import Derived.Test.YtgekadfkokkapaaDoorReSk
import Derived.Test.YtgekadfkokkapaaDoorReTo
import Derived.Test.YtgekadfkokkapaaDoorAcL
import Derived.Test.YtgekadfkokkapaaDoorAcP
import Derived.ProofKit
import Derived.Test.YtgekadfkokkapaaDoorCards
import Derived.Test.YtgekadfkokkapaaDoorTie
import Derived.LaidMore
import Derived.Lay
import Derived.OpenShut
import Derived.Stop.Joined
import Derived.SevenTiedAt
import Derived.ShutString
namespace Go.Proofs.YtgekadfkokkapaaDoor
open Go.ChangeShapes Go.WideShapes Go.ChangeAt Go.RowKit
open Go.ChangeMaps (open_string shut_string)
abbrev laidResvStruck : List (String × DataW Unit) := [("headgate/access.rules", Rows.laid_headgate_access_rules)]
theorem doorResvStruck (os : Os) (args : Array Value) : laidMetH Tryd.prog laidResvStruck ((World.doorLaid Tryd.prog 21 os).forCall (fun _ _ => 0) ⟨#[], args, []⟩).memory :=
  laidMetH_of_parts3 (fuel := 8) (laidMet_of_run' 8 (by kernel_rfl) (by kernel_rfl)) (by kernel_rfl) (by kernel_rfl)
set_option maxRecDepth 100000 in
theorem resvStruck_lifted (os : Os) (started : os.Started) (H : Type) (enc : TypeId × Value → H) :
    ReturnsInHanded {} Tryd.checked os 9 .any (fun w args => (Rows.resvStruckSpec.pre enc Tryd.prog Tryd.f9 [] false w args ∧ laidMetH Tryd.prog laidResvStruck w) ∧ sizedMet enc Tryd.prog Tryd.f9 (OpenSpec.ofChange Rows.resvStruckSpec) false w args)
      (Rows.resvStruckSpec.post enc Tryd.prog Tryd.f9 false true false false) := by
  refine returnsInHanded_of_change_and (C := Tryd.checked) (X := fun w _ => laidMetH Tryd.prog laidResvStruck w) (fun _ _ _ hh h => h.of_heap hh) Tryd.own started (by kernel_rfl) Tryd.func9
    (ChangeSpec.witness_shaped (enc := enc) (C := Tryd.checked) (os := os) (X := fun w _ => laidMetH Tryd.prog laidResvStruck w) false (World.doorLaid Tryd.prog 21 os) #[.agg #[.slice none 0 0, .int .i64 0, .string ⟨#[]⟩, .int .u32 0, .bool false], .string ⟨#[]⟩, .agg #[.int .u64 0, .int .u64 0]] 8 rfl (World.shaped_of_RefB (by kernel_rfl) (by kernel_rfl)) (by kernel_rfl) (by kernel_rfl) (by kernel_rfl) (doorResvStruck os _)) ?_
  intro W base args ds gs before hval0 hW _ _ hL _
  have hval : ∀ (j : Nat) t v, Tryd.f9.params[j]? = some t → args[j]? = some v → Value.okWide Tryd.prog W .any base t v := hval0
  have hW' := hW
  obtain ⟨p, q, hA0, hV, rfl, hfz, hnd⟩ := hW
  have hA : DataW.TrodAll enc Tryd.prog W 0 (fun _ => true) true Tryd.f9.params.toList args.toList ds p := hA0
  rw [Tryd.params9] at hA hval
  obtain ⟨v0, v1, v2, d0, d1, d2, p0, p1, p2, rfl, rfl, rfl, h0, h1, h2⟩ := trodAll_three hA
  obtain ⟨rfl, rfl⟩ := trodVars_none hV
  obtain ⟨A0, c0, t, rfl, wt, mt⟩ := open_tl (hval 0 27 v0 rfl rfl) h0
  obtain ⟨host, rfl, rfl, rfl, whost⟩ := open_string Tryd.underlying9 (hval 1 9 v1 rfl rfl) h1
  obtain ⟨n20, n21, rfl, rfl, rfl, wn20, wn21⟩ := open_two Tryd.underlying55 Tryd.underlying31 (show Tryd.prog.cellsOf 31 = 1 by kernel_rfl) (show Tryd.prog.cellsOf 55 = 2 by kernel_rfl) (hval 2 55 v2 rfl rfl) h2
  clear hA0 hval0
  simp only [List.append_nil] at hW'
  have hlt0 : ∀ x ∈ p0, x.block < W.heap.size := fun x hx => hW'.lt x (by simp [hx])
  refine (struck_any A0 c0 t host n20 n21 W wt mt (u64_bounds wn21) (rtab_of_list (by kernel_rfl) (by simp) hL)).mono fun e W' ⟨he, hw⟩ => ?_
  subst he
  exact ⟨_, rfl, _, _, _, [], _, [], hW', trodAll_mk1 (shut_bool Tryd.underlying4 _), trodAll_mk3 (Below.trod Tryd.laidOut (by kernel_rfl) (of_decide_eq_true (by kernel_rfl)) h0 hw hlt0) (shut_string Tryd.underlying9 whost) (shut_two Tryd.underlying55 Tryd.underlying31 (show Tryd.prog.cellsOf 31 = 1 by kernel_rfl) (show Tryd.prog.cellsOf 55 = 2 by kernel_rfl) wn20 wn21), rfl, hw.frame _, fun h => by cases h⟩
theorem resvStruck_holds : Rows.ResvStruckSaid :=
  OpenClaim.holds_of_wide 9 Tryd.f9 rfl rfl rfl rfl rfl rfl rfl ⟨rfl, rfl, rfl, rfl, rfl⟩ rfl rfl rfl rfl rfl (by kernel_rfl) Tryd.func9 (by kernel_rfl)
    (of_decide_eq_true (by kernel_rfl)) (by unfold Func.isWrapper; first | (rw [if_pos (by decide +kernel)]; kernel_rfl) | (rw [if_neg (by decide +kernel)]; exact ⟨rfl, rfl⟩))
    (fun os started H enc _ => resvStruck_lifted os started H enc)
theorem resvStruck_card : Rows.ResvStruckCardSaid :=
  Claim7.holds_tied_plain_at .later [] [.data] true (true, "494059dc4336a78832d6fba51363cad9b59c17d06ac9671d741fcdfa2df3a020") false
    resvStruck_holds (fun _ h => by cases h) (by kernel_rfl) (fun _ h => by cases h) resvStruck_row_tie rfl ⟨rfl, rfl⟩ (by kernel_rfl) rfl
    (fun f fn hf hfn => by
      obtain rfl : f = 9 := Option.some.inj ((show Tryd.prog.funcNamed "headgate/headgatelaw11.ResvStruck" = some 9 by kernel_rfl).symm.trans hf) |>.symm
      obtain rfl : fn = Tryd.f9 := (Option.some.inj (Tryd.func9.symm.trans hfn)).symm
      exact ⟨by kernel_rfl, fun j t ht => by
        rw [Tryd.params9] at ht
        have hm : t ∈ [27, 9, 55] := by simpa using Array.mem_of_getElem? ht
        have hall : ([27, 9, 55].all fun u => !Tryd.prog.wantsStandIn u) = true := by kernel_rfl
        exact (show Tryd.prog.wantsStandIn t = false by simpa using List.all_eq_true.1 hall t hm)⟩)
    (by kernel_rfl)
end Go.Proofs.YtgekadfkokkapaaDoor
