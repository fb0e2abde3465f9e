/- The first number of a row, deleted. -/
import Derived.Test.YtacogfllnhopoaaUnD
import Derived.Sort.OwnSortedInts
namespace Go.Proofs.Ytacogfllnhopoaa
open Go.RowKit Go.Maps Go.Sort
theorem maxLen_le : maxLen ≤ 9223372036854775807 := by unfold maxLen; omega
theorem del_any (w : World) {g c n : Nat} {zs : List Int} (hi : Ints w g c zs) (hn : zs.length = n + 1) :
    Calls Try.prog 25 #[.slice (some ⟨g, 0, none⟩) (n + 1) c, .int .i64 0, .int .i64 1] w fun e w' => e = .returned (.slice (some ⟨g, 0, none⟩) n c) ∧ Only (fun k => k = g) w w' ∧ Ints w' g c (zs.drop 1) := by
  obtain ⟨cur, hb, hs, hl, hm, ht⟩ := hi
  have hH : Holds (Value.int .i64) w g 0 zs.toArray := holds_of_blockI hb ht
  have h := Try.slices_Delete_int g 0 c 0 1 zs w hH hl (Nat.le_trans hm maxLen_le) (by omega) (by omega)
  have e1 : zs.length - (1 - 0) = n := by omega
  rw [e1, hn] at h
  refine Calls.mono h ?_
  rintro e w' ⟨rfl, q, rfl⟩
  have hgr : w.grownBy (grow (putRow (Value.int .i64) (Sort.ahead w q) g 0 (zs.take 0 ++ zs.drop 1 ++ List.replicate (1 - 0) 0).toArray) #[]) (some g) := grownBy_sortedI _
  have hgw : grow (putRow (Value.int .i64) (Sort.ahead w q) g 0 (zs.take 0 ++ zs.drop 1 ++ List.replicate (1 - 0) 0).toArray) #[] = putRow (Value.int .i64) (Sort.ahead w q) g 0 (zs.take 0 ++ zs.drop 1 ++ List.replicate (1 - 0) 0).toArray := by
    exact (fun v : World => (by cases v; simp [grow] : grow v #[] = v)) _
  have hblk := heap_sortedI (n := q) (os := #[]) (zs.take 0 ++ zs.drop 1 ++ List.replicate (1 - 0) 0).toArray hb
  rw [hgw] at hgr hblk
  refine ⟨rfl, (Only.refl _ w).grown hgr (fun k hk => .inl (Option.some.inj hk).symm), _, hblk, by simp [putCells, hs], by simp; omega, hm, ?_⟩
  have hlen : (zs.take 0 ++ zs.drop 1 ++ List.replicate (1 - 0) 0).length = zs.length := by simp; omega
  have h3 := take_putCellsI cur (zs.take 0 ++ zs.drop 1 ++ List.replicate (1 - 0) 0) (by rw [hlen]; omega)
  have h4 := congrArg (List.take (zs.drop 1).length) h3
  rw [List.take_take] at h4
  have e2 : min (zs.drop 1).length (zs.take 0 ++ zs.drop 1 ++ List.replicate (1 - 0) 0).length = (zs.drop 1).length := by rw [hlen]; simp
  rw [e2] at h4
  rw [h4, ← List.map_take]
  simp
end Go.Proofs.Ytacogfllnhopoaa
