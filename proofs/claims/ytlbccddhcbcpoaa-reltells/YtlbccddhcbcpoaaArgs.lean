/- How the arguments of the statements are read: a relation, a set. -/
import Derived.Test.YtlbccddhcbcpoaaAble
import Derived.WalkSmall
import Derived.ProofKit
import Derived.OpenShut
import Derived.ChangeOld
namespace Go.Proofs.Ytlbccddhcbcpoaa
open Go.ChangeShapes Go.WideShapes Go.ChangeAt Go.RowKit

theorem cells_rel : Try.prog.cellsOf 28 = 32 := by kernel_rfl
theorem rel_of_cells (cs : Array Value) (hs : cs.size = 32) (h : ∀ i, i < 32 → ∃ x : St, cs[i]? = some (.int .u32 (U x))) : ∃ r : Rl, cs = cells r := by
  refine ⟨fun i => Classical.choose (h i.val i.isLt), ?_⟩
  apply Array.ext_getElem?
  intro k
  by_cases hk : k < 32
  · rw [Classical.choose_spec (h k hk), cells_at _ k hk, row_of _ hk]
  · rw [Array.getElem?_eq_none (by omega), Array.getElem?_eq_none (by rw [cells_size]; omega)]
theorem open_rel {H : Type} {enc : TypeId × Value → H} {W : World} {base : Nat} {spare : Nat → Bool} {held : Bool} {base' : Nat} {v : Value} {d : DataW H} {ps : List MemPlace}
    (hv : Value.okWide Try.prog W .any base 28 v) (h : DataW.Trod enc Try.prog W base' spare held 28 v d ps) : ∃ r : Rl, v = .agg (cells r) := by
  unfold Value.okWide at hv
  rw [und_rel] at hv
  obtain ⟨cs, rfl, hsz, _⟩ := hv
  rw [cells_rel] at hsz
  obtain ⟨fuel, hf⟩ := h
  obtain ⟨xs, m, _, _, _, hxl, hx⟩ := DataW.trod_array und_rel hf
  obtain ⟨r, rfl⟩ := rel_of_cells cs hsz (fun i hi => by
    have h1 := hx i hi
    rw [cells_of_set] at h1
    have hxi : i < xs.length := by omega
    rw [List.getElem?_eq_getElem hxi] at h1
    obtain ⟨n, h2, _, hwf⟩ := DataW.trod_int Try.underlying25 h1
    obtain ⟨x, rfl⟩ := U_of_wf hwf
    refine ⟨x, ?_⟩
    have h3 : ((Value.agg cs).cells.toList.drop (i * 1)).take 1 = [.int .u32 (U x)] := h2
    have h4 : ((Value.agg cs).cells.toList.drop (i * 1))[0]? = some (.int .u32 (U x)) := by
      have := congrArg (fun l => l[0]?) h3
      simpa using this
    have h5 : cs.toList[i]? = some (.int .u32 (U x)) := by simpa [Value.cells] using h4
    simpa using h5)
  exact ⟨r, rfl⟩

end Go.Proofs.Ytlbccddhcbcpoaa
