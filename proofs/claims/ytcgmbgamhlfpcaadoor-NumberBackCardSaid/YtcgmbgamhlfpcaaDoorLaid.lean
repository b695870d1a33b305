/- What the listed variables give a walk: the table of powers of ten, and that the two errors are not nil. -/
import Derived.Test.YtcgmbgamhlfpcaaDoorKit
import Derived.Stop.LaidErr
import Derived.Lib.LaidTab
import Derived.Lib.Itoa
import Derived.MakeChecks
import Derived.WalkSmall
import Derived.Test.YtcgmbgamhlfpcaaDoorShelf
import Derived.Test.YtcgmbgamhlfpcaaDoorShelfItoa
namespace Go.Proofs.YtcgmbgamhlfpcaaDoor
open Go.RowKit
theorem gErrSyn : Tryd.prog.globalNamed "strconv.ErrSyntax" = some 0 := by kernel_rfl
theorem gErrRan : Tryd.prog.globalNamed "strconv.ErrRange" = some 1 := by kernel_rfl
theorem gPow : Tryd.prog.globalNamed "internal/strconv.uint64pow10" = some 2 := by kernel_rfl
theorem tErrSyn : (Tryd.prog.globals[0]?).map (·.type) = some 48 := by kernel_rfl
theorem tErrRan : (Tryd.prog.globals[1]?).map (·.type) = some 48 := by kernel_rfl
theorem tPow : (Tryd.prog.globals[2]?).map (·.type) = some 77 := by kernel_rfl
theorem cells85 : Tryd.prog.cellsOf 85 = 1 := by kernel_rfl
theorem cells9 : Tryd.prog.cellsOf 9 = 1 := by kernel_rfl
theorem cells63 : Tryd.prog.cellsOf 63 = 1 := by kernel_rfl
theorem cells77 : Tryd.prog.cellsOf 77 = 20 := by kernel_rfl
theorem star : "*" ++ "errors.errorString" = "*errors.errorString" := by decide
theorem row83 (u : TypeId) (h : Tryd.prog.typeName? 3 u = some "*errors.errorString") : u = 83 :=
  typeName_ptr_named (nm := "errors.errorString") (by rw [star]; kernel_rfl) (by kernel_rfl) (by decide) u (by rw [star]; exact h)
/- what the walks ask of the world in which a call begins -/
structure LaidFacts (W : World) : Prop where
  pow : Lib.TabIs Tryd.prog W "internal/strconv.uint64pow10" .u64 Lib.pow10Tab
  syn : ∃ tp p, W.var? Tryd.prog "strconv.ErrSyntax" = some #[.iface tp p]
  ran : ∃ tp p, W.var? Tryd.prog "strconv.ErrRange" = some #[.iface tp p]
  size : 3 ≤ W.heap.size
theorem laid_facts {W : World} (hL : laidMetH Tryd.prog Rows.numberSumsRow.laid W) : LaidFacts W := by
  rw [MakeChecks.laidMetH_plain _ _ _ (by kernel_rfl)] at hL
  have h1 := hL.tail.tail
  have h2 := h1.tail
  have h3 := h2.tail
  obtain ⟨a0, s0, hv0, -, -, -⟩ := laid_sentinel h2 gErrRan tErrRan Tryd.underlying48 row83 Tryd.underlying83 Tryd.underlying85 rfl rfl Tryd.underlying9 cells85 cells9
  obtain ⟨a1, s1, hv1, -, -, -⟩ := laid_sentinel h3 gErrSyn tErrSyn Tryd.underlying48 row83 Tryd.underlying83 Tryd.underlying85 rfl rfl Tryd.underlying9 cells85 cells9
  have hp : Lib.TabIs Tryd.prog W "internal/strconv.uint64pow10" .u64 Lib.pow10Tab :=
    Lib.tabIs_of_head gPow tPow Tryd.underlying77 Tryd.underlying63 cells63 cells77 h1
  refine ⟨hp, ⟨_, _, hv1⟩, ⟨_, _, hv0⟩, ?_⟩
  have h4 : W.var? Tryd.prog "internal/strconv.uint64pow10" = _ := hp
  unfold World.var? at h4
  rw [gPow] at h4
  by_cases hlt : 2 < W.heap.size
  · exact hlt
  · have h5 : W.heap[2]? = none := Array.getElem?_eq_none (by omega)
    rw [Option.bind_some, h5] at h4
    cases h4
theorem LaidFacts.below {W W' : World} (h : LaidFacts W) (hb : Below W.heap.size W W') : LaidFacts W' := by
  have hs := h.size
  obtain ⟨t1, p1, h1⟩ := h.syn
  obtain ⟨t2, p2, h2⟩ := h.ran
  exact ⟨var?_below hb gPow (by omega) h.pow, ⟨t1, p1, var?_below hb gErrSyn (by omega) h1⟩, ⟨t2, p2, var?_below hb gErrRan (by omega) h2⟩, Nat.le_trans hs hb.size⟩
end Go.Proofs.YtcgmbgamhlfpcaaDoor
