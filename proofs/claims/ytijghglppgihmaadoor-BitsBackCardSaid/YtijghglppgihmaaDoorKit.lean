/- What the rows of this seat share: the listed variable as the program's own door lays it (the witness), what it gives a walk, and how a set that came in is opened. -/
import Derived.Test.YtijghglppgihmaaDoorRows
import Derived.Test.YtijghglppgihmaaDoorTie
import Derived.Test.YtijghglppgihmaaDoorCards
import Derived.Test.YtijghglppgihmaaDoorBitF
import Derived.ProofKit
import Derived.LaidMore
import Derived.OpenShut
import Derived.ShutString
import Derived.Stop.Joined
import Derived.SevenTiedAt
import Derived.MakeChecks
import Derived.Lib.LaidTab
import Derived.Lib.SmallJoins
namespace Go.Proofs.YtijghglppgihmaaDoor
open Go.ChangeShapes Go.WideShapes Go.ChangeAt Go.RowKit Go.Joins
theorem own : ownKnob Tryd.prog.godebug = none := by kernel_rfl
noncomputable def doorWorld (os : Os) : World := World.doorLaid Tryd.prog 14 os
theorem door_met (os : Os) (args : Array Value) : laidMetH Tryd.prog Rows.bitsFormsRow.laid ((doorWorld os).forCall (fun _ _ => 0) ⟨#[], args, []⟩).memory :=
  laidMetH_of_parts3 (fuel := 8) (laidMet_of_run' 8 (by kernel_rfl) (by kernel_rfl)) (by kernel_rfl) (by kernel_rfl)
theorem laidOut : laidOutB Tryd.prog = true := by kernel_rfl
theorem gTab : Tryd.prog.globalNamed "math/bits.deBruijn64tab" = some 0 := by kernel_rfl
theorem tTab : (Tryd.prog.globals[0]?).map (·.type) = some 73 := by kernel_rfl
theorem cells5 : Tryd.prog.cellsOf 5 = 1 := by kernel_rfl
theorem cells73 : Tryd.prog.cellsOf 73 = 64 := by kernel_rfl
theorem cells24 : Tryd.prog.cellsOf 24 = 2 := by kernel_rfl
theorem cells54 : Tryd.prog.cellsOf 54 = 1 := by kernel_rfl
theorem tab_of {W : World} (hL : laidMetH Tryd.prog Rows.bitsFormsRow.laid W) : Tab W := by
  rw [MakeChecks.laidMetH_plain _ _ _ (by kernel_rfl)] at hL
  have hp : Lib.TabIs Tryd.prog W "math/bits.deBruijn64tab" .u8 (Lib.deBruijn64tab.map fun n : Nat => (n : Int)) :=
    Lib.tabIs_of_head gTab tTab Tryd.underlying73 Tryd.underlying5 cells5 cells73 hL
  have h4 : W.var? Tryd.prog "math/bits.deBruijn64tab" = _ := hp
  unfold World.var? at h4
  rw [gTab, Option.bind_some] at h4
  by_cases hlt : 0 < W.heap.size
  · refine ⟨hlt, fun j hj => ?_⟩
    rcases hb : W.heap[0]? with _ | o
    · rw [hb] at h4; cases h4
    · rw [hb] at h4
      cases o with
      | cells cs t fr =>
        have hcs : cs = ((Lib.deBruijn64tab.map fun n : Nat => (n : Int)).map fun z => Value.int .u8 z).toArray := by simpa using h4
        have hc : W.cell? ⟨0, j, none⟩ = cs[j]? := by simp [World.cell?, hb]
        rw [hc, hcs]
        simp [List.getElem?_eq_getElem hj]
      | _ => cases h4
  · have h5 : W.heap[0]? = none := Array.getElem?_eq_none (by omega)
    rw [h5] at h4
    cases h4
/- a set that came in -/
theorem set_in {H : Type} {enc : TypeId × Value → H} {W : World} {base b0 : Nat} {spare : Nat → Bool} {held : Bool} {v : Value} {d : DataW H} {p : List MemPlace}
    (hv : Value.okWide Tryd.prog W .any base 24 v) (h : DataW.Trod enc Tryd.prog W b0 spare held 24 v d p) :
    ∃ (N : Int) (A : Option Addr) (len cap : Nat) (f : Nat → Nat), v = .agg #[.int .i64 N, .slice A len cap] ∧ Wds W A len f ∧ len ≤ cap ∧ cap ≤ maxLen := by
  obtain ⟨c0, c1, y0, y1, m, rfl, _, _, hy0, hy1⟩ := open_agg2 Tryd.underlying24 (by kernel_rfl) cells24 hv h
  obtain ⟨a, e0, _, _⟩ := DataW.trod_int Tryd.underlying3 hy0
  simp at e0
  subst e0
  rcases open_ints Tryd.underlying22 Tryd.underlying54 cells54 hy1 with ⟨hcs, _⟩ | ⟨x, l, c, zs, hcs, _, hl, hm, hz, _, hcell, hwz⟩
  · simp at hcs
    subst hcs
    exact ⟨a, none, 0, 0, fun _ => 0, rfl, ⟨fun k hk => by omega, fun h0 => by omega⟩, by omega, by omega⟩
  · simp at hcs
    subst hcs
    have hw : ∀ k, k < zs.length → 0 ≤ zs.getD k 0 ∧ zs.getD k 0 < 18446744073709551616 := fun k hk => by
      have := hwz (zs.getD k 0) (by rw [List.getD_eq_getElem?_getD, List.getElem?_eq_getElem hk]; exact List.getElem_mem hk)
      simp [Lit.wf, IntKind.min, IntKind.max, IntKind.signed, IntKind.bits] at this
      rw [List.getD_eq_getElem?_getD]
      omega
    have hlz : l ≤ zs.length := by split at hz <;> omega
    refine ⟨a, some x, l, c, fun k => (zs.getD k 0).toNat, rfl, ⟨fun k hk => ?_, fun h0 => ?_⟩, hl, hm⟩
    · have := hw k (by omega)
      show (zs.getD k 0).toNat < _
      omega
    · obtain ⟨bl, off, rfl, hc'⟩ := ints_at hcell (by omega)
      refine ⟨bl, off, rfl, World.block_lt_of_cell? W _ (hc' 0 (by omega)), fun k hk => ?_⟩
      have h1 := hc' k (by omega)
      have h2 := hw k (by omega)
      rw [h1]
      have : (((zs.getD k 0).toNat : Nat) : Int) = zs.getD k 0 := by omega
      rw [this]
end Go.Proofs.YtijghglppgihmaaDoor
