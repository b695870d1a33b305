/- A list of numbers that came in, opened. -/
import Derived.Test.YtijghglppgihmaaDoorKit
namespace Go.Proofs.YtijghglppgihmaaDoor
open Go.ChangeShapes Go.WideShapes Go.ChangeAt Go.RowKit Go.Joins
theorem cells3 : Tryd.prog.cellsOf 3 = 1 := by kernel_rfl
theorem ints_in {H : Type} {enc : TypeId × Value → H} {W : World} {base b0 : Nat} {spare : Nat → Bool} {held : Bool} {a : Option Addr} {len cap : Nat} {d : DataW H} {p : List MemPlace}
    (_hv : Value.okWide Tryd.prog W .any base 25 (.slice a len cap)) (h : DataW.Trod enc Tryd.prog W b0 spare held 25 (.slice a len cap) d p) : ∃ z, Ints W a len z := by
  obtain ⟨m, hm⟩ := h
  rcases open_ints Tryd.underlying25 Tryd.underlying3 cells3 hm with ⟨hcs, _⟩ | ⟨x, l, c, zs, hcs, _, hl, _, hz, _, hcell, _⟩
  · have e : [Value.slice a len cap] = [Value.slice none 0 0] := hcs
    injection e with e _
    injection e with e1 e2 e3
    subst e1 e2
    exact ⟨fun _ => 0, fun h0 => by omega⟩
  · have e : [Value.slice a len cap] = [Value.slice (some x) l c] := hcs
    injection e with e _
    injection e with e1 e2 e3
    subst e1 e2 e3
    have hlz : len ≤ zs.length := by split at hz <;> omega
    refine ⟨fun k => zs.getD k 0, fun h0 => ?_⟩
    obtain ⟨bl, off, rfl, hc'⟩ := ints_at hcell (by omega)
    exact ⟨bl, off, rfl, World.block_lt_of_cell? W _ (hc' 0 (by omega)), fun k hk => hc' k (by omega)⟩
end Go.Proofs.YtijghglppgihmaaDoor
