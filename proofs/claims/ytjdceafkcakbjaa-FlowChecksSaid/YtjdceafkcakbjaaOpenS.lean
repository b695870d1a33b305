/- A set that came in, opened. -/
import Derived.Test.YtjdceafkcakbjaaOpenN
namespace Go.Proofs.Ytjdceafkcakbjaa
open Go.ChangeShapes Go.WideShapes Go.ChangeAt Go.RowKit Go.Joins
set_option maxRecDepth 100000
theorem cells28 : Try.prog.cellsOf 28 = 2 := by kernel_rfl
theorem cells61 : Try.prog.cellsOf 61 = 1 := by kernel_rfl
theorem set_in {H : Type} {enc : TypeId × Value → H} {W : World} {base b0 : Nat} {spare : Nat → Bool} {held : Bool} {v : Value} {d : DataW H} {p : List MemPlace}
    (hv : Value.okWide Try.prog W .any base 28 v) (h : DataW.Trod enc Try.prog W b0 spare held 28 v d p) :
    ∃ (N : Int) (A : Option Addr) (len cap : Nat) (f : Nat → Nat), v = .agg #[.int .i64 N, .slice A len cap] ∧ Wds W A len f ∧ len ≤ cap ∧ cap ≤ maxLen := by
  obtain ⟨c0, c1, y0, y1, m, rfl, _, _, hy0, hy1⟩ := open_agg2 Try.underlying28 (by kernel_rfl) cells28 hv h
  obtain ⟨a, e0, _, _⟩ := DataW.trod_int Try.underlying3 hy0
  simp at e0
  subst e0
  rcases open_ints Try.underlying26 Try.underlying61 cells61 hy1 with ⟨hcs, _⟩ | ⟨x, l, c, zs, hcs, _, hl, hm, hz, _, hcell, hwz⟩
  · simp at hcs
    subst hcs
    exact ⟨a, none, 0, 0, fun _ => 0, rfl, ⟨fun k hk => by omega, fun h0 => by omega⟩, by omega, by omega⟩
  · simp at hcs
    subst hcs
    have hw : ∀ k, k < zs.length → 0 ≤ zs.getD k 0 ∧ zs.getD k 0 < 18446744073709551616 := fun k hk => by
      have := hwz (zs.getD k 0) (by rw [List.getD_eq_getElem?_getD, List.getElem?_eq_getElem hk]; exact List.getElem_mem hk)
      simp [Lit.wf, IntKind.min, IntKind.max, IntKind.signed, IntKind.bits] at this
      rw [List.getD_eq_getElem?_getD]
      omega
    have hlz : l ≤ zs.length := by split at hz <;> omega
    refine ⟨a, some x, l, c, fun k => (zs.getD k 0).toNat, rfl, ⟨fun k hk => ?_, fun h0 => ?_⟩, hl, hm⟩
    · have := hw k (by omega)
      show (zs.getD k 0).toNat < _
      omega
    · obtain ⟨bl, off, rfl, hc'⟩ := ints_at hcell (by omega)
      refine ⟨bl, off, rfl, World.block_lt_of_cell? W _ (hc' 0 (by omega)), fun k hk => ?_⟩
      have h1 := hc' k (by omega)
      have h2 := hw k (by omega)
      rw [h1]
      have : (((zs.getD k 0).toNat : Nat) : Int) = zs.getD k 0 := by omega
      rw [this]
end Go.Proofs.Ytjdceafkcakbjaa
