/- What came in, opened: a list of numbers, a list of pairs. -/
import Derived.Test.YtjdceafkcakbjaaFClo
import Derived.Deep.Slices
import Derived.Deep.Fields
import Derived.ProofKit
import Derived.OpenShut
import Derived.ShutString
import Derived.Lib.SmallJoins
import Derived.ChangeOld
import Derived.Below
namespace Go.Proofs.Ytjdceafkcakbjaa
open Go.ChangeShapes Go.WideShapes Go.ChangeAt Go.RowKit Go.Joins
set_option maxRecDepth 100000
theorem own : ownKnob Try.prog.godebug = none := by kernel_rfl
theorem laidOut : laidOutB Try.prog = true := by kernel_rfl
theorem cells56 : Try.prog.cellsOf 56 = 2 := by kernel_rfl
theorem cells3 : Try.prog.cellsOf 3 = 1 := by kernel_rfl
theorem ints_in {H : Type} {enc : TypeId × Value → H} {W : World} {base b0 : Nat} {spare : Nat → Bool} {held : Bool} {a : Option Addr} {len cap : Nat} {d : DataW H} {p : List MemPlace}
    (_hv : Value.okWide Try.prog W .any base 25 (.slice a len cap)) (h : DataW.Trod enc Try.prog W b0 spare held 25 (.slice a len cap) d p) : ∃ z, Ints W a len z := by
  obtain ⟨m, hm⟩ := h
  rcases open_ints Try.underlying25 Try.underlying3 cells3 hm with ⟨hcs, _⟩ | ⟨x, l, c, zs, hcs, _, hl, _, hz, _, hcell, _⟩
  · have e : [Value.slice a len cap] = [Value.slice none 0 0] := hcs
    injection e with e _
    injection e with e1 e2 e3
    subst e1 e2
    exact ⟨fun _ => 0, fun h0 => by omega⟩
  · have e : [Value.slice a len cap] = [Value.slice (some x) l c] := hcs
    injection e with e _
    injection e with e1 e2 e3
    subst e1 e2 e3
    have hlz : len ≤ zs.length := by split at hz <;> omega
    refine ⟨fun k => zs.getD k 0, fun h0 => ?_⟩
    obtain ⟨bl, off, rfl, hc'⟩ := ints_at hcell (by omega)
    exact ⟨bl, off, rfl, World.block_lt_of_cell? W _ (hc' 0 (by omega)), fun k hk => hc' k (by omega)⟩
section
variable {H : Type} {enc : TypeId × Value → H} {W : World} {base b0 : Nat} {spare : Nat → Bool} {held : Bool}
theorem pair_in {fuel : Nat} {u v : Value} {y : DataW H × List MemPlace} (h : DataW.trod enc Try.prog W b0 spare held fuel 56 [u, v] = some y) :
    ∃ r : Int × Int, u = .int .i64 r.1 ∧ v = .int .i64 r.2 := by
  obtain ⟨xs, m, _, _, _, hl, hel⟩ := DataW.trod_array Try.underlying56 h
  have h0 := hel 0 (by decide)
  have h1 := hel 1 (by decide)
  rw [cells3] at h0 h1
  have e0 : xs[0]? = some xs[0] := List.getElem?_eq_getElem (by omega)
  have e1 : xs[1]? = some xs[1] := List.getElem?_eq_getElem (by omega)
  rw [e0] at h0
  rw [e1] at h1
  have h0' : DataW.trod enc Try.prog W b0 spare held m 3 [u] = some xs[0] := h0
  have h1' : DataW.trod enc Try.prog W b0 spare held m 3 [v] = some xs[1] := h1
  obtain ⟨a, ea, _, _⟩ := DataW.trod_int Try.underlying3 h0'
  obtain ⟨b, eb, _, _⟩ := DataW.trod_int Try.underlying3 h1'
  simp at ea eb
  exact ⟨(a, b), ea, eb⟩
theorem prs_in {v : Value} {d : DataW H} {p : List MemPlace} (hv : Value.okWide Try.prog W .any base 53 v) (h : DataW.Trod enc Try.prog W b0 spare held 53 v d p) :
    ∃ (A : Option Addr) (m c : Nat) (z : Nat → Int × Int), v = .slice A m c ∧ Prs W A m z := by
  obtain ⟨a, len, cap, rfl⟩ := okWide_slice Try.underlying53 hv
  obtain ⟨fuel, hf⟩ := h
  rcases Go.Deep.open_slice Try.underlying53 hf with ⟨hcs, _⟩ | ⟨a', len', cap', m, k, D, Pl, hcs, _, _, _, hm, _, hi⟩
  · have e : [Value.slice a len cap] = [Value.slice none 0 0] := hcs
    injection e with e _
    injection e with e1 e2 e3
    subst e1 e2 e3
    exact ⟨none, 0, 0, fun _ => (0, 0), rfl, fun h0 => absurd h0 (Nat.lt_irrefl _)⟩
  · have e : [Value.slice a len cap] = [Value.slice (some a') len' cap'] := hcs
    injection e with e _
    injection e with e1 e2 e3
    subst e1 e2 e3
    have hlm : len ≤ m := by rw [hm]; split <;> omega
    have hall : ∀ i, ∃ r : Int × Int, i < len → W.cell? (a'.add (i * 2)) = some (.int .i64 r.1) ∧ W.cell? (a'.add (i * 2 + 1)) = some (.int .i64 r.2) := by
      intro i
      by_cases hil : i < len
      · obtain ⟨cs', hc, ht⟩ := hi i (by omega)
        rw [cells56] at hc
        obtain ⟨_, hcl, hat⟩ := World.cells?_some hc
        match cs', hcl with
        | [u, v], _ =>
          obtain ⟨r, rfl, rfl⟩ := pair_in ht
          refine ⟨r, fun _ => ⟨?_, ?_⟩⟩
          · have := hat 0 (by decide)
            have e : (a'.add (i * 2)).add 0 = a'.add (i * 2) := by simp [Addr.add]
            rw [e] at this; exact this
          · have := hat 1 (by decide)
            rw [Go.Deep.add_add] at this; exact this
      · exact ⟨(0, 0), fun h => absurd h hil⟩
    obtain ⟨R, hR⟩ := Classical.axiomOfChoice hall
    refine ⟨some a', len, cap, R, rfl, fun h0 => ?_⟩
    obtain ⟨b, off, spot⟩ := a'
    have hspot : spot = none := by
      have := (hR 0 h0).1
      simpa [Addr.add] using World.cell?_spot this
    subst hspot
    have hb : b < W.heap.size := by
      have := World.block_lt_of_cell? W _ (hR 0 h0).1
      simpa [Addr.add] using this
    refine ⟨b, off, rfl, hb, fun k hk => ?_⟩
    obtain ⟨h1, h2⟩ := hR k hk
    have e1 : (⟨b, off, none⟩ : Addr).add (k * 2) = ⟨b, off + k * 2, none⟩ := Go.WideShapes.add_plain _ _ _
    have e2 : (⟨b, off, none⟩ : Addr).add (k * 2 + 1) = ⟨b, off + k * 2 + 1, none⟩ := Go.WideShapes.add_plain _ _ _
    rw [e1] at h1
    rw [e2] at h2
    exact ⟨h1, h2⟩
end
end Go.Proofs.Ytjdceafkcakbjaa
