/- A network that came in, opened. -/
import Derived.Test.YtjdceafkcakbjaaOpen
import Derived.Deep.Strs
namespace Go.Proofs.Ytjdceafkcakbjaa
open Go.ChangeShapes Go.WideShapes Go.ChangeAt Go.RowKit Go.Joins
set_option maxRecDepth 100000
theorem cells50 : Try.prog.cellsOf 50 = 3 := by kernel_rfl
theorem cells24 : Try.prog.cellsOf 24 = 2 := by kernel_rfl
section
variable {H : Type} {enc : TypeId × Value → H} {W : World} {base b0 : Nat} {spare : Nat → Bool} {held : Bool}
theorem edge_in {fuel : Nat} {u v x : Value} {y : DataW H × List MemPlace} (h : DataW.trod enc Try.prog W b0 spare held fuel 50 [u, v, x] = some y) :
    ∃ r : EdgeD, u = .int .i64 r.f ∧ v = .int .i64 r.t ∧ x = .int .i64 r.c := by
  obtain ⟨y0, y1, y2, m, _, _, h0, h1, h2⟩ := Go.Deep.trod_struct3 Try.underlying50 h
  have h0' : DataW.trod enc Try.prog W b0 spare held m 3 [u] = some y0 := by
    have := h0
    rw [cells3] at this; exact this
  have h1' : DataW.trod enc Try.prog W b0 spare held m 3 [v] = some y1 := by
    have := h1
    rw [cells3] at this; exact this
  have h2' : DataW.trod enc Try.prog W b0 spare held m 3 [x] = some y2 := by
    have := h2
    rw [cells3] at this; exact this
  obtain ⟨a, ea, _, _⟩ := DataW.trod_int Try.underlying3 h0'
  obtain ⟨b, eb, _, _⟩ := DataW.trod_int Try.underlying3 h1'
  obtain ⟨c, ec, _, _⟩ := DataW.trod_int Try.underlying3 h2'
  simp at ea eb ec
  exact ⟨⟨a, b, c⟩, ea, eb, ec⟩
theorem edges_in {fuel : Nat} {v : Value} {y : DataW H × List MemPlace} (h : DataW.trod enc Try.prog W b0 spare held fuel 22 [v] = some y) :
    ∃ (A : Option Addr) (m c : Nat) (E : Nat → EdgeD), v = .slice A m c ∧ Edges W A m E := by
  rcases Go.Deep.open_slice Try.underlying22 h with ⟨hcs, _⟩ | ⟨a', len', cap', m, k, D, Pl, hcs, _, hlc, _, hm, _, hi⟩
  · have e : [v] = [Value.slice none 0 0] := hcs
    injection e with e _
    subst e
    exact ⟨none, 0, 0, fun _ => ⟨0, 0, 0⟩, rfl, fun h0 => absurd h0 (Nat.lt_irrefl _)⟩
  · have e : [v] = [Value.slice (some a') len' cap'] := hcs
    injection e with e _
    subst e
    have hlm : len' ≤ m := by rw [hm]; split <;> omega
    have hall : ∀ i, ∃ r : EdgeD, i < len' → W.cell? (a'.add (i * 3)) = some (.int .i64 r.f) ∧ W.cell? (a'.add (i * 3 + 1)) = some (.int .i64 r.t) ∧ W.cell? (a'.add (i * 3 + 2)) = some (.int .i64 r.c) := by
      intro i
      by_cases hil : i < len'
      · obtain ⟨cs', hc, ht⟩ := hi i (by omega)
        rw [cells50] at hc
        obtain ⟨_, hcl, hat⟩ := World.cells?_some hc
        match cs', hcl with
        | [u, v, x], _ =>
          obtain ⟨r, rfl, rfl, rfl⟩ := edge_in ht
          refine ⟨r, fun _ => ⟨?_, ?_, ?_⟩⟩
          · have := hat 0 (by decide)
            have e : (a'.add (i * 3)).add 0 = a'.add (i * 3) := by simp [Addr.add]
            rw [e] at this; exact this
          · have := hat 1 (by decide)
            rw [Go.Deep.add_add] at this; exact this
          · have := hat 2 (by decide)
            rw [Go.Deep.add_add] at this; exact this
      · exact ⟨⟨0, 0, 0⟩, fun h => absurd h hil⟩
    obtain ⟨R, hR⟩ := Classical.axiomOfChoice hall
    refine ⟨some a', len', cap', R, rfl, fun h0 => ?_⟩
    obtain ⟨b, off, spot⟩ := a'
    have hspot : spot = none := by
      have := (hR 0 h0).1
      simpa [Addr.add] using World.cell?_spot this
    subst hspot
    have hb : b < W.heap.size := by
      have := World.block_lt_of_cell? W _ (hR 0 h0).1
      simpa [Addr.add] using this
    refine ⟨b, off, rfl, hb, fun k hk => ?_⟩
    obtain ⟨h1, h2, h3⟩ := hR k hk
    have e1 : (⟨b, off, none⟩ : Addr).add (k * 3) = ⟨b, off + k * 3, none⟩ := Go.WideShapes.add_plain _ _ _
    have e2 : (⟨b, off, none⟩ : Addr).add (k * 3 + 1) = ⟨b, off + k * 3 + 1, none⟩ := Go.WideShapes.add_plain _ _ _
    have e3 : (⟨b, off, none⟩ : Addr).add (k * 3 + 2) = ⟨b, off + k * 3 + 2, none⟩ := Go.WideShapes.add_plain _ _ _
    rw [e1] at h1
    rw [e2] at h2
    rw [e3] at h3
    exact ⟨h1, h2, h3⟩
theorem net_in {v : Value} {d : DataW H} {p : List MemPlace} (hv : Value.okWide Try.prog W .any base 24 v) (h : DataW.Trod enc Try.prog W b0 spare held 24 v d p) :
    ∃ (N : Int) (A : Option Addr) (m c : Nat) (E : Nat → EdgeD), v = .agg #[.int .i64 N, .slice A m c] ∧ Edges W A m E := by
  obtain ⟨v0, v1, y0, y1, n, rfl, _, _, hy0, hy1⟩ := open_agg2 Try.underlying24 (by kernel_rfl) cells24 hv h
  obtain ⟨a, ea, _, _⟩ := DataW.trod_int Try.underlying3 hy0
  simp at ea
  subst ea
  obtain ⟨A, m, c, E, rfl, hE⟩ := edges_in hy1
  exact ⟨a, A, m, c, E, rfl, hE⟩
end
end Go.Proofs.Ytjdceafkcakbjaa
