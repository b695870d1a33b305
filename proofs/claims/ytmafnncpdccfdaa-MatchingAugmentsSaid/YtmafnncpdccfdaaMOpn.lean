/- What came in, opened: a list of pairs, a set. -/
import Derived.Test.YtmafnncpdccfdaaMVal
import Derived.Test.YtmafnncpdccfdaaSets
import Derived.Deep.Slices
import Derived.Deep.Fields
import Derived.ProofKit
import Derived.OpenShut
import Derived.ShutString
import Derived.Lib.SmallJoins
import Derived.ChangeOld
import Derived.Below
namespace Go.Proofs.Ytmafnncpdccfdaa
open Go.ChangeShapes Go.WideShapes Go.ChangeAt Go.RowKit Go.Joins
set_option maxRecDepth 100000
theorem cells3 : Try.prog.cellsOf 3 = 1 := by kernel_rfl
section
variable {H : Type} {enc : TypeId × Value → H} {W : World} {base b0 : Nat} {spare : Nat → Bool} {held : Bool}
theorem pair_in {fuel : Nat} {u v : Value} {y : DataW H × List MemPlace} (h : DataW.trod enc Try.prog W b0 spare held fuel 47 [u, v] = some y) :
    ∃ r : Int × Int, u = .int .i64 r.1 ∧ v = .int .i64 r.2 ∧ WfP r := by
  obtain ⟨xs, m, _, _, _, hl, hel⟩ := DataW.trod_array Try.underlying47 h
  have h0 := hel 0 (by decide)
  have h1 := hel 1 (by decide)
  rw [cells3] at h0 h1
  have e0 : xs[0]? = some xs[0] := List.getElem?_eq_getElem (by omega)
  have e1 : xs[1]? = some xs[1] := List.getElem?_eq_getElem (by omega)
  rw [e0] at h0
  rw [e1] at h1
  have h0' : DataW.trod enc Try.prog W b0 spare held m 3 [u] = some xs[0] := h0
  have h1' : DataW.trod enc Try.prog W b0 spare held m 3 [v] = some xs[1] := h1
  obtain ⟨a, ea, _, ja⟩ := DataW.trod_int Try.underlying3 h0'
  obtain ⟨b, eb, _, jb⟩ := DataW.trod_int Try.underlying3 h1'
  simp at ea eb
  exact ⟨(a, b), ea, eb, ja, jb⟩
theorem prs_in {v : Value} {d : DataW H} {p : List MemPlace} (hv : Value.okWide Try.prog W .any base 22 v) (h : DataW.Trod enc Try.prog W b0 spare held 22 v d p) :
    ∃ (A : Option Addr) (m c : Nat) (z : Nat → Int × Int), v = .slice A m c ∧ Prs W A m z ∧ ∀ k, k < m → WfP (z k) := by
  obtain ⟨a, len, cap, rfl⟩ := okWide_slice Try.underlying22 hv
  obtain ⟨fuel, hf⟩ := h
  rcases Go.Deep.open_slice Try.underlying22 hf with ⟨hcs, _⟩ | ⟨a', len', cap', m, k, D, Pl, hcs, _, _, _, hm, _, hi⟩
  · have e : [Value.slice a len cap] = [Value.slice none 0 0] := hcs
    injection e with e _
    injection e with e1 e2 e3
    subst e1 e2 e3
    exact ⟨none, 0, 0, fun _ => (0, 0), rfl, fun h0 => absurd h0 (Nat.lt_irrefl _), fun _ hk => absurd hk (Nat.not_lt_zero _)⟩
  · have e : [Value.slice a len cap] = [Value.slice (some a') len' cap'] := hcs
    injection e with e _
    injection e with e1 e2 e3
    subst e1 e2 e3
    have hlm : len ≤ m := by rw [hm]; split <;> omega
    have hall : ∀ i, ∃ r : Int × Int, i < len → W.cell? (a'.add (i * 2)) = some (.int .i64 r.1) ∧ W.cell? (a'.add (i * 2 + 1)) = some (.int .i64 r.2) ∧ WfP r := by
      intro i
      by_cases hil : i < len
      · obtain ⟨cs', hc, ht⟩ := hi i (by omega)
        rw [cells47] at hc
        obtain ⟨_, hcl, hat⟩ := World.cells?_some hc
        match cs', hcl with
        | [u, v], _ =>
          obtain ⟨r, rfl, rfl, hwf⟩ := pair_in ht
          refine ⟨r, fun _ => ⟨?_, ?_, hwf⟩⟩
          · have := hat 0 (by decide)
            have e : (a'.add (i * 2)).add 0 = a'.add (i * 2) := by simp [Addr.add]
            rw [e] at this; exact this
          · have := hat 1 (by decide)
            rw [Go.Deep.add_add] at this; exact this
      · exact ⟨(0, 0), fun h => absurd h hil⟩
    obtain ⟨R, hR⟩ := Classical.axiomOfChoice hall
    refine ⟨some a', len, cap, R, rfl, fun h0 => ?_, fun k hk => (hR k hk).2.2⟩
    obtain ⟨b, off, spot⟩ := a'
    have hspot : spot = none := by
      have := (hR 0 h0).1
      simpa [Addr.add] using World.cell?_spot this
    subst hspot
    have hb : b < W.heap.size := by
      have := World.block_lt_of_cell? W _ (hR 0 h0).1
      simpa [Addr.add] using this
    refine ⟨b, off, rfl, hb, fun k hk => ?_⟩
    obtain ⟨h1, h2, _⟩ := hR k hk
    have e1 : (⟨b, off, none⟩ : Addr).add (k * 2) = ⟨b, off + k * 2, none⟩ := Go.WideShapes.add_plain _ _ _
    have e2 : (⟨b, off, none⟩ : Addr).add (k * 2 + 1) = ⟨b, off + k * 2 + 1, none⟩ := Go.WideShapes.add_plain _ _ _
    rw [e1] at h1
    rw [e2] at h2
    exact ⟨h1, h2⟩
end
theorem cells30 : Try.prog.cellsOf 30 = 2 := by kernel_rfl
theorem cells64 : Try.prog.cellsOf 64 = 1 := by kernel_rfl
theorem set_in {H : Type} {enc : TypeId × Value → H} {W : World} {base b0 : Nat} {spare : Nat → Bool} {held : Bool} {v : Value} {d : DataW H} {p : List MemPlace}
    (hv : Value.okWide Try.prog W .any base 30 v) (h : DataW.Trod enc Try.prog W b0 spare held 30 v d p) :
    ∃ (N : Int) (A : Option Addr) (len cap : Nat) (f : Nat → Nat), v = .agg #[.int .i64 N, .slice A len cap] ∧ Wds W A len f ∧ len ≤ cap ∧ cap ≤ maxLen := by
  obtain ⟨c0, c1, y0, y1, m, rfl, _, _, hy0, hy1⟩ := open_agg2 Try.underlying30 (by kernel_rfl) cells30 hv h
  obtain ⟨a, e0, _, _⟩ := DataW.trod_int Try.underlying3 hy0
  simp at e0
  subst e0
  rcases open_ints Try.underlying28 Try.underlying64 cells64 hy1 with ⟨hcs, _⟩ | ⟨x, l, c, zs, hcs, _, hl, hm, hz, _, hcell, hwz⟩
  · simp at hcs
    subst hcs
    exact ⟨a, none, 0, 0, fun _ => 0, rfl, ⟨fun k hk => by omega, fun h0 => by omega⟩, by omega, by omega⟩
  · simp at hcs
    subst hcs
    have hw : ∀ k, k < zs.length → 0 ≤ zs.getD k 0 ∧ zs.getD k 0 < 18446744073709551616 := fun k hk => by
      have := hwz (zs.getD k 0) (by rw [List.getD_eq_getElem?_getD, List.getElem?_eq_getElem hk]; exact List.getElem_mem hk)
      simp [Lit.wf, IntKind.min, IntKind.max, IntKind.signed, IntKind.bits] at this
      rw [List.getD_eq_getElem?_getD]
      omega
    have hlz : l ≤ zs.length := by split at hz <;> omega
    refine ⟨a, some x, l, c, fun k => (zs.getD k 0).toNat, rfl, ⟨fun k hk => ?_, fun h0 => ?_⟩, hl, hm⟩
    · have := hw k (by omega)
      show (zs.getD k 0).toNat < _
      omega
    · obtain ⟨bl, off, rfl, hc'⟩ := ints_at hcell (by omega)
      refine ⟨bl, off, rfl, World.block_lt_of_cell? W _ (hc' 0 (by omega)), fun k hk => ?_⟩
      have h1 := hc' k (by omega)
      have h2 := hw k (by omega)
      rw [h1]
      have : (((zs.getD k 0).toNat : Nat) : Int) = zs.getD k 0 := by omega
      rw [this]
end Go.Proofs.Ytmafnncpdccfdaa
