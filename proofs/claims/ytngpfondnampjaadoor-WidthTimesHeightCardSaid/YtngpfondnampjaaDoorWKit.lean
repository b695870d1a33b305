/- What the rows of this seat share: the listed variable as the program's own door lays it (the witness), what it gives a walk, and how a set that came in is opened. -/
import Derived.Test.YtngpfondnampjaaDoorRows
import Derived.Test.YtngpfondnampjaaDoorTie
import Derived.Test.YtngpfondnampjaaDoorCards
import Derived.Test.YtngpfondnampjaaDoorWPar
import Derived.Deep.Slices
import Derived.Deep.Fields
import Derived.ProofKit
import Derived.LaidMore
import Derived.OpenShut
import Derived.ShutString
import Derived.Stop.Joined
import Derived.SevenTiedAt
import Derived.MakeChecks
import Derived.Lib.LaidTab
import Derived.Lib.SmallJoins
namespace Go.Proofs.YtngpfondnampjaaDoor
open Go.ChangeShapes Go.WideShapes Go.ChangeAt Go.RowKit Go.Joins
set_option maxRecDepth 100000
noncomputable def doorWorld (os : Os) : World := World.doorLaid Tryd.prog 14 os
theorem door_met (os : Os) (args : Array Value) : laidMetH Tryd.prog Rows.widthChecksRow.laid ((doorWorld os).forCall (fun _ _ => 0) ⟨#[], args, []⟩).memory :=
  laidMetH_of_parts3 (fuel := 8) (laidMet_of_run' 8 (by kernel_rfl) (by kernel_rfl)) (by kernel_rfl) (by kernel_rfl)
theorem gTab : Tryd.prog.globalNamed "math/bits.deBruijn64tab" = some 0 := by kernel_rfl
theorem tTab : (Tryd.prog.globals[0]?).map (·.type) = some 116 := by kernel_rfl
theorem cells5 : Tryd.prog.cellsOf 5 = 1 := by kernel_rfl
theorem cells116 : Tryd.prog.cellsOf 116 = 64 := by kernel_rfl
theorem cells28 : Tryd.prog.cellsOf 28 = 2 := by kernel_rfl
theorem cells60 : Tryd.prog.cellsOf 60 = 1 := by kernel_rfl
theorem tab_of {W : World} (hL : laidMetH Tryd.prog Rows.widthChecksRow.laid W) : Tab W := by
  rw [MakeChecks.laidMetH_plain _ _ _ (by kernel_rfl)] at hL
  have hp : Lib.TabIs Tryd.prog W "math/bits.deBruijn64tab" .u8 (Lib.deBruijn64tab.map fun n : Nat => (n : Int)) :=
    Lib.tabIs_of_head gTab tTab Tryd.underlying116 Tryd.underlying5 cells5 cells116 hL
  have h4 : W.var? Tryd.prog "math/bits.deBruijn64tab" = _ := hp
  unfold World.var? at h4
  rw [gTab, Option.bind_some] at h4
  by_cases hlt : 0 < W.heap.size
  · refine ⟨hlt, fun j hj => ?_⟩
    rcases hb : W.heap[0]? with _ | o
    · rw [hb] at h4; cases h4
    · rw [hb] at h4
      cases o with
      | cells cs t fr =>
        have hcs : cs = ((Lib.deBruijn64tab.map fun n : Nat => (n : Int)).map fun z => Value.int .u8 z).toArray := by simpa using h4
        have hc : W.cell? ⟨0, j, none⟩ = cs[j]? := by simp [World.cell?, hb]
        rw [hc, hcs]
        simp [List.getElem?_eq_getElem hj]
      | _ => cases h4
  · have h5 : W.heap[0]? = none := Array.getElem?_eq_none (by omega)
    rw [h5] at h4
    cases h4
theorem cells24 : Tryd.prog.cellsOf 24 = 1 := by kernel_rfl
theorem cells22 : Tryd.prog.cellsOf 22 = 1 := by kernel_rfl
theorem cells26 : Tryd.prog.cellsOf 26 = 1 := by kernel_rfl
theorem cells3 : Tryd.prog.cellsOf 3 = 1 := by kernel_rfl
theorem cells78 : Tryd.prog.cellsOf 78 = 2 := by kernel_rfl
section
variable {H : Type} {enc : TypeId × Value → H} {W : World} {base b0 : Nat} {spare : Nat → Bool} {held : Bool}
/- the two cells of a set that came in -/
theorem row_in {fuel : Nat} {u v : Value} {y : DataW H × List MemPlace} (h : DataW.trod enc Tryd.prog W b0 spare held fuel 28 [u, v] = some y) :
    ∃ r : RowD, u = .int .i64 r.N ∧ v = .slice r.A r.l r.c ∧ Wds W r.A r.l r.f := by
  obtain ⟨y0, y1, m, _, _, h0, h1⟩ := trod_struct2 Tryd.underlying28 h
  have h0' : DataW.trod enc Tryd.prog W b0 spare held m 3 [u] = some y0 := by
    have := h0
    rw [cells3] at this; exact this
  have h1' : DataW.trod enc Tryd.prog W b0 spare held m 26 [v] = some y1 := by
    have := h1
    rw [cells26] at this; exact this
  obtain ⟨a, e0, _, _⟩ := DataW.trod_int Tryd.underlying3 h0'
  simp at e0
  subst e0
  rcases open_ints Tryd.underlying26 Tryd.underlying60 cells60 h1' with ⟨hcs, _⟩ | ⟨x, l, c, zs, hcs, _, hl, hm, hz, _, hcell, hwz⟩
  · simp at hcs
    subst hcs
    exact ⟨⟨a, none, 0, 0, fun _ => 0⟩, rfl, rfl, fun k hk => absurd hk (Nat.not_lt_zero _), fun h0 => absurd h0 (Nat.lt_irrefl _)⟩
  · simp at hcs
    subst hcs
    have hw : ∀ k, k < zs.length → 0 ≤ zs.getD k 0 ∧ zs.getD k 0 < 18446744073709551616 := fun k hk => by
      have := hwz (zs.getD k 0) (by rw [List.getD_eq_getElem?_getD, List.getElem?_eq_getElem hk]; exact List.getElem_mem hk)
      simp [Lit.wf, IntKind.min, IntKind.max, IntKind.signed, IntKind.bits] at this
      rw [List.getD_eq_getElem?_getD]
      omega
    have hlz : l ≤ zs.length := by split at hz <;> omega
    refine ⟨⟨a, some x, l, c, fun k => (zs.getD k 0).toNat⟩, rfl, rfl, fun k hk => ?_, fun h0 => ?_⟩
    · have := hw k (Nat.lt_of_lt_of_le hk hlz)
      show (zs.getD k 0).toNat < _
      omega
    · replace h0 : 0 < l := h0
      obtain ⟨bl, off, rfl, hc'⟩ := ints_at hcell (by omega)
      refine ⟨bl, off, rfl, World.block_lt_of_cell? W _ (hc' 0 (by omega)), fun k hk => ?_⟩
      replace hk : k < l := hk
      have h1 := hc' k (by omega)
      have h2 := hw k (by omega)
      rw [h1]
      show some (Value.int .u64 (zs.getD k 0)) = some (Value.int .u64 ((zs.getD k 0).toNat : Nat))
      have : (((zs.getD k 0).toNat : Nat) : Int) = zs.getD k 0 := by omega
      rw [this]
/- a slice of sets that came in -/
theorem rows_in {fuel : Nat} {v : Value} {y : DataW H × List MemPlace} (h : DataW.trod enc Tryd.prog W b0 spare held fuel 22 [v] = some y) :
    ∃ (A : Option Addr) (n c : Nat) (R : Nat → RowD), v = .slice A n c ∧ Rel W A n R := by
  rcases Go.Deep.open_slice Tryd.underlying22 h with ⟨hcs, _⟩ | ⟨a, len, cap, m, k, D, Pl, hcs, _, _, _, hm, _, hi⟩
  · simp at hcs
    subst hcs
    exact ⟨none, 0, 0, fun _ => row0, rfl, fun h0 => absurd h0 (Nat.lt_irrefl _)⟩
  · simp at hcs
    subst hcs
    have hlm : len ≤ m := by rw [hm]; split <;> omega
    have hall : ∀ i, ∃ r : RowD, i < len → W.cell? (a.add (i * 2)) = some (.int .i64 r.N) ∧ W.cell? (a.add (i * 2 + 1)) = some (.slice r.A r.l r.c) ∧ Wds W r.A r.l r.f := by
      intro i
      by_cases hil : i < len
      · obtain ⟨cs', hc, ht⟩ := hi i (by omega)
        rw [cells28] at hc
        obtain ⟨_, hcl, hat⟩ := World.cells?_some hc
        match cs', hcl with
        | [u, v], _ =>
          obtain ⟨r, rfl, rfl, hw⟩ := row_in ht
          refine ⟨r, fun _ => ⟨?_, ?_, hw⟩⟩
          · have := hat 0 (by decide)
            have e : (a.add (i * 2)).add 0 = a.add (i * 2) := by simp [Addr.add]
            rw [e] at this; exact this
          · have := hat 1 (by decide)
            rw [Go.Deep.add_add] at this; exact this
      · exact ⟨row0, fun h => absurd h hil⟩
    obtain ⟨R, hR⟩ := Classical.axiomOfChoice hall
    refine ⟨some a, len, cap, R, rfl, fun h0 => ?_⟩
    obtain ⟨b, off, spot⟩ := a
    have hspot : spot = none := by
      have := (hR 0 h0).1
      simpa [Addr.add] using World.cell?_spot this
    subst hspot
    have hb : b < W.heap.size := by
      have := World.block_lt_of_cell? W _ (hR 0 h0).1
      simpa [Addr.add] using this
    refine ⟨b, off, rfl, hb, fun k hk => ?_⟩
    obtain ⟨h1, h2, h3⟩ := hR k hk
    have e1 : (⟨b, off, none⟩ : Addr).add (k * 2) = ⟨b, off + k * 2, none⟩ := Go.WideShapes.add_plain _ _ _
    have e2 : (⟨b, off, none⟩ : Addr).add (k * 2 + 1) = ⟨b, off + k * 2 + 1, none⟩ := Go.WideShapes.add_plain _ _ _
    rw [e1] at h1
    rw [e2] at h2
    exact ⟨h1, h2, h3⟩
/- a relation that came in -/
theorem rel_in {v : Value} {d : DataW H} {p : List MemPlace} (hv : Value.okWide Tryd.prog W .any base 24 v) (h : DataW.Trod enc Tryd.prog W b0 spare held 24 v d p) :
    ∃ (A : Option Addr) (n c : Nat) (R : Nat → RowD), v = .agg #[.slice A n c] ∧ Rel W A n R := by
  obtain ⟨cs, rfl, hsz⟩ := okWide_struct Tryd.underlying24 hv
  obtain ⟨fuel, hf⟩ := h
  obtain ⟨y0, m, _, hl, h0⟩ := trod_struct1 Tryd.underlying24 hf
  obtain ⟨l⟩ := cs
  match l, hsz.trans cells24 with
  | [c0], _ =>
    have h0' : DataW.trod enc Tryd.prog W b0 spare held m 22 [c0] = some y0 := by
      have := h0
      rw [cells22] at this; exact this
    obtain ⟨A, n, c, R, rfl, hR⟩ := rows_in h0'
    exact ⟨A, n, c, R, rfl, hR⟩
end
theorem set_in {H : Type} {enc : TypeId × Value → H} {W : World} {base b0 : Nat} {spare : Nat → Bool} {held : Bool} {v : Value} {d : DataW H} {p : List MemPlace}
    (hv : Value.okWide Tryd.prog W .any base 28 v) (h : DataW.Trod enc Tryd.prog W b0 spare held 28 v d p) :
    ∃ (N : Int) (A : Option Addr) (len cap : Nat) (f : Nat → Nat), v = .agg #[.int .i64 N, .slice A len cap] ∧ Wds W A len f := by
  obtain ⟨cs, rfl, hsz⟩ := okWide_struct Tryd.underlying28 hv
  obtain ⟨fuel, hf⟩ := h
  obtain ⟨l⟩ := cs
  match l, hsz.trans cells28 with
  | [u, v], _ =>
    obtain ⟨r, rfl, rfl, hw⟩ := row_in hf
    exact ⟨r.N, r.A, r.l, r.c, r.f, rfl, hw⟩
theorem cells25 : Tryd.prog.cellsOf 25 = 1 := by kernel_rfl
theorem irow_in {H : Type} {enc : TypeId × Value → H} {W : World} {b0 : Nat} {spare : Nat → Bool} {held : Bool} {fuel : Nat} {v : Value} {y : DataW H × List MemPlace} (h : DataW.trod enc Tryd.prog W b0 spare held fuel 25 [v] = some y) :
    ∃ r : LsD, v = .slice r.A r.m r.c ∧ Ints W r.A r.m r.z := by
  rcases open_ints Tryd.underlying25 Tryd.underlying3 cells3 h with ⟨hcs, _⟩ | ⟨x, l, c, zs, hcs, _, hl, _, hz, _, hcell, _⟩
  · simp at hcs
    subst hcs
    exact ⟨⟨none, 0, 0, fun _ => 0⟩, rfl, fun h0 => absurd h0 (Nat.lt_irrefl _)⟩
  · simp at hcs
    subst hcs
    have hlz : l ≤ zs.length := by split at hz <;> omega
    refine ⟨⟨some x, l, c, fun k => zs.getD k 0⟩, rfl, fun h0 => ?_⟩
    replace h0 : 0 < l := h0
    obtain ⟨bl, off, rfl, hc'⟩ := ints_at hcell (by omega)
    exact ⟨bl, off, rfl, World.block_lt_of_cell? W _ (hc' 0 (by omega)), fun k hk => hc' k (by have : k < l := hk; omega)⟩
theorem vals_in {H : Type} {enc : TypeId × Value → H} {W : World} {base b0 : Nat} {spare : Nat → Bool} {held : Bool} {v : Value} {d : DataW H} {p : List MemPlace}
    (hv : Value.okWide Tryd.prog W .any base 25 v) (h : DataW.Trod enc Tryd.prog W b0 spare held 25 v d p) : ∃ (A : Option Addr) (m c : Nat) (z : Nat → Int), v = .slice A m c ∧ Ints W A m z := by
  obtain ⟨A, m, c, rfl⟩ := okWide_slice Tryd.underlying25 hv
  obtain ⟨fuel, hf⟩ := h
  obtain ⟨r, e, hr⟩ := irow_in hf
  injection e with e1 e2 e3
  subst e1 e2 e3
  exact ⟨_, _, _, r.z, rfl, hr⟩
theorem lss_in {H : Type} {enc : TypeId × Value → H} {W : World} {base b0 : Nat} {spare : Nat → Bool} {held : Bool} {v : Value} {d : DataW H} {p : List MemPlace}
    (hv : Value.okWide Tryd.prog W .any base 29 v) (h : DataW.Trod enc Tryd.prog W b0 spare held 29 v d p) : ∃ (A : Option Addr) (n c : Nat) (B : Nat → LsD), v = .slice A n c ∧ Lss W A n B := by
  obtain ⟨A, n, c, rfl⟩ := okWide_slice Tryd.underlying29 hv
  obtain ⟨fuel, hf⟩ := h
  rcases Go.Deep.open_slice Tryd.underlying29 hf with ⟨hcs, _⟩ | ⟨a, len, cap, m, k, D, Pl, hcs, _, _, _, hm, _, hi⟩
  · injection (show [Value.slice A n c] = [Value.slice none 0 0] from hcs) with e _
    injection e with e1 e2 e3
    subst e1 e2 e3
    exact ⟨none, 0, 0, fun _ => ⟨none, 0, 0, fun _ => 0⟩, rfl, fun h0 => absurd h0 (Nat.lt_irrefl _)⟩
  · injection (show [Value.slice A n c] = [Value.slice (some a) len cap] from hcs) with e _
    injection e with e1 e2 e3
    subst e1 e2 e3
    have hlm : n ≤ m := by rw [hm]; split <;> omega
    have hall : ∀ i, ∃ r : LsD, i < n → W.cell? (a.add i) = some (.slice r.A r.m r.c) ∧ Ints W r.A r.m r.z := by
      intro i
      by_cases hil : i < n
      · obtain ⟨cs', hc, ht⟩ := hi i (by omega)
        rw [cells25] at hc
        obtain ⟨_, hcl, hat⟩ := World.cells?_some hc
        match cs', hcl with
        | [u], _ =>
          obtain ⟨r, rfl, hr⟩ := irow_in ht
          refine ⟨r, fun _ => ⟨?_, hr⟩⟩
          have := hat 0 (by decide)
          have e : (a.add (i * 1)).add 0 = a.add i := by simp [Addr.add]
          rw [e] at this; exact this
      · exact ⟨⟨none, 0, 0, fun _ => 0⟩, fun h => absurd h hil⟩
    obtain ⟨B, hB⟩ := Classical.axiomOfChoice hall
    refine ⟨some a, n, c, B, rfl, fun h0 => ?_⟩
    obtain ⟨b, off, spot⟩ := a
    have hspot : spot = none := by
      have := (hB 0 h0).1
      simpa [Addr.add] using World.cell?_spot this
    subst hspot
    have hb : b < W.heap.size := by
      have := World.block_lt_of_cell? W _ (hB 0 h0).1
      simpa [Addr.add] using this
    refine ⟨b, off, rfl, hb, fun k hk => ?_⟩
    obtain ⟨h1, h2⟩ := hB k hk
    have e1 : (⟨b, off, none⟩ : Addr).add k = ⟨b, off + k, none⟩ := Go.WideShapes.add_plain _ _ _
    rw [e1] at h1
    exact ⟨h1, h2⟩
end Go.Proofs.YtngpfondnampjaaDoor
