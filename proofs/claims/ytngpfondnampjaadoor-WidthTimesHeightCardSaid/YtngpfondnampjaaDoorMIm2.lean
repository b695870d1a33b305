/- Matching, ported: MIm2. -/
import Derived.Test.YtngpfondnampjaaDoorMVis
import Derived.Laws.EntriesVeiled
namespace Go.Proofs.YtngpfondnampjaaDoor
open Go.RowKit
theorem out_new {w : World} {gL gR gS p : Nat} (h1 : gL < w.heap.size) (h2 : gR < w.heap.size) (h3 : gS < w.heap.size) (hp : w.heap.size ≤ p) : Out gL gR gS p := ⟨by omega, by omega, by omega⟩
theorem improve_any (lim n m gN gL gR gS : Nat) (nb : Nat → List Nat) (Ad : Nat → Option Addr) (cp : Nat → Nat) (hnb : ∀ a b, b ∈ nb a → b < m) (hlen : ∀ a, (nb a).length ≤ 2000) (l1 : lim ≤ gL) (l2 : lim ≤ gR) (l3 : lim ≤ gS)
    (f a : Nat) (g : Gr) (w : World) (hN : NbAt w (Out gL gR gS) gN n nb Ad cp) (hS : StAt w n m gL gR gS g) (LR : gL ≠ gR) (LS : gL ≠ gS) (RS : gR ≠ gS) (hM : Mat n m nb g) (ha : a < n) (hat : g.L a = -1 ∨ ∃ b : Nat, g.L a = b ∧ g.seen b = true) (hf : un g.seen m < f) :
    Calls Tryd.prog 96 #[.agg #[.slice (some ⟨gN, 0, none⟩) n n, .slice (some ⟨gL, 0, none⟩) n n, .slice (some ⟨gR, 0, none⟩) m m], .int .i64 a, .slice (some ⟨gS, 0, none⟩) m m] w (VisEnd w lim n m gL gR gS (vis nb f a g)) := by
  have lL := hS.l.lt
  have lR := hS.r.lt
  have lS := hS.s.lt
  obtain ⟨o1, ho1⟩ : ∃ o, o = Obj.cells #[.slice (some ⟨gN, 0, none⟩) n n, .slice (some ⟨gL, 0, none⟩) n n, .slice (some ⟨gR, 0, none⟩) m m] 100 := ⟨_, rfl⟩
  obtain ⟨o2, ho2⟩ : ∃ o, o = Obj.cells #[.slice (some ⟨gS, 0, none⟩) m m] 65 := ⟨_, rfl⟩
  obtain ⟨W, hW⟩ : ∃ W, W = ((w.alloc o1).alloc o2).alloc (.cells #[.nilFunc] 69) := ⟨_, rfl⟩
  have k1 : (w.alloc o1).heap.size = w.heap.size + 1 := by simp
  have k2 : ((w.alloc o1).alloc o2).heap.size = w.heap.size + 1 + 1 := by simp
  have bW : Below w.heap.size w W := by rw [hW]; exact below_next (below_next (below_new w o1) (below_new _ o2)) (below_new _ _)
  have e1 : W.heap[w.heap.size]? = some o1 := by
    rw [hW]
    exact ((below_new ((w.alloc o1).alloc o2) _).block _ (by rw [k2]; omega)).trans (((below_new (w.alloc o1) o2).block _ (by rw [k1]; omega)).trans (heap_alloc_new w o1))
  have e2 : W.heap[w.heap.size + 1]? = some o2 := by
    rw [hW]
    exact ((below_new ((w.alloc o1).alloc o2) _).block _ (by rw [k2]; omega)).trans (by rw [← k1]; exact heap_alloc_new (w.alloc o1) o2)
  have e3 : W.heap[w.heap.size + 1 + 1]? = some (.cells #[.nilFunc] 69 (0, 0)) := by
    rw [hW, ← k2]; exact heap_alloc_new ((w.alloc o1).alloc o2) _
  have z0 : W.cell? ⟨w.heap.size + 1 + 1, 0, none⟩ = some .nilFunc := cell_of_row _ _ 0 _ _ _ e3
  have z1 : W.frozen? ⟨w.heap.size + 1 + 1, 0, none⟩ = false := frozen_of_row _ _ 0 _ _ e3
  have hEnv : Hid (Env (W.setCell ⟨w.heap.size + 1 + 1, 0, none⟩ (cv w.heap.size (w.heap.size + 1) (w.heap.size + 1 + 1))) n m w.heap.size (w.heap.size + 1) (w.heap.size + 1 + 1) gN gL gR gS nb Ad cp) := by
    have bs := bW.setCell (p := ⟨w.heap.size + 1 + 1, 0, none⟩) (by show w.heap.size ≤ w.heap.size + 1 + 1; omega) (cv w.heap.size (w.heap.size + 1) (w.heap.size + 1 + 1))
    refine ⟨?_, ?_, ?_, out_new lL lR lS (by omega), out_new lL lR lS (by omega), out_new lL lR lS (by omega), hN.keep bs.size (fun b hb _ => bs.block b hb), LR, LS, RS⟩
    · rw [Below.heap_setCell _ _ _ _ (by show w.heap.size ≠ w.heap.size + 1 + 1; omega), e1, ho1]
    · rw [Below.heap_setCell _ _ _ _ (by show w.heap.size + 1 ≠ w.heap.size + 1 + 1; omega), e2, ho2]
    · have h0 := heap_setCell_same W (w.heap.size + 1 + 1) 0 _ _ (cv w.heap.size (w.heap.size + 1) (w.heap.size + 1 + 1)) e3
      simpa using h0
  have bS : Below w.heap.size w (W.setCell ⟨w.heap.size + 1 + 1, 0, none⟩ (cv w.heap.size (w.heap.size + 1) (w.heap.size + 1 + 1))) := bW.setCell (p := ⟨w.heap.size + 1 + 1, 0, none⟩) (by show w.heap.size ≤ w.heap.size + 1 + 1; omega) _
  have hSt : Hid (StAt (W.setCell ⟨w.heap.size + 1 + 1, 0, none⟩ (cv w.heap.size (w.heap.size + 1) (w.heap.size + 1 + 1))) n m gL gR gS g) := Lib.hid ⟨row_below hS.l bS, row_below hS.r bS, row_below hS.s bS⟩
  have hc0 : (W.setCell ⟨w.heap.size + 1 + 1, 0, none⟩ (cv w.heap.size (w.heap.size + 1) (w.heap.size + 1 + 1))).cell? ⟨w.heap.size + 1 + 1, 0, none⟩ = some (.func (Fn.func 97) #[] #[.pointer (some ⟨w.heap.size, 0, none⟩), .pointer (some ⟨w.heap.size + 1, 0, none⟩), .pointer (some ⟨w.heap.size + 1 + 1, 0, none⟩)]) := hEnv.out.cf
  have hBS := Lib.hid bS
  clear bW e1 e2 e3 bS k1 k2 hS hN
  have hV := Lib.hid (visit_any lim n m w.heap.size (w.heap.size + 1) (w.heap.size + 1 + 1) gN gL gR gS nb Ad cp hnb hlen l1 l2 l3 f a g _ hEnv.out hSt.out hM ha hat hf)
  have hlw : lim ≤ w.heap.size := by omega
  rw [ho1, ho2] at hW
  have HW := Lib.hid hW
  clear hW ho1 ho2 hM hat hf hnb hlen
  unfold cv at hV hc0 hBS
  go_enter Tryd.func96, Tryd.ntmps96
  go_upto_region 2 with fail
  rw [← HW.out]
  clear HW hSt hEnv
  go_wp2_with fail
  refine hV.out.mono ?_; rintro e w2 ⟨rfl, S2, b2, k2⟩
  go_wp2_with fail
  go_ret
  exact ⟨rfl, S2, (hBS.out.mono hlw).trans b2, ⟨Nat.le_trans hBS.out.size k2.1, fun b hb hx => (k2.2 b (Nat.lt_of_lt_of_le hb hBS.out.size) hx).trans (hBS.out.block b hb)⟩⟩
end Go.Proofs.YtngpfondnampjaaDoor
