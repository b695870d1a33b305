/- The reference's Closure. -/
import Derived.Test.YtjdceafkcakbjaaFCRM
import Derived.Test.YtjdceafkcakbjaaFRCu
import Derived.Test.YtjdceafkcakbjaaFClK
import Derived.Test.YtjdceafkcakbjaaFRefE
import Derived.Deep.RegionLaw
namespace Go.Proofs.Ytjdceafkcakbjaa
open Go.RowKit
theorem own_other {w : World} {base : Nat} {e : TypeId} {size : Nat} {v : Value} {n : Nat} {xs : List Value} (h : w.ownsRow base e size v n xs) {p : Addr} (hp : p.block < base) (u : Value) : (w.setCell p u).ownsRow base e size v n xs :=
  h.kept (row := some p.block) ⟨rfl, rfl, rfl, by simp [World.setCell], fun k _ hne => Below.heap_setCell w p u k (fun e => hne (by rw [e]))⟩ (by
    by_cases hv : v.ownBlock = some p.block
    · exact absurd (h.lt _ hv).1 (by omega)
    · exact Or.inr hv)
theorem netAt_set1 {w : World} {p : Nat} {N : Int} {A A' : Option Addr} {l c l' c' : Nat} (h : NetAt w p N A l c) : NetAt (w.setCell ⟨p, 1, none⟩ (.slice A' l' c')) p N A' l' c' := by
  have h0 := heap_setCell_same w p 1 _ _ (.slice A' l' c') h
  show _ = _
  simpa using h0
/- the same append, as one step of a region that draws -/
theorem step_append_edge {ops : Array Oper} {o : Oper} {a : Act} {K : Act → World → Prop} {Q : Exit → Act → World → Prop} {Ee : Prop} (hgd : o.guard = none) (s x : Operand)
    (ho : o.op = .call { callee := .builtin .append, args := #[s, x], argTypes := #[22, 22] }) (base : Nat) (v : Value) (l : List EdgeD) (f t c : Int) (w : World) (hs : a.eval s = v)
    (hown : w.ownsRow base 50 3 v l.length (evals l)) (B : Nat) (hx : a.eval x = .slice (some ⟨B, 0, none⟩) 1 1) (hB : w.heap[B]? = some (.cells #[.int .i64 f, .int .i64 t, .int .i64 c] 50 (0, 0))) (hl : l.length ≤ 1000000) (hbase : base ≤ w.heap.size)
    (h : ∀ g c' w', w'.ownsRow base 50 3 (.slice (some ⟨g, 0, none⟩) (l.length + 1) c') (l.length + 1) (evals (l ++ [EdgeD.mk f t c])) → w.grownBy w' v.ownBlock → K (a.put o.dst (.slice (some ⟨g, 0, none⟩) (l.length + 1) c')) w') :
    if Region.wanted o (yielded ops a.tmps) = true then Oper.wp Try.prog o a w K Q else Ee := by
  obtain ⟨i, hi, hz, hsz', hb'⟩ := info_parts Try.info50
  refine step_append_lies w hgd s x 22 ho base 50 i _ 3 24 Try.underlying22 hi hz hsz' hb' rfl (by decide) v l.length (evals l) hs hown ⟨B, 0, none⟩ 1 1 [.int .i64 f, .int .i64 t, .int .i64 c] hx (by simp) ?_ ?_ (by decide) (by unfold maxLen; omega) (by omega) hbase w.heap.size rfl (fun g cap w' h1 h2 _ _ => h g cap w' (by rw [evals_snoc]; exact h1) h2)
  · intro j u hu'
    have hadd : (⟨B, 0, none⟩ : Addr).add j = ⟨B, j, none⟩ := by unfold Addr.add; split <;> simp_all
    rw [hadd, cell_of_row _ _ j _ _ _ hB]
    simpa using hu'
  · intro u hu
    simp at hu
    rcases hu with rfl | rfl | rfl <;> rfl
/- what lies in memory while the network is made -/
structure ClAt (w wr : World) (k : Nat) (A : Option Addr) (c : Nat) (L : List EdgeD) : Prop where
  res : SetAt wr w.heap.size 0 none 0 0
  net : NetAt wr (w.heap.size + 1) ((k : Int) + 2) A L.length c
  own : wr.ownsRow (w.heap.size + 2) 50 3 (.slice A L.length c) L.length (evals L)
  bl : Below w.heap.size w wr
theorem ClAt.drew {w wr : World} {k : Nat} {A : Option Addr} {c : Nat} {L : List EdgeD} (h : ClAt w wr k A c L) : ClAt w wr.drew k A c L := ⟨h.res, h.net, h.own.drew, h.bl.drew⟩
theorem ClAt.drewN {w wr : World} {k : Nat} {A : Option Addr} {c : Nat} {L : List EdgeD} (h : ClAt w wr k A c L) (m : Nat) : ClAt w (wr.drewN m) k A c L := ⟨h.res, h.net, own_below h.own (below_drewN (Below.refl _ _) m), below_drewN h.bl m⟩
/- an edge has been put at the end of the list, and the list has been stored -/
theorem ClAt.step {w wr w9 : World} {k : Nat} {A A' : Option Addr} {c c' : Nat} {L : List EdgeD} {e : EdgeD} {o : Obj} (h : ClAt w wr k A c L)
    (hown : w9.ownsRow (w.heap.size + 2) 50 3 (.slice A' (L.length + 1) c') (L.length + 1) (evals (L ++ [e]))) (hg : (wr.alloc o).grownBy w9 (Value.slice A L.length c).ownBlock) :
    ClAt w (w9.setCell ⟨w.heap.size + 1, 1, none⟩ (.slice A' (L.length + 1) c')) k A' c' (L ++ [e]) ∧ NetAt w9 (w.heap.size + 1) ((k : Int) + 2) A L.length c := by
  have hA := h.own.alloc o
  have hsz := h.bl.size
  have hnl := h.net.lt
  have b9 : Below (w.heap.size + 2) (wr.alloc o) w9 := grown_below3 (Below.refl _ _) hA (Nat.le_refl _) (by simp; omega) hg
  have b9' : Below (w.heap.size + 2) wr w9 := (((Below.refl _ wr).alloc (Nat.le_refl _) o).mono (by omega)).trans b9
  have hn9 : NetAt w9 (w.heap.size + 1) ((k : Int) + 2) A L.length c := (b9'.block _ (by omega)).trans h.net
  have hr9 : SetAt w9 w.heap.size 0 none 0 0 := (b9'.block _ (by omega)).trans h.res
  have hl : (L ++ [e]).length = L.length + 1 := by simp
  refine ⟨⟨hr9.far (by show w.heap.size ≠ w.heap.size + 1; omega) _, ?_, ?_, (h.bl.trans (b9'.mono (by omega))).setCell (by show w.heap.size ≤ w.heap.size + 1; omega) _⟩, hn9⟩
  · rw [hl]; exact netAt_set1 hn9
  · rw [hl]; exact own_other hown (by show w.heap.size + 1 < w.heap.size + 2; omega) _
def RClEnd (w : World) (k q : Nat) (z : Nat → Int) (y : Nat → Int × Int) (e : Ending) (w' : World) : Prop :=
  ∃ g T, e = .returned (.tuple #[.agg #[.int .i64 k, .slice (some ⟨g, 0, none⟩) ((k + 63) / 64) ((k + 63) / 64)], .int .i64 (wgt z T k)]) ∧ w'.rowIs g 61 ((k + 63) / 64) (fun j => .int .u64 (bw T k j : Nat)) ∧ Best k q z y T ∧ w.heap.size ≤ g ∧ Below w.heap.size w w'
theorem most_step (z : Nat → Int) (K : Nat) : most z (K + 1) = most z K + (if 0 < z K then z K else 0) := by
  show 1 + (pos z K + (if 0 < z K then z K else 0)) = 1 + pos z K + (if 0 < z K then z K else 0)
  rw [Int.add_assoc]
/- the first K marks -/
def bup (B : Nat → Bool) (K : Nat) : Nat → Bool := fun j => if j < K then B j else false
theorem bup_step {w : World} {g n : Nat} {B : Nat → Bool} {K : Nat} (h : w.rowIs g 4 n (fun j => .bool (bup B K j))) : (w.setCell ⟨g, K, none⟩ (.bool (B K))).rowIs g 4 n (fun j => .bool (bup B (K + 1) j)) :=
  (h.set K _).congr fun j _ => by
    show (if j = K then Value.bool (B K) else .bool (bup B K j)) = .bool (bup B (K + 1) j)
    unfold bup
    by_cases e : j = K
    · rw [if_pos e, if_pos (by omega), e]
    · rw [if_neg e]
      by_cases h2 : j < K
      · rw [if_pos h2, if_pos (by omega)]
      · rw [if_neg h2, if_neg (by omega)]
def RCutK (w : World) (k q : Nat) (z : Nat → Int) (y : Nat → Int × Int) (e : Ending) (w' : World) : Prop :=
  ∃ g B F, e = .returned (.agg #[.int .i64 ((k : Int) + 2), .slice (some ⟨g, 0, none⟩) ((k + 65) / 64) ((k + 65) / 64)]) ∧ w'.rowIs g 61 ((k + 65) / 64) (fun j => .int .u64 (bw B (k + 2) j : Nat)) ∧ (rNet k q z y).Done k (k + 1) (resid (rNet k q z y).cp F) ∧ (∀ v, B v = true ↔ (rNet k q z y).Reach (resid (rNet k q z y).cp F) k v) ∧ w.heap.size ≤ g ∧ Below w.heap.size w w'
set_option maxRecDepth 100000 in
set_option maxHeartbeats 16000000 in
theorem refClo_any (k q c d : Nat) (A B : Option Addr) (z : Nat → Int) (y : Nat → Int × Int) (w : World) (hA : Ints w A k z) (hB : Prs w B q y) (h : CArgs k q z y) :
    Calls Try.prog 34 #[.slice A k c, .slice B q d] w (RClEnd w k q z y) := by
  have HA := Lib.hid hA; clear hA
  have HB := Lib.hid hB; clear hB
  have hk5 := h.k5
  have hq1 := h.q1
  have HC := Lib.hid h; clear h
  have hw1 : IntKind.i64.wrap ((k : Int) + 2) = (k : Int) + 2 := IntWalk.i64_in _ (by omega)
  have hw2 : IntKind.i64.wrap ((k : Int) + 1) = (k : Int) + 1 := IntWalk.i64_in _ (by omega)
  have s0 := (setAt_new w 0 none 0 0).alloc (.cells #[.int .i64 ((k : Int) + 2), .slice none 0 0] 24)
  have n0 := netAt_new (w.alloc (.cells #[.int .i64 0, .slice none 0 0] 28)) ((k : Int) + 2) none 0 0
  rw [show (w.alloc (.cells #[.int .i64 0, .slice none 0 0] 28)).heap.size = w.heap.size + 1 by simp] at n0
  have b0 := (below_new w (.cells #[.int .i64 0, .slice none 0 0] 28)).alloc (below_new w _).size (.cells #[.int .i64 ((k : Int) + 2), .slice none 0 0] 24)
  have hA0 : ClAt w ((w.alloc (.cells #[.int .i64 0, .slice none 0 0] 28)).alloc (.cells #[.int .i64 ((k : Int) + 2), .slice none 0 0] 24)) k none 0 [] := ⟨s0, n0, World.ownsRow_nil _ _ _ _, b0⟩
  have hm0 : Hid ((1 : Int) = most z 0) := rfl
  clear s0 n0 b0
  go_enter Try.func34, Try.ntmps34
  go_wp2_with fail
  generalize (w.alloc (.cells #[.int .i64 0, .slice none 0 0] 28)).alloc (.cells #[.int .i64 ((k : Int) + 2), .slice none 0 0] 24) = W at *
  go_loopw [8, 9] (fun mo i wr => ∃ (K : Nat) (A' : Option Addr) (c' : Nat) (M : Int), K ≤ k ∧ i = .int .i64 K ∧ mo = .int .i64 M ∧ Hid (M = most z K) ∧ ClAt w wr k A' c' (rW z k ((k + 1 : Nat) : Int) K)) (fun _ i _ => k - (intOf i).toNat)
  case atStart => exact ⟨0, none, 0, 1, by omega, rfl, rfl, hm0, hA0⟩
  case round =>
    clear hA0 hm0
    obtain ⟨K, A', c', M, hK, rfl, rfl, hM, hA⟩ := hrel
    have hwrap : IntKind.i64.wrap ((K : Int) + 1) = (K : Int) + 1 := IntWalk.i64_in _ (by omega)
    have k1 := hA.net.c1
    have f1 := hA.net.free 1
    by_cases hlt : K < k
    · obtain ⟨b, off, rfl, hbl, hcz⟩ := (HA.out.below hA.bl) (by omega)
      have x0 := hcz K hlt
      have hzK := HC.out.z K hlt
      unfold WOk at hzK
      have hMb : 0 ≤ M ∧ M ≤ 1 + 536870912000 := by
        have h1 := hM.out
        have h2 := pos_bound (z := z) (K := K) (fun i hi => HC.out.z i (by omega))
        have h3 := pos_nonneg z K
        unfold most at h1
        omega
      have hMs := Lib.hid (most_step z K)
      have hrw : Hid (rW z k ((k + 1 : Nat) : Int) (K + 1) = rW z k ((k + 1 : Nat) : Int) K ++ [if 0 < z K then ⟨(k : Int), (K : Int), z K⟩ else ⟨(K : Int), ((k + 1 : Nat) : Int), -z K⟩]) := rfl
      have hlen := rW_len z k ((k + 1 : Nat) : Int) K
      have hLK : (rW z k ((k + 1 : Nat) : Int) K).length ≤ 500 := by omega
      clear hcz hlen
      generalize rW z k ((k + 1 : Nat) : Int) K = L at *
      generalize z K = zk at *
      by_cases hpos : 0 < zk
      · have q1 : decide (0 < zk) = true := decide_eq_true hpos
        have hst : Hid (rW z k ((k + 1 : Nat) : Int) (K + 1) = L ++ [⟨(k : Int), (K : Int), zk⟩]) := by have := hrw.out; rw [if_pos hpos] at this; exact this
        have hMn : Hid (M + zk = most z (K + 1)) := by show _ = _; rw [hMs.out, if_pos hpos, ← hM.out]
        have hwm : IntKind.i64.wrap (M + zk) = M + zk := IntWalk.i64_in _ (by omega)
        clear hM hMs hrw hpos
        go_upto_region 8 with fail
        have hA2 := hA.drew
        have x2 : wr.drew.cell? ⟨b, off + K, none⟩ = _ := x0
        have HA2 := Lib.hid hA2
        have hsz := hA2.bl.size
        have hns := hA2.net.lt
        have HX2 := Lib.hid x2
        have kd := hA2.net.c1
        have hns2 : w.heap.size + 1 < wr.heap.size := hA.net.lt
        clear hA2
        go_region_law (refine step_append_edge rfl (.tmp 31) (.tmp 39) rfl (w.heap.size + 2) _ L k K zk _ (by simp [Act.eval]) (HA2.out.own.alloc _) wr.heap.size (by simp [Act.eval]) (heap_alloc_new wr.drew _) (by omega) (by simp; omega) ?_; intro g9 c9 w9 hown9 hg9; obtain ⟨hA9, hN9⟩ := HA2.out.step hown9 hg9; have f9 := hN9.free 1; have k9 := hN9.c1)
        all_goals
          have x9 : (w9.setCell ⟨w.heap.size + 1, 1, none⟩ (.slice (some ⟨g9, 0, none⟩) (L.length + 1) c9)).cell? ⟨b, off + K, none⟩ = some (.int .i64 zk) := by
            obtain ⟨b', off', e1, hb', hc'⟩ := HA.out (by omega)
            injection e1 with e1
            injection e1 with e1 e2
            subst e1 e2
            have h1 := hA9.bl.cell (p := ⟨b, off + K, none⟩) hb'
            have h2 := HA2.out.bl.cell (p := ⟨b, off + K, none⟩) hb'
            rw [h1, ← h2]; exact HX2.out
          clear hA k1 f1 x0 hbl
          clear HA2 hown9 hg9 hN9 HX2 x2 kd
          go_wp2_with fail
          clear x9 k9 f9
          go_roundw
          case rel => exact ⟨K + 1, some ⟨g9, 0, none⟩, c9, _, by omega, by go_num, rfl, hMn, by rw [hst.out]; exact hA9⟩
          case measure => simp [intOf]; omega
      · have q1 : decide (0 < zk) = false := decide_eq_false hpos
        have hst : Hid (rW z k ((k + 1 : Nat) : Int) (K + 1) = L ++ [⟨(K : Int), ((k + 1 : Nat) : Int), -zk⟩]) := by have := hrw.out; rw [if_neg hpos] at this; exact this
        have hMn : Hid (M = most z (K + 1)) := by show _ = _; rw [hMs.out, if_neg hpos, ← hM.out]; omega
        have hneg : IntKind.i64.wrap (-zk) = -zk := IntWalk.i64_in _ (by omega)
        clear hM hMs hrw hpos
        go_upto_region 10 with fail
        have hA2 := hA.drew
        have HA2 := Lib.hid hA2
        have hsz := hA2.bl.size
        have hns := hA2.net.lt
        have kd := hA2.net.c1
        have xd : wr.drew.cell? ⟨b, off + K, none⟩ = _ := x0
        have hns2 : w.heap.size + 1 < wr.heap.size := hA.net.lt
        clear hA2
        go_region_law (refine step_append_edge rfl (.tmp 49) (.tmp 59) rfl (w.heap.size + 2) _ L K ((k : Int) + 1) (-zk) _ (by simp [Act.eval]) (HA2.out.own.alloc _) wr.heap.size (by simp [Act.eval]) (heap_alloc_new wr.drew _) (by omega) (by simp; omega) ?_; intro g9 c9 w9 hown9 hg9; obtain ⟨hA9, hN9⟩ := HA2.out.step hown9 hg9; have f9 := hN9.free 1; have k9 := hN9.c1)
        all_goals
          clear hA k1 f1 x0 hbl
          clear HA2 hown9 hg9 hN9 kd xd
          go_wp2_with fail
          clear k9 f9
          go_roundw
          case rel => exact ⟨K + 1, some ⟨g9, 0, none⟩, c9, _, by omega, by go_num, rfl, hMn, by rw [hst.out]; exact hA9⟩
          case measure => simp [intOf]; omega
    · obtain rfl : K = k := by omega
      have hlen := rW_len z K ((K + 1 : Nat) : Int) K
      have hL0 : (rW z K ((K + 1 : Nat) : Int) K).length ≤ 500 := by omega
      obtain ⟨L0, hL0e⟩ : ∃ L0, L0 = rW z K ((K + 1 : Nat) : Int) K := ⟨_, rfl⟩
      rw [← hL0e] at hA hL0
      have HL0 := Lib.hid hL0e
      have hMb : 0 ≤ M ∧ M ≤ 1 + 536870912000 := by
        have h1 := hM.out
        have h2 := pos_bound (z := z) (K := K) HC.out.z
        have h3 := pos_nonneg z K
        unfold most at h1
        omega
      clear hlen hL0e k1 f1
      have hrn0 : Hid (L0 = rN M y L0 0) := rfl
      go_wp2_with fail
      go_loopw [10] (fun i wr => ∃ (D : Nat) (A' : Option Addr) (c' : Nat), D ≤ q ∧ i = .int .i64 D ∧ ClAt w wr K A' c' (rN M y L0 D)) (fun i _ => q - (intOf i).toNat)
      case atStart => exact ⟨0, A', c', by omega, rfl, by rw [← hrn0.out]; exact hA⟩
      case round =>
        clear hA hrn0 hwrap
        obtain ⟨D, A', c', hD, rfl, hA⟩ := hrel
        have hwrap : IntKind.i64.wrap ((D : Int) + 1) = (D : Int) + 1 := IntWalk.i64_in _ (by omega)
        have k1 := hA.net.c1
        have f1 := hA.net.free 1
        by_cases hlt2 : D < q
        · obtain ⟨b, off, rfl, hbl, hcz⟩ := HB.out (by omega)
          obtain ⟨v0, v1⟩ := hcz D hlt2
          have x0 := (hA.bl.cell (p := ⟨b, off + D * 2, none⟩) hbl).trans v0
          have x1 := (hA.bl.cell (p := ⟨b, off + D * 2 + 1, none⟩) hbl).trans v1
          have hrw : Hid (rN M y L0 (D + 1) = rN M y L0 D ++ (if (y D).1 ≠ (y D).2 then [⟨(y D).1, (y D).2, M⟩] else [])) := rfl
          have hlen := rN_len M y L0 D
          have hLK : (rN M y L0 D).length ≤ 2000 := by omega
          clear hcz hlen v0 v1
          generalize rN M y L0 D = L at *
          generalize (y D).1 = y1 at *
          generalize (y D).2 = y2 at *
          by_cases hne : y1 = y2
          · have q1 : (y1 != y2) = false := by rw [hne]; simp
            have hst : Hid (rN M y L0 (D + 1) = L) := by have := hrw.out; rw [if_neg (fun h => h hne), List.append_nil] at this; exact this
            clear hrw hne
            go_wp2_with fail
            go_quiet (fail)
            have hA3 := fun m => hA.drewN m
            clear hA k1 f1 x0 x1
            go_wp2_with fail
            go_roundw
            case rel => exact ⟨D + 1, A', c', by omega, by go_num, by rw [hst.out]; exact hA3 _⟩
            case measure => simp [intOf]; omega
          · have q1 : (y1 != y2) = true := bne_iff_ne.2 hne
            have hst : Hid (rN M y L0 (D + 1) = L ++ [⟨y1, y2, M⟩]) := by have := hrw.out; rw [if_pos hne] at this; exact this
            clear hrw hne
            go_upto_region 14 with fail
            go_quiet (fail)
            generalize hWq : wr.drewN _ = Wq
            have hA3 : ClAt w Wq K A' c' L := by rw [← hWq]; exact hA.drewN _
            have x0' : Wq.cell? ⟨b, off + D * 2, none⟩ = some (.int .i64 y1) := by rw [← hWq]; exact x0
            have x1' : Wq.cell? ⟨b, off + D * 2 + 1, none⟩ = some (.int .i64 y2) := by rw [← hWq]; exact x1
            have k1' := hA3.net.c1
            have hbl3 : b < Wq.heap.size := Nat.lt_of_lt_of_le hbl hA3.bl.size
            clear hWq hA k1 f1 x0 x1
            go_upto_region 15 with fail
            have hA2 := hA3.drew
            have HA2 := Lib.hid hA2
            have hsz := hA2.bl.size
            have hns := hA2.net.lt
            have kd := hA2.net.c1
            have xd0 : Wq.drew.cell? ⟨b, off + D * 2, none⟩ = _ := x0'
            have xd1 : Wq.drew.cell? ⟨b, off + D * 2 + 1, none⟩ = _ := x1'
            have hns2 : w.heap.size + 1 < Wq.heap.size := hA3.net.lt
            clear hA2
            go_region_law (refine step_append_edge rfl (.tmp 80) (.tmp 93) rfl (w.heap.size + 2) _ L y1 y2 M _ (by simp [Act.eval]) (HA2.out.own.alloc _) Wq.heap.size (by simp [Act.eval]) (heap_alloc_new Wq.drew _) (by omega) (by simp; omega) ?_; intro g9 c9 w9 hown9 hg9; obtain ⟨hA9, hN9⟩ := HA2.out.step hown9 hg9; have f9 := hN9.free 1; have k9 := hN9.c1)
            all_goals
              clear hA3 k1' x0' x1' hbl3
              clear HA2 hown9 hg9 hN9 kd xd0 xd1
              go_wp2_with fail
              clear k9 f9
              go_roundw
              case rel => exact ⟨D + 1, some ⟨g9, 0, none⟩, c9, by omega, by go_num, by rw [hst.out]; exact hA9⟩
              case measure => simp [intOf]; omega
        · obtain rfl : D = q := by omega
          have hrl : rN M y L0 D = rL K D z y := by unfold rL; rw [hM.out, HL0.out]
          rw [hrl] at hA
          clear hrl hL0 HL0 hMb hM f1 k1
          have k0 := hA.net.c0
          have k1 := hA.net.c1
          obtain ⟨A2, c2, e2, hE2⟩ := own_edges hA.own
          injection e2 with e2 _ e3
          subst e2 e3
          have HRC : Hid (Calls Try.prog 23 #[.agg #[.int .i64 ((K : Int) + 2), .slice A' (rL K D z y).length c'], .int .i64 K, .int .i64 ((K : Int) + 1)] wr (RCutK wr K D z y)) :=
            (refCut_any (K + 2) _ c' K (K + 1) A' _ wr hE2 HC.out.rnet (by omega) (by omega) (by omega))
          have HS := Lib.hid hA.res
          have HBw := Lib.hid hA.bl
          clear hE2 hA
          go_wp2_with fail
          refine HRC.out.mono ?_
          rintro e w9 ⟨g, T, F, rfl, hrow, hdn, hT, hg, b9⟩
          have s9 := ((HS.out.below b9).alloc (.cells #[.int .i64 ((K : Int) + 2), .slice (some ⟨g, 0, none⟩) ((K + 65) / 64) ((K + 65) / 64)] 28)).alloc (.cells (madeCells #[.bool false] K) 4)
          have B9 := ((below_next HBw.out b9).alloc (below_next HBw.out b9).size (.cells #[.int .i64 ((K : Int) + 2), .slice (some ⟨g, 0, none⟩) ((K + 65) / 64) ((K + 65) / 64)] 28))
          have B9 := B9.alloc B9.size (.cells (madeCells #[.bool false] K) 4)
          have hr9 := (hrow.alloc (.cells #[.int .i64 ((K : Int) + 2), .slice (some ⟨g, 0, none⟩) ((K + 65) / 64) ((K + 65) / 64)] 28)).alloc (.cells (madeCells #[.bool false] K) 4)
          have t9 := (setAt_new w9 ((K : Int) + 2) (some ⟨g, 0, none⟩) ((K + 65) / 64) ((K + 65) / 64)).alloc (.cells (madeCells #[.bool false] K) 4)
          have hgl := hrow.lt
          have hwl := (below_next HBw.out b9).size
          have hsl := (HS.out.below b9).lt
          have hbr : ((w9.alloc (.cells #[.int .i64 ((K : Int) + 2), .slice (some ⟨g, 0, none⟩) ((K + 65) / 64) ((K + 65) / 64)] 28)).alloc (.cells (madeCells #[.bool false] K) 4)).rowIs (w9.heap.size + 1) 4 K (fun j => .bool (bup T 0 j)) := by
            have := World.rowIs_made (w9.alloc (.cells #[.int .i64 ((K : Int) + 2), .slice (some ⟨g, 0, none⟩) ((K + 65) / 64) ((K + 65) / 64)] 28)) (.bool false) K 4
            rw [show (w9.alloc (.cells #[.int .i64 ((K : Int) + 2), .slice (some ⟨g, 0, none⟩) ((K + 65) / 64) ((K + 65) / 64)] 28)).heap.size = w9.heap.size + 1 by simp] at this
            exact this.congr fun j _ => by unfold bup; rw [if_neg (Nat.not_lt_zero _)]
          have hbest : Hid (Best K D z y (bup T K)) := HC.out.rbest hdn (fun v hv => by unfold bup; rw [if_pos hv]; exact hT v)
          have hmk := make_bools K (by omega)
          have hbt : Hid (∀ i, i < K → bt (bw T (K + 2)) i = T i) := fun i hi => by rw [Bool.eq_iff_iff, bw_bt]; exact ⟨fun h => h.2, fun h => ⟨by omega, h⟩⟩
          have hm2a : (K + 65) / 64 * 64 ≤ K + 65 := by omega
          have hm2b : K + 65 < (K + 65) / 64 * 64 + 64 := by omega
          have hw0 : Hid ((0 : Int) = wgt z T 0) := rfl
          clear hrow hdn hT b9 k0 k1 HRC HS HBw
          go_upto_region 17 with fail
          generalize hm2e : (K + 65) / 64 = m2 at *
          clear hm2e
          go_wp2_with fail
          clear hmk
          generalize hp : w9.heap.size = p at *
          clear hp
          generalize (w9.alloc (.cells #[.int .i64 ((K : Int) + 2), .slice (some ⟨g, 0, none⟩) m2 m2] 28)).alloc (.cells (madeCells #[.bool false] K) 4) = W9 at *
          go_loopw [13, 14] (fun sm i wr => ∃ (D : Nat) (S : Int), D ≤ K ∧ i = .int .i64 D ∧ sm = .int .i64 S ∧ Hid (S = wgt z T D) ∧ SetAt wr w.heap.size 0 none 0 0 ∧ SetAt wr p ((K : Int) + 2) (some ⟨g, 0, none⟩) m2 m2 ∧ wr.rowIs g 61 m2 (fun j => .int .u64 (bw T (K + 2) j : Nat)) ∧ wr.rowIs (p + 1) 4 K (fun j => .bool (bup T D j)) ∧ Below w.heap.size w wr) (fun _ i _ => K - (intOf i).toNat)
          case atStart => exact ⟨0, 0, by omega, rfl, rfl, hw0, s9, t9, hr9, hbr, B9⟩
          case round =>
            clear s9 t9 hr9 hbr B9 hw0
            obtain ⟨D, S, hD, rfl, rfl, hS, hs, ht, hr, hb, hB⟩ := hrel
            have hwrap : IntKind.i64.wrap ((D : Int) + 1) = (D : Int) + 1 := IntWalk.i64_in _ (by omega)
            by_cases hlt3 : D < K
            · have hzD := HC.out.z D hlt3
              unfold WOk at hzD
              have hSb := wgt_bound (z := z) (S := T) (K := D) (fun i hi => HC.out.z i (by omega)) (by omega)
              rw [← hS.out] at hSb
              obtain ⟨bz, oz, ez, hbz, hcz⟩ := HA.out (by omega)
              have x0 := hcz D hlt3
              clear hcz
              obtain ⟨v, hv⟩ : ∃ v, T D = v := ⟨_, rfl⟩
              have hst : Hid (wgt z T (D + 1) = wgt z T D + (if v = true then z D else 0)) := by rw [← hv]; exact (rfl : _ = _)
              have HH := Lib.hid (refHas_any ((K : Int) + 2) (K + 2) D (some ⟨g, 0, none⟩) m2 m2 (bw T (K + 2)) v wr (row_wds hr (bw_u64 T m2 (K + 2))) (by omega) (by omega) (by omega) (by rw [hbt.out D hlt3, hv]))
              have hset := fun (w2 : World) (h2 : w2.rowIs (p + 1) 4 K (fun j => .bool (bup T D j))) => (by have := bup_step h2; rw [hv] at this; exact this : (w2.setCell ⟨p + 1, D, none⟩ (.bool v)).rowIs (p + 1) 4 K (fun j => .bool (bup T (D + 1) j)))
              have HSET := Lib.hid hset
              clear hset hv
              generalize z D = zk at *
              have k0 := ht.c0
              have k1 := ht.c1
              go_wp2_with fail
              refine HH.out.mono ?_; rintro e w10 ⟨rfl, b10⟩
              have hs2 := hs.below b10
              have ht2 := ht.below b10
              have hr2 := row_below hr b10
              have hb2 := row_below hb b10
              have hB2 := below_next hB b10
              have hpl := ht.lt
              have hbl := hb.lt
              have z0 := hb2.cell hlt3
              have z1 := hb2.frozen D
              have hb3 := HSET.out _ hb2
              have hs3 := hs2.far (q := ⟨p + 1, D, none⟩) (by show w.heap.size ≠ p + 1; omega) (.bool v)
              have ht3 := ht2.far (q := ⟨p + 1, D, none⟩) (by show p ≠ p + 1; omega) (.bool v)
              have hr3 := hr2.setOther (a := ⟨p + 1, D, none⟩) (by show g ≠ p + 1; omega) (.bool v)
              have hB3 := hB2.setCell (p := ⟨p + 1, D, none⟩) (by show w.heap.size ≤ p + 1; omega) (.bool v)
              have x1 := (hB3.cell (p := ⟨bz, oz + D, none⟩) hbz).trans x0
              have z3 : (w10.setCell ⟨p + 1, D, none⟩ (.bool v)).cell? ⟨p + 1, D, none⟩ = some (.bool v) := by
                have := (hb2.set D (.bool v)).cell hlt3
                rw [if_pos rfl] at this; exact this
              clear hs ht hr hb hB hs2 ht2 hr2 hb2 hB2 k0 k1 b10 HH HSET x0
              subst ez
              cases v with
              | false =>
                have hSn : Hid (S = wgt z T (D + 1)) := by show _ = _; rw [hst.out, ← hS.out]; simp
                clear hst hS
                go_wp2_with fail
                go_roundw
                case rel => exact ⟨D + 1, _, by omega, by go_num, rfl, hSn, hs3, ht3, hr3, hb3, hB3⟩
                case measure => simp [intOf]; omega
              | true =>
                have hSn : Hid (S + zk = wgt z T (D + 1)) := by show _ = _; rw [hst.out, ← hS.out]; simp
                have hws : IntKind.i64.wrap (S + zk) = S + zk := IntWalk.i64_in _ (by omega)
                clear hst hS
                go_wp2_with fail
                go_roundw
                case rel => exact ⟨D + 1, _, by omega, by go_num, rfl, hSn, hs3, ht3, hr3, hb3, hB3⟩
                case measure => simp [intOf]; omega
            · obtain rfl : D = K := by omega
              have hfs := Lib.hid (refSet_any (p + 1) D D (bup T D) wr hb (by omega))
              have hwT : Hid (S = wgt z (bup T D) D) := by
                show _ = _
                rw [hS.out]
                exact wgt_congr fun v hv => by unfold bup; rw [if_pos hv]
              clear hS ht hr hb
              go_wp2_with fail
              refine hfs.out.mono ?_
              rintro e w10 ⟨g3, rfl, hg3, hrow3, b10⟩
              have s10 := hs.below b10
              have B10 := below_next hB b10
              have hsl2 := hs.lt
              have r0 := s10.c0
              have r1 := s10.c1
              have f0 := s10.free 0
              have f1 := s10.free 1
              have s11 := setAt_put (N' := (D : Int)) (A' := some ⟨g3, 0, none⟩) (l' := (D + 63) / 64) (c' := (D + 63) / 64) s10
              have e0 := s11.c0
              have e1 := s11.c1
              have hne3 : g3 ≠ w.heap.size := by omega
              have hw10 := hB.size
              generalize hmw : (D + 63) / 64 = mw at *
              have HMW := Lib.hid hmw
              clear hmw hfs s10 s11 hs hB b10
              go_wp2_with fail
              refine bodyPost_ret (v := .tuple #[.agg #[.int .i64 D, .slice (some ⟨g3, 0, none⟩) mw mw], .int .i64 S]) (by simp [results, Try.results34, go_sem, e0, e1]) rfl ?_
              refine ⟨g3, bup T D, by rw [HMW.out, ← hwT.out], by rw [HMW.out]; exact (hrow3.setOther (by exact hne3) _).setOther (by exact hne3) _, hbest.out, by omega, (B10.setCell (Nat.le_refl _) _).setCell (Nat.le_refl _) _⟩
end Go.Proofs.Ytjdceafkcakbjaa
