/- The reference's neighbors: rows of numbers. -/
import Derived.Test.YtmafnncpdccfdaaMMax
namespace Go.Proofs.Ytmafnncpdccfdaa
open Go.RowKit
def NeEnd (w : World) (n k : Nat) (E : Nat → Int × Int) (e : Ending) (w' : World) : Prop :=
  ∃ V, e = .returned (.slice (some ⟨w.heap.size, 0, none⟩) n n) ∧ TabN w' (w.heap.size + 1) w.heap.size n (nbs E k) V ∧ Below w.heap.size w w'
set_option linter.unusedSimpArgs false in
set_option maxRecDepth 100000 in
set_option maxHeartbeats 4000000 in
theorem rneigh_any (n m k c : Nat) (A : Option Addr) (E : Nat → Int × Int) (w : World) (h : Prs w A k E) (hv : VG n m k E) : Calls Try.prog 48 #[.int .i64 n, .slice A k c] w (NeEnd w n k E) := by
  have hn := hv.n1
  have hm := hv.m1
  have mk1 := make_rows n (by omega)
  have HH := Lib.hid h
  have HV := Lib.hid hv
  have hk2 := hv.k2
  clear h hv
  have e0 : (w.alloc (.cells (madeCells #[.slice none 0 0] n) 53)).heap[w.heap.size]? = some (.cells (madeCells #[.slice none 0 0] n) 53) := heap_alloc_new w _
  have hT : TabN (w.alloc (.cells (madeCells #[.slice none 0 0] n) 53)) (w.heap.size + 1) w.heap.size n (nbs E 0) (fun _ => .slice none 0 0) := ⟨row_of_made e0, fun a _ => ⟨rfl, .inl ⟨rfl, rfl⟩⟩, fun a b _ _ _ g e => (by cases e), by omega⟩
  have b0 := below_new w (.cells (madeCells #[.slice none 0 0] n) 53)
  have hs0 : w.heap.size + 1 ≤ (w.alloc (.cells (madeCells #[.slice none 0 0] n) 53)).heap.size := by simp
  go_enter Try.func48, Try.ntmps48
  go_upto_region 2 with fail
  clear mk1 e0
  generalize w.alloc (.cells (madeCells #[.slice none 0 0] n) 53) = W at *
  go_wp2_with fail
  go_loopw [6] (fun i wr => ∃ (K : Nat) (V : Nat → Value), K ≤ k ∧ i = .int .i64 K ∧ TabN wr (w.heap.size + 1) w.heap.size n (nbs E K) V ∧ Below w.heap.size w wr ∧ w.heap.size + 1 ≤ wr.heap.size) (fun i _ => k - (intOf i).toNat)
  case atStart => exact ⟨0, _, Nat.zero_le _, rfl, hT, b0, hs0⟩
  case round =>
      clear hT b0 hs0
      obtain ⟨K0, V, hK, rfl, hT, hB, hsz⟩ := hrel
      by_cases hlt : K0 < k
      · obtain ⟨b, off, rfl, hbl, hcz⟩ := HH.out (by omega)
        have hblr : b < wr.heap.size := Nat.lt_of_lt_of_le hbl hB.size
        obtain ⟨y0, y1⟩ := hcz K0 hlt
        have x0 := (hB.cell (p := ⟨b, off + K0 * 2, none⟩) hbl).trans y0
        have x1 := (hB.cell (p := ⟨b, off + K0 * 2 + 1, none⟩) hbl).trans y1
        clear hcz y0 y1
        obtain ⟨⟨g1, g2⟩, g3, g4⟩ := HV.out.ran K0 hlt
        obtain ⟨a, ha⟩ := Int.eq_ofNat_of_zero_le g1
        obtain ⟨x, hx⟩ := Int.eq_ofNat_of_zero_le g3
        have han : a < n := by omega
        have hEK : E K0 = ((a : Int), (x : Int)) := Prod.ext ha hx
        have hnb := Lib.hid (nbs_step hEK)
        have hll := nbs_len E K0 a
        rw [ha] at x0
        rw [hx] at x1
        clear ha hx g1 g2 g3 g4 hEK
        have hwrap : IntKind.i64.wrap ((K0 : Int) + 1) = (K0 : Int) + 1 := IntWalk.i64_in _ (by omega)
        go_upto_region 5 with fail
        have u0 : wr.cell? ⟨b, off + K0 * 2, none⟩ = some (.int .i64 a) := x0
        have u1 : wr.cell? ⟨b, off + K0 * 2 + 1, none⟩ = some (.int .i64 x) := x1
        have r0 : wr.cell? ⟨w.heap.size, a, none⟩ = some (V a) := hT.rows.cell han
        have hgl := hT.rows.lt
        have HU1 : Hid (TabN wr.drew (w.heap.size + 1) w.heap.size n (nbs E K0) V) := Lib.hid (hT.below (below_drewN (Below.refl _ _) 1))
        have hva : Hid ((V a).ownBlock ≠ some b) := Lib.hid fun e => by have := ((hT.own a han).lt _ e).1; omega
        have hsz9 : w.heap.size + 1 ≤ wr.drew.heap.size := hsz
        have HS0 : Hid (wr.drew.cell? ⟨b, off + K0 * 2, none⟩ = some (.int .i64 a) ∧ wr.drew.cell? ⟨b, off + K0 * 2 + 1, none⟩ = some (.int .i64 x)) := Lib.hid ⟨u0, u1⟩
        have HS1 : Hid (∀ w', Below wr.drew.heap.size wr.drew w' → w'.cell? ⟨b, off + K0 * 2, none⟩ = some (.int .i64 a) ∧ w'.cell? ⟨b, off + K0 * 2 + 1, none⟩ = some (.int .i64 x)) :=
          Lib.hid fun w' hb => ⟨(hb.cell (p := ⟨b, off + K0 * 2, none⟩) hblr).trans u0, (hb.cell (p := ⟨b, off + K0 * 2 + 1, none⟩) hblr).trans u1⟩
        have HS2 : Hid (∀ (o : Obj) w9, (wr.drew.alloc o).grownBy w9 (V a).ownBlock → w9.cell? ⟨b, off + K0 * 2, none⟩ = some (.int .i64 a) ∧ w9.cell? ⟨b, off + K0 * 2 + 1, none⟩ = some (.int .i64 x)) :=
          Lib.hid fun o w9 hg =>
            have hblk : w9.heap[b]? = wr.heap[b]? := (hg.block b (by simp; omega) (fun e => hva.out e.symm)).trans (Below.heap_alloc wr.drew o b hblr)
            ⟨(World.cell?_of_block (w := wr) hblk).trans u0, (World.cell?_of_block (w := wr) hblk).trans u1⟩
        have HS3 : Hid (∀ (w9 : World) (u : Value), (w9.cell? ⟨b, off + K0 * 2, none⟩ = some (.int .i64 a) ∧ w9.cell? ⟨b, off + K0 * 2 + 1, none⟩ = some (.int .i64 x)) → (w9.setCell ⟨w.heap.size, a, none⟩ u).cell? ⟨b, off + K0 * 2, none⟩ = some (.int .i64 a) ∧ (w9.setCell ⟨w.heap.size, a, none⟩ u).cell? ⟨b, off + K0 * 2 + 1, none⟩ = some (.int .i64 x)) :=
          Lib.hid fun w9 u h =>
            have hblk : (w9.setCell ⟨w.heap.size, a, none⟩ u).heap[b]? = w9.heap[b]? := Below.heap_setCell _ _ _ _ (by show b ≠ w.heap.size; omega)
            ⟨(World.cell?_of_block (w := w9) hblk).trans h.1, (World.cell?_of_block (w := w9) hblk).trans h.2⟩
        have HB9 : Hid (∀ (o : Obj) w9 g, (wr.drew.alloc o).grownBy w9 g → g = (V a).ownBlock → Below w.heap.size w w9) := Lib.hid fun o w9 g hg eg => by
          have b2 := hB.trans ((below_drewN (Below.refl wr.heap.size wr) 1).mono hB.size)
          have b3 := b2.trans ((below_new wr.drew o).mono (by have := hB.size; exact this))
          refine ⟨hg.os.trans b3.os, hg.tape.trans b3.tape, hg.output.trans b3.output, Nat.le_trans b3.size hg.size, fun q hq => ?_⟩
          refine (hg.block q (by have := b3.size; omega) (fun e => ?_)).trans (b3.block q hq)
          have := ((hT.own a han).lt q (by rw [← eg]; exact e.symm)).1
          omega
        clear hT hB x0 x1 HH HV
        refine wp_region_held_drew (S := (fun w' => w'.cell? ⟨b, off + K0 * 2, none⟩ = some (.int .i64 a) ∧ w'.cell? ⟨b, off + K0 * 2 + 1, none⟩ = some (.int .i64 x))) (by kernel_rfl) HS0.out (fun hHeld => ?_)
        refine wpAnyH_take (i := 0) (v := ?_) rfl (by kernel_rfl) (by kernel_rfl) (by kernel_rfl) (fun _ _ _ h => h) (Or.inl ⟨by rfl, ?_⟩) (by assumption) ?_
        rotate_left 1
        · intro w hSw
          (try dsimp only at hSw)
          go_simp
          all_goals with_reducible rfl
        simp only [Act.put, List.setIfInBounds_toArray, List.set_cons_zero, List.set_cons_succ]
        refine wpAnyH_take (i := 1) (v := ?_) rfl (by kernel_rfl) (by kernel_rfl) (by kernel_rfl) (fun _ _ _ h => h) (Or.inl ⟨by rfl, ?_⟩) (by assumption) ?_
        rotate_left 1
        · intro w hSw
          (try dsimp only at hSw)
          go_simp
          all_goals with_reducible rfl
        simp only [Act.put, List.setIfInBounds_toArray, List.set_cons_zero, List.set_cons_succ]
        refine wpAnyH_take (i := 2) (v := ?_) rfl (by kernel_rfl) (by kernel_rfl) (by kernel_rfl) (fun _ _ _ h => h) (Or.inl ⟨by rfl, ?_⟩) (by assumption) ?_
        rotate_left 1
        · intro w hSw
          (try dsimp only at hSw)
          go_simp
          all_goals with_reducible rfl
        simp only [Act.put, List.setIfInBounds_toArray, List.set_cons_zero, List.set_cons_succ]
        refine wpAnyH_take (i := 3) (v := ?_) rfl (by kernel_rfl) (by kernel_rfl) (by kernel_rfl) (fun _ _ _ h => h) (Or.inl ⟨by rfl, ?_⟩) (by assumption) ?_
        rotate_left 1
        · intro w hSw
          (try dsimp only at hSw)
          go_simp
          all_goals with_reducible rfl
        simp only [Act.put, List.setIfInBounds_toArray, List.set_cons_zero, List.set_cons_succ]
        refine wpAnyH_take (i := 4) (v := ?_) rfl (by kernel_rfl) (by kernel_rfl) (by kernel_rfl) (fun _ _ _ h => h) (Or.inl ⟨by rfl, ?_⟩) (by assumption) ?_
        rotate_left 1
        · intro w hSw
          (try dsimp only at hSw)
          go_simp
          all_goals with_reducible rfl
        simp only [Act.put, List.setIfInBounds_toArray, List.set_cons_zero, List.set_cons_succ]
        refine wpAnyH_take (i := 5) (v := ?_) rfl (by kernel_rfl) (by kernel_rfl) (by kernel_rfl) (fun _ _ _ h => h) (Or.inl ⟨by rfl, ?_⟩) (by assumption) ?_
        rotate_left 1
        · intro w hSw
          (try dsimp only at hSw)
          go_simp
          all_goals with_reducible rfl
        simp only [Act.put, List.setIfInBounds_toArray, List.set_cons_zero, List.set_cons_succ]
        refine wpAnyH_take (i := 6) (v := ?_) rfl (by kernel_rfl) (by kernel_rfl) (by kernel_rfl) (fun _ _ _ h => h) (Or.inl ⟨by rfl, ?_⟩) (by assumption) ?_
        rotate_left 1
        · intro w hSw
          (try dsimp only at hSw)
          go_simp
          all_goals with_reducible rfl
        simp only [Act.put, List.setIfInBounds_toArray, List.set_cons_zero, List.set_cons_succ]
        refine wpAnyH_take (i := 7) (v := ?_) rfl (by kernel_rfl) (by kernel_rfl) (by kernel_rfl) (fun _ _ _ h => h) (Or.inl ⟨by rfl, ?_⟩) (by assumption) ?_
        rotate_left 1
        · intro w hSw
          (try dsimp only at hSw)
          go_simp
          all_goals with_reducible rfl
        simp only [Act.put, List.setIfInBounds_toArray, List.set_cons_zero, List.set_cons_succ]
        refine wpAnyH_take (i := 8) (v := ?_) rfl (by kernel_rfl) (by kernel_rfl) (by kernel_rfl) (fun _ _ _ h => h) (Or.inl ⟨by rfl, ?_⟩) (by assumption) ?_
        rotate_left 1
        · intro w hSw
          (try dsimp only at hSw)
          go_simp
          all_goals with_reducible rfl
        simp only [Act.put, List.setIfInBounds_toArray, List.set_cons_zero, List.set_cons_succ]
        refine wpAnyH_take (i := 9) (v := ?_) rfl (by kernel_rfl) (by kernel_rfl) (by kernel_rfl) (fun _ _ _ h => h) (Or.inl ⟨by rfl, ?_⟩) (by assumption) ?_
        rotate_left 1
        · intro w hSw
          (try dsimp only at hSw)
          go_simp
          all_goals with_reducible rfl
        simp only [Act.put, List.setIfInBounds_toArray, List.set_cons_zero, List.set_cons_succ]
        refine wpAnyH_take (i := 10) (v := ?_) rfl (by kernel_rfl) (by kernel_rfl) (by kernel_rfl) (fun _ _ _ h => h) (Or.inl ⟨by rfl, ?_⟩) (by assumption) ?_
        rotate_left 1
        · intro w hSw
          (try dsimp only at hSw)
          go_simp
          all_goals with_reducible rfl
        simp only [Act.put, List.setIfInBounds_toArray, List.set_cons_zero, List.set_cons_succ]
        refine wpAnyH_take (i := 11) (v := ?_) rfl (by kernel_rfl) (by kernel_rfl) (by kernel_rfl) (fun _ _ _ h => h) (Or.inl ⟨by rfl, ?_⟩) (by assumption) ?_
        rotate_left 1
        · intro w hSw
          (try dsimp only at hSw)
          go_simp
          all_goals with_reducible rfl
        simp only [Act.put, List.setIfInBounds_toArray, List.set_cons_zero, List.set_cons_succ]
        refine wpAnyH_take (i := 12) (v := ?_) rfl (by kernel_rfl) (by kernel_rfl) (by kernel_rfl) (fun _ _ _ h => h) (Or.inl ⟨by rfl, ?_⟩) (by assumption) ?_
        rotate_left 1
        · intro w hSw
          (try dsimp only at hSw)
          go_simp
          all_goals with_reducible rfl
        simp only [Act.put, List.setIfInBounds_toArray, List.set_cons_zero, List.set_cons_succ]
        refine wpAnyH_take (i := 14) (v := ?_) rfl (by kernel_rfl) (by kernel_rfl) (by kernel_rfl) (fun _ _ _ h => h) (Or.inl ⟨by rfl, ?_⟩) (by assumption) ?_
        rotate_left 1
        · intro w hSw
          (try dsimp only at hSw)
          go_simp
          all_goals with_reducible rfl
        simp only [Act.put, List.setIfInBounds_toArray, List.set_cons_zero, List.set_cons_succ]
        refine wpAnyH_take (i := 15) (v := ?_) rfl (by kernel_rfl) (by kernel_rfl) (by kernel_rfl) (fun _ _ _ h => h) (Or.inl ⟨by rfl, ?_⟩) (by assumption) ?_
        rotate_left 1
        · intro w hSw
          (try dsimp only at hSw)
          go_simp
          all_goals with_reducible rfl
        simp only [Act.put, List.setIfInBounds_toArray, List.set_cons_zero, List.set_cons_succ]
        refine wpAnyH_take (i := 16) (v := ?_) rfl (by kernel_rfl) (by kernel_rfl) (by kernel_rfl) (fun _ _ _ h => h) (Or.inl ⟨by rfl, ?_⟩) (by assumption) ?_
        rotate_left 1
        · intro w hSw
          (try dsimp only at hSw)
          go_simp
          all_goals with_reducible rfl
        simp only [Act.put, List.setIfInBounds_toArray, List.set_cons_zero, List.set_cons_succ]
        refine wpAnyH_take (i := 17) (v := ?_) rfl (by kernel_rfl) (by kernel_rfl) (by kernel_rfl) (fun _ _ _ h => h) (Or.inl ⟨by rfl, ?_⟩) (by assumption) ?_
        rotate_left 1
        · intro w hSw
          (try dsimp only at hSw)
          go_simp
          all_goals with_reducible rfl
        simp only [Act.put, List.setIfInBounds_toArray, List.set_cons_zero, List.set_cons_succ]
        refine wpAnyH_take (i := 18) (v := ?_) rfl (by kernel_rfl) (by kernel_rfl) (by kernel_rfl) (fun _ _ _ h => h) (Or.inl ⟨by rfl, ?_⟩) (by assumption) ?_
        rotate_left 1
        · intro w hSw
          (try dsimp only at hSw)
          go_simp
          all_goals with_reducible rfl
        simp only [Act.put, List.setIfInBounds_toArray, List.set_cons_zero, List.set_cons_succ]
        refine wpAnyH_ready (rs := [13, 19]) (by kernel_rfl) (by simp) ?_
        refine AllReadyH.cons rfl (fun K hK => ?_) (AllReadyH.cons rfl (fun K hK => ?_) AllReadyH.nil)
        · go_simp
          refine hK.out _ _ hHeld (fun hHeld => ?_)
          clear hK K
          refine wpAnyH_ready (rs := [19]) (by kernel_rfl) (by simp) ?_
          refine AllReadyH.cons rfl (fun K hK => ?_) AllReadyH.nil
          go_simp
          refine hK.out _ _ (HS1.out _ (below_new _ _)) (fun hHeld => ?_)
          clear hK K
          refine wpAnyH_ready (rs := [20]) (by kernel_rfl) (by simp) ?_
          refine AllReadyH.cons rfl (fun K hK => ?_) AllReadyH.nil
          refine step_append_nat rfl (.tmp 28) (.tmp 34) rfl (w.heap.size + 1) _ (nbs E K0 a) x _ (by simp only [Act.eval]; rfl) ((HU1.out.own a han).alloc _) wr.heap.size (by simp only [Act.eval]; rfl) (heap_alloc_new wr.drew _) (by omega) (Nat.le_trans hsz9 (below_new _ _).size) ?_
          intro g9 c9 w9 hown9 hg9 hat9
          obtain ⟨hA9, hN9⟩ := (HU1.out.below (below_new _ _)).step han hown9 hg9 hat9
          have f9 := hN9.frozen a
          have k9 : w9.cell? ⟨w.heap.size, a, none⟩ = some (V a) := hN9.cell han
          have hB9 := HB9.out _ _ _ hg9 rfl
          have s9 := HS2.out _ _ hg9
          have s10 := HS3.out w9 (.slice (some ⟨g9, 0, none⟩) ((nbs E K0 a).length + 1) c9) s9
          have hz9 : w.heap.size + 1 ≤ w9.heap.size := Nat.le_trans (Nat.le_trans hsz9 (below_new _ _).size) hg9.size
          refine hK.out _ _ s9 (fun hHeld => ?_)
          clear hK K
          simp only [Act.put, List.setIfInBounds_toArray, List.set_cons_zero, List.set_cons_succ]
          refine wpAnyH_ready (rs := [21]) (by kernel_rfl) (by simp) ?_
          refine AllReadyH.cons rfl (fun K hK => ?_) AllReadyH.nil
          go_simp
          refine hK.out _ _ hHeld (fun hHeld => ?_)
          clear hK K
          refine wpAnyH_ready (rs := [22]) (by kernel_rfl) (by simp) ?_
          refine AllReadyH.cons rfl (fun K hK => ?_) AllReadyH.nil
          go_simp
          refine hK.out _ _ s10 (fun hHeld => ?_)
          clear hK K
          refine wpAnyH_done (by kernel_rfl) ?_ _
          have hBx := hB9.setCell (p := ⟨w.heap.size, a, none⟩) (by exact Nat.le_refl _) (.slice (some ⟨g9, 0, none⟩) ((nbs E K0 a).length + 1) c9)
          clear HU1 hown9 hg9 hN9 hat9 r0 HS0 HS1 HS2 HS3 s9 s10 hHeld u0 u1 HB9
          go_wp2_with fail
          clear k9 f9
          go_roundw
          case rel => exact ⟨K0 + 1, _, by omega, by go_num, by rw [hnb.out]; exact hA9, hBx, by simp; omega⟩
          case measure => simp [intOf]; omega
        · go_simp
          refine hK.out _ _ (HS1.out _ (below_new _ _)) (fun hHeld => ?_)
          clear hK K
          refine wpAnyH_ready (rs := [13]) (by kernel_rfl) (by simp) ?_
          refine AllReadyH.cons rfl (fun K hK => ?_) AllReadyH.nil
          go_simp
          refine hK.out _ _ hHeld (fun hHeld => ?_)
          clear hK K
          refine wpAnyH_ready (rs := [20]) (by kernel_rfl) (by simp) ?_
          refine AllReadyH.cons rfl (fun K hK => ?_) AllReadyH.nil
          refine step_append_nat rfl (.tmp 28) (.tmp 34) rfl (w.heap.size + 1) _ (nbs E K0 a) x _ (by simp only [Act.eval]; rfl) ((HU1.out.own a han).alloc _) wr.heap.size (by simp only [Act.eval]; rfl) (heap_alloc_new wr.drew _) (by omega) (Nat.le_trans hsz9 (below_new _ _).size) ?_
          intro g9 c9 w9 hown9 hg9 hat9
          obtain ⟨hA9, hN9⟩ := (HU1.out.below (below_new _ _)).step han hown9 hg9 hat9
          have f9 := hN9.frozen a
          have k9 : w9.cell? ⟨w.heap.size, a, none⟩ = some (V a) := hN9.cell han
          have hB9 := HB9.out _ _ _ hg9 rfl
          have s9 := HS2.out _ _ hg9
          have s10 := HS3.out w9 (.slice (some ⟨g9, 0, none⟩) ((nbs E K0 a).length + 1) c9) s9
          have hz9 : w.heap.size + 1 ≤ w9.heap.size := Nat.le_trans (Nat.le_trans hsz9 (below_new _ _).size) hg9.size
          refine hK.out _ _ s9 (fun hHeld => ?_)
          clear hK K
          simp only [Act.put, List.setIfInBounds_toArray, List.set_cons_zero, List.set_cons_succ]
          refine wpAnyH_ready (rs := [21]) (by kernel_rfl) (by simp) ?_
          refine AllReadyH.cons rfl (fun K hK => ?_) AllReadyH.nil
          go_simp
          refine hK.out _ _ hHeld (fun hHeld => ?_)
          clear hK K
          refine wpAnyH_ready (rs := [22]) (by kernel_rfl) (by simp) ?_
          refine AllReadyH.cons rfl (fun K hK => ?_) AllReadyH.nil
          go_simp
          refine hK.out _ _ s10 (fun hHeld => ?_)
          clear hK K
          refine wpAnyH_done (by kernel_rfl) ?_ _
          have hBx := hB9.setCell (p := ⟨w.heap.size, a, none⟩) (by exact Nat.le_refl _) (.slice (some ⟨g9, 0, none⟩) ((nbs E K0 a).length + 1) c9)
          clear HU1 hown9 hg9 hN9 hat9 r0 HS0 HS1 HS2 HS3 s9 s10 hHeld u0 u1 HB9
          go_wp2_with fail
          clear k9 f9
          go_roundw
          case rel => exact ⟨K0 + 1, _, by omega, by go_num, by rw [hnb.out]; exact hA9, hBx, by simp; omega⟩
          case measure => simp [intOf]; omega
      · obtain rfl : K0 = k := by omega
        go_wp2_with fail
        go_ret
        exact ⟨V, rfl, hT, hB⟩
end Go.Proofs.Ytmafnncpdccfdaa
