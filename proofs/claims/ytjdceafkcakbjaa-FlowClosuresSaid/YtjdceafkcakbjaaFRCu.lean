/- The reference's Cut. -/
import Derived.Test.YtjdceafkcakbjaaFRSe
import Derived.Test.YtjdceafkcakbjaaFRMx
import Derived.Test.YtjdceafkcakbjaaLDu
namespace Go.Proofs.Ytjdceafkcakbjaa
open Go.RowKit
def ReaM (w : World) (n m : Nat) (E : Nat → EdgeD) (F : Nat → Int) (s : Nat) (e : Ending) (w' : World) : Prop :=
  ∃ gS gB q b, e = .returned (.tuple #[.slice (some ⟨gS, 0, none⟩) n n, .slice (some ⟨gB, 0, none⟩) n n]) ∧ w'.rowIs gS 4 n (bvals q) ∧ w'.rowIs gB 3 n (ivals b) ∧ (netOf n m E).Rb (resid (netOf n m E).cp F) s q.length q b ∧ w.heap.size ≤ gS ∧ w.heap.size ≤ gB ∧ gS ≠ gB ∧ Below w.heap.size w w'
def RMaxN (w : World) (n m : Nat) (E : Nat → EdgeD) (s t : Nat) (e : Ending) (w' : World) : Prop :=
  ∃ g F, e = .returned (.slice (some ⟨g, 0, none⟩) m m) ∧ w'.rowIs g 3 m (ivals F) ∧ (netOf n m E).Done s t (resid (netOf n m E).cp F) ∧ w.heap.size ≤ g ∧ Below w.heap.size w w'
def RCutEnd (w : World) (n m : Nat) (E : Nat → EdgeD) (s t : Nat) (e : Ending) (w' : World) : Prop :=
  ∃ g B F, e = .returned (.agg #[.int .i64 n, .slice (some ⟨g, 0, none⟩) ((n + 63) / 64) ((n + 63) / 64)]) ∧ w'.rowIs g 61 ((n + 63) / 64) (fun k => .int .u64 (bw B n k : Nat)) ∧ (netOf n m E).Done s t (resid (netOf n m E).cp F) ∧ (∀ v, B v = true ↔ (netOf n m E).Reach (resid (netOf n m E).cp F) s v) ∧ w.heap.size ≤ g ∧ Below w.heap.size w w'
set_option maxRecDepth 100000 in
set_option maxHeartbeats 8000000 in
theorem refCut_any (n m c s t : Nat) (A : Option Addr) (E : Nat → EdgeD) (w : World) (h : Edges w A m E) (hv : VNet n m E) (hs : s < n) (ht : t < n) (hst : s ≠ t) :
    Calls Try.prog 23 #[.agg #[.int .i64 n, .slice A m c], .int .i64 s, .int .i64 t] w (RCutEnd w n m E s t) := by
  have hn5 : n ≤ 512 := by have := hv.2.1; omega
  have RM : Hid (∀ u, Below w.heap.size w u → Calls Try.prog 20 #[.agg #[.int .i64 n, .slice A m c], .int .i64 s, .int .i64 t] u (RMaxN u n m E s t)) := fun u hu => refMax_any n m c s t A E u (h.below hu) hv hs ht hst
  have RE : Hid (∀ g F u, u.rowIs g 3 m (ivals F) → (netOf n m E).Done s t (resid (netOf n m E).cp F) → Below w.heap.size w u → Calls Try.prog 51 #[.agg #[.int .i64 n, .slice A m c], .int .i64 s, .slice (some ⟨g, 0, none⟩) m m] u (ReaM u n m E F s)) := fun g F u hr hd hu => reach_any n m c m s A (some ⟨g, 0, none⟩) E F u (h.below hu) hv (Row.ints hr) hs
  clear h hv ht hst
  have n0 := (netAt_new w n A m c).alloc (.cells #[.int .i64 0, .slice none 0 0] 28)
  have b0 := (below_new w (.cells #[.int .i64 n, .slice A m c] 24)).alloc (below_new w _).size (.cells #[.int .i64 0, .slice none 0 0] 28)
  have s0 := setAt_new (w.alloc (.cells #[.int .i64 n, .slice A m c] 24)) 0 none 0 0
  rw [show (w.alloc (.cells #[.int .i64 n, .slice A m c] 24)).heap.size = w.heap.size + 1 by simp] at s0
  have c0 := n0.c0
  have c1 := n0.c1
  go_enter Try.func23, Try.ntmps23
  go_upto_region 1 with fail
  generalize (w.alloc (.cells #[.int .i64 (n : Int), .slice A m c] 24)).alloc (.cells #[.int .i64 0, .slice none 0 0] 28) = W at *
  have HN := Lib.hid n0
  have HB := Lib.hid b0
  have HS := Lib.hid s0
  clear n0 b0 s0
  have hss : Hid (∀ w', Below W.heap.size W w' → Below W.heap.size W w' ∧ w'.cell? ⟨w.heap.size, 0, none⟩ = some (.int .i64 n) ∧ w'.cell? ⟨w.heap.size, 1, none⟩ = some (.slice A m c)) := fun w' b => ⟨b, (HN.out.below b).c0, (HN.out.below b).c1⟩
  go_region_held3 (fun w' => Below W.heap.size W w' ∧ w'.cell? ⟨w.heap.size, 0, none⟩ = some (.int .i64 n) ∧ w'.cell? ⟨w.heap.size, 1, none⟩ = some (.slice A m c))
    (first
      | exact hss.out _ (Below.refl _ _).drew
      | exact hss.out _ bc9
      | exact hss.out _ bc8)
    (first
      | (go_at_call 20; (with_reducible refine (RM.out _ (below_next HB.out (And.left (by assumption)))).mono ?_); rintro e w8 ⟨g2, F2, rfl, hr2, hd2, hg2, b8⟩; have bc8 := below_next (And.left (by assumption)) b8)
      | (go_at_call 51; (with_reducible refine (RE.out _ _ _ hr2 hd2 (below_next HB.out (And.left (by assumption)))).mono ?_); rintro e w9 ⟨gS, gB, q, b, rfl, hSe, hBy, hrb, hgS, hgB, hne, b9⟩; have bc9 := below_next (And.left (by assumption)) b9))
  all_goals
    have hbb := And.left (by assumption)
    have hmem := Lib.hid (fun v => hrb.reach (Nat.le_refl _) v)
    have HD := Lib.hid hd2
    have s9 := HS.out.below hbb
    have b9' := below_next HB.out hbb
    have hSr := row_below hSe (Below.refl _ w9)
    have hset := Lib.hid (refSet_any gS n n (fun j => decide (j ∈ q)) w9 hSe hn5)
    clear hSe hBy hrb hd2 hr2 hSr
    go_wp2_with fail
    refine hset.out.mono ?_
    rintro e w10 ⟨g3, rfl, hg3, hrow, b10⟩
    have s10 := s9.below b10
    have b10' := below_next b9' b10
    have hgg := b9'.size
    have r0 := s10.c0
    have r1 := s10.c1
    have f0 := s10.free 0
    have f1 := s10.free 1
    have s11 := setAt_put (N' := (n : Int)) (A' := some ⟨g3, 0, none⟩) (l' := (n + 63) / 64) (c' := (n + 63) / 64) s10
    have k0 := s11.c0
    have k1 := s11.c1
    have hsl := s9.lt
    have hne3 : g3 ≠ w.heap.size + 1 := by omega
    generalize hmw : (n + 63) / 64 = mw at *
    have HMW := Lib.hid hmw
    clear hmw hset s9 b9' s10 s11
    go_wp2_with fail
    refine bodyPost_ret (v := .agg #[.int .i64 n, .slice (some ⟨g3, 0, none⟩) mw mw]) (by simp [results, Try.results23, go_sem, k0, k1]) rfl ?_
    refine ⟨g3, (fun j => decide (j ∈ q)), F2, by rw [HMW.out], by rw [HMW.out]; exact (hrow.setOther (by exact hne3) _).setOther (by exact hne3) _, HD.out, (fun v => decide_eq_true_iff.trans (hmem.out v)), by omega, (b10'.setCell (by show w.heap.size ≤ w.heap.size + 1; omega) _).setCell (by show w.heap.size ≤ w.heap.size + 1; omega) _⟩
/- any two greatest flows have one nearest cut -/
theorem done_reach {Nn : Net} (ok : Nn.Ok) {s t : Nat} {R R' : Nat → Int} (h : Nn.Done s t R) (h' : Nn.Done s t R') (hs : s < Nn.n) (v : Nat) (hr : Nn.Reach R s v) : Nn.Reach R' s v := by
  classical
  obtain ⟨S, hS⟩ : ∃ S : Nat → Bool, ∀ v, S v = true ↔ Nn.Reach R' s v := ⟨fun v => decide (Nn.Reach R' s v), fun v => by simp⟩
  have hb := done_eq ok h h' hs hS
  exact (hS v).1 (h.near ok hs ((hS s).2 .here) (by cases e : S t with | false => rfl | true => exact absurd ((hS t).1 e) h'.no) hb v hr)
end Go.Proofs.Ytjdceafkcakbjaa
