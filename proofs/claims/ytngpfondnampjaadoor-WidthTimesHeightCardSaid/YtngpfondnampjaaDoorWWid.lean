/- Package width: matched, Width. -/
import Derived.Test.YtngpfondnampjaaDoorMGb
import Derived.Test.YtngpfondnampjaaDoorMTop
namespace Go.Proofs.YtngpfondnampjaaDoor
open Go.RowKit Go.Sort
theorem pairsL_nodup (T : Nat → Nat → Bool) (n : Nat) : ∀ K, (pairsL T n K).Nodup
  | 0 => List.nodup_nil
  | K + 1 => by
    show (pairsL T n K ++ (rowL T n K).map fun j => (K, j)).Nodup
    refine List.nodup_append.2 ⟨pairsL_nodup T n K, ?_, fun a ha b hb e => ?_⟩
    · have h1 : (rowL T n K).Nodup := (List.nodup_range (n := n)).sublist List.filter_sublist
      exact h1.map (f := fun j => (K, j)) (fun x y hxy e => hxy (by injection e))
    · obtain ⟨j, _, rfl⟩ := List.mem_map.1 hb
      obtain ⟨a1, a2⟩ := a
      have := (mem_pairsL.1 ha).1
      injection e with e1 _
      omega
theorem zpair_at {l : List (Nat × Nat)} {k : Nat} (hk : k < l.length) : zpair l k = (((l[k].1 : Nat) : Int), ((l[k].2 : Nat) : Int)) := by unfold zpair; rw [List.getD_eq_getElem?_getD, List.getElem?_eq_getElem hk]; rfl
theorem vg_pairs {T : Nat → Nat → Bool} {n : Nat} (hn : n ≤ 512) (hl : (pairsL T n n).length ≤ 2000) : VG n n (pairsL T n n).length (zpair (pairsL T n n)) := by
  refine ⟨by omega, by omega, by omega, by omega, hl, fun i hi => ?_, fun i j hij hj e => ?_⟩
  · rw [zpair_at hi]
    have hm : ((pairsL T n n)[i].1, (pairsL T n n)[i].2) ∈ pairsL T n n := List.getElem_mem hi
    obtain ⟨h1, h2, _⟩ := mem_pairsL.1 hm
    unfold InE
    refine ⟨⟨?_, ?_⟩, ?_, ?_⟩ <;> simp only [] <;> omega
  · rw [zpair_at (by omega), zpair_at hj] at e
    have h1 : (pairsL T n n)[i] = (pairsL T n n)[j] := by
      injection e with e1 e2
      exact Prod.ext (by omega) (by omega)
    have := (List.getElem_inj (pairsL_nodup T n n)).1 h1
    omega
/- the pairs of a greatest matching -/
def mL (n : Nat) (T : Nat → Nat → Bool) : List (Int × Int) := prl (maxS (nbs (zpair (pairsL T n n)) (pairsL T n n).length) n n).L n
theorem mL_len (n : Nat) (T : Nat → Nat → Bool) : (mL n T).length ≤ n := prl_len _ _
def WMEnd (w : World) (n : Nat) (R : Nat → RowD) (e : Ending) (w' : World) : Prop :=
  ((POrd n R ∧ (pairsL (mat R) n n).length ≤ 2000 ∧ ∃ v, e = .returned (.tuple #[v, .int .i64 0]) ∧ w'.ownsRow w.heap.size 78 2 v (mL n (mat R)).length (pvals5 (mL n (mat R)))) ∨
  (POrd n R ∧ 2000 < (pairsL (mat R) n n).length ∧ e = .returned (.tuple #[.slice none 0 0, .int .i64 9])) ∨
  (¬ POrd n R ∧ e = .returned (.tuple #[.slice none 0 0, .int .i64 1]))) ∧ Below w.heap.size w w'
set_option maxRecDepth 100000 in
set_option maxHeartbeats 4000000 in
theorem matched_any (A : Option Addr) (n c : Nat) (R : Nat → RowD) (w : World) (h : Rel w A n R) (hn1 : n ≤ 1000000) (hT : Tab w) :
    Calls Tryd.prog 49 #[.agg #[.slice A n c]] w (WMEnd w n R) := by
  have HH := Lib.hid h; clear h
  have b0 := below_new w (.cells #[.slice A n c] 24)
  have r0 := relAt_new w A n c
  have c0 := r0.c0
  have HPR := Lib.hid (wpairs_any A n c R (w.alloc (.cells #[.slice A n c] 24)) (HH.out.below b0) hn1 (hT.below b0))
  unfold WPrEnd at HPR
  go_enter Tryd.func49, Tryd.ntmps49
  go_upto_region 1 with fail
  generalize w.alloc (.cells #[.slice A n c] 24) = W at *
  go_wp2_with fail
  refine HPR.out.mono ?_; rintro e w2 (⟨hP, hle, v, rfl, hown, b2⟩ | ⟨hP, hgt2, rfl, b2⟩ | ⟨hP, rfl, b2⟩)
  · have r2 := r0.below b2
    have B2 := below_next b0 b2
    have HP := Lib.hid hP
    have HLE := Lib.hid hle
    obtain ⟨Av, cv, rfl, hPr⟩ := own_prs hown
    have HMX := Lib.hid (max_ok n n _ cv Av _ w2 hPr (vg_pairs hP.1.1 hle))
    have hmL : Hid (prl (maxS (nbs (zpair (pairsL (mat R) n n)) (pairsL (mat R) n n).length) n n).L n = mL n (mat R)) := Lib.hid rfl
    rw [hmL.out] at HMX
    unfold MaxOk at HMX
    clear hown hP hle c0 r0 b0 b2 HPR hPr hmL
    have c0 := r2.c0
    obtain ⟨q, hq⟩ : ∃ q, (pairsL (mat R) n n).length = q := ⟨_, rfl⟩
    rw [hq] at HMX ⊢
    clear hq
    go_wp2_with fail
    refine HMX.out.mono ?_; rintro e w3 ⟨v, rfl, hown3, b3⟩
    have HO := Lib.hid (own_mono (base' := w.heap.size) hown3 B2.size)
    clear hown3
    go_wp2_with fail
    go_ret2
    exact ⟨.inl ⟨HP.out, HLE.out, v, rfl, HO.out⟩, below_next B2 b3⟩
  · have B2 := below_next b0 b2
    have HP := Lib.hid hP
    have HG := Lib.hid hgt2
    clear hP hgt2
    go_wp2_with fail
    go_ret2
    exact ⟨.inr (.inl ⟨HP.out, HG.out, rfl⟩), B2⟩
  · have B2 := below_next b0 b2
    have HP := Lib.hid hP
    clear hP
    go_wp2_with fail
    go_ret2
    exact ⟨.inr (.inr ⟨HP.out, rfl⟩), B2⟩
set_option maxRecDepth 100000 in
set_option maxHeartbeats 4000000 in
theorem width_any (A : Option Addr) (n c : Nat) (R : Nat → RowD) (w : World) (h : Rel w A n R) (hn1 : n ≤ 1000000) (hT : Tab w) :
    Calls Tryd.prog 20 #[.agg #[.slice A n c]] w (WNEnd w n R (n - (mL n (mat R)).length)) := by
  have HH := Lib.hid h; clear h
  have b0 := below_new w (.cells #[.slice A n c] 24)
  have r0 := relAt_new w A n c
  have c0 := r0.c0
  have HPR := Lib.hid (matched_any A n c R (w.alloc (.cells #[.slice A n c] 24)) (HH.out.below b0) hn1 (hT.below b0))
  unfold WMEnd at HPR
  have hml := mL_len n (mat R)
  go_enter Tryd.func20, Tryd.ntmps20
  go_upto_region 1 with fail
  generalize w.alloc (.cells #[.slice A n c] 24) = W at *
  go_wp2_with fail
  refine HPR.out.mono ?_; rintro e w2 ⟨(⟨hP, hle, v, rfl, hown⟩ | ⟨hP, hgt2, rfl⟩ | ⟨hP, rfl⟩), b2⟩
  · have r2 := r0.below b2
    have B2 := below_next b0 b2
    have HP := Lib.hid hP
    have HLE := Lib.hid hle
    have hn := hP.1.1
    obtain ⟨Av, cv, rfl, -⟩ := own_prs5 hown
    clear hown hP hle c0 r0 b0 b2 HPR
    have c0 := r2.c0
    generalize (mL n (mat R)).length = q at *
    have hw : IntKind.i64.wrap ((n : Int) - (q : Int)) = ((n - q : Nat) : Int) := by rw [show (n : Int) - (q : Int) = ((n - q : Nat) : Int) by omega]; exact IntWalk.i64_in _ (by omega)
    generalize hx : n - q = x at *
    go_wp2_with fail
    go_ret2
    exact ⟨.inl ⟨HP.out, HLE.out, rfl⟩, B2⟩
  · have B2 := below_next b0 b2
    have HP := Lib.hid hP
    have HG := Lib.hid hgt2
    clear hP hgt2
    go_wp2_with fail
    go_ret2
    exact ⟨.inr (.inl ⟨HP.out, HG.out, rfl⟩), B2⟩
  · have B2 := below_next b0 b2
    have HP := Lib.hid hP
    clear hP
    go_wp2_with fail
    go_ret2
    exact ⟨.inr (.inr ⟨HP.out, rfl⟩), B2⟩
end Go.Proofs.YtngpfondnampjaaDoor
