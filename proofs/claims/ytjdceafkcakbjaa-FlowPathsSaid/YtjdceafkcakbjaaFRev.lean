/- slices.Reverse at a list of the call's own. -/
import Derived.Test.YtjdceafkcakbjaaFTkM
import Derived.Test.YtjdceafkcakbjaaFCut
namespace Go.Proofs.Ytjdceafkcakbjaa
open Go.RowKit
/- a list of numbers in a block -/
def LAt (w : World) (g : Nat) (L : List Nat) : Prop := ∃ S F, w.rowIs g 3 S F ∧ L.length ≤ S ∧ ∀ k (hk : k < L.length), F k = .int .i64 (L[k] : Nat)
theorem LAt.of_block {w w' : World} {g : Nat} {L : List Nat} (h : LAt w g L) (e : w'.heap[g]? = w.heap[g]?) : LAt w' g L := by
  obtain ⟨S, F, h1, h2, h3⟩ := h
  exact ⟨S, F, h1.of_block e, h2, h3⟩
theorem LAt.lt {w : World} {g : Nat} {L : List Nat} (h : LAt w g L) : g < w.heap.size := by obtain ⟨S, F, h1, _⟩ := h; exact h1.lt
theorem LAt.cell {w : World} {g : Nat} {L : List Nat} (h : LAt w g L) {k : Nat} (hk : k < L.length) : w.cell? ⟨g, k, none⟩ = some (.int .i64 (L[k] : Nat)) := by
  obtain ⟨S, F, h1, h2, h3⟩ := h
  rw [h1.cell (by omega), h3 k hk]
theorem LAt.cellD {w : World} {g : Nat} {L : List Nat} (h : LAt w g L) {k : Nat} (hk : k < L.length) : w.cell? ⟨g, k, none⟩ = some (.int .i64 (L.getD k 0 : Nat)) := by
  rw [h.cell hk, List.getD_eq_getElem?_getD, List.getElem?_eq_getElem hk]; rfl
theorem LAt.frozen {w : World} {g : Nat} {L : List Nat} (h : LAt w g L) (k : Nat) : w.frozen? ⟨g, k, none⟩ = false := by
  obtain ⟨S, F, h1, h2, h3⟩ := h
  exact h1.frozen k
theorem own_lat {w : World} {base g c : Nat} {l : List Nat} (h : w.ownsRow base 3 1 (.slice (some ⟨g, 0, none⟩) l.length c) l.length (vals l)) : LAt w g l := by
  rcases h.2 with ⟨hv, _⟩ | ⟨g', cap, cur, hv, hb, hg, hnc, hcm, hcs, ht⟩
  · cases hv
  · injection hv with e1 _ e2
    injection e1 with e1
    injection e1 with e1 _ _
    subst e1
    refine ⟨cur.size, fun k => cur.getD k undef, ⟨cur, hg, rfl, fun k hk => by simp [hk]⟩, by omega, fun k hk => ?_⟩
    have h4 : (cur.toList.take (l.length * 1))[k]? = (vals l)[k]? := by rw [ht]
    rw [List.getElem?_take_of_lt (by omega)] at h4
    unfold vals at h4
    rw [List.getElem?_map, List.getElem?_eq_getElem hk] at h4
    have h5 : cur[k]? = some (.int .i64 (l[k] : Nat)) := by simpa using h4
    show cur.getD k undef = _
    rw [Array.getD_eq_getD_getElem?, h5]; rfl
/- the list after K exchanges from both ends -/
def rv (f : Nat → Nat) (n K : Nat) : Nat → Nat := fun j => if j < K ∨ n - K ≤ j then f (n - 1 - j) else f j
theorem rv_step (f : Nat → Nat) (n K : Nat) (h : 2 * K + 1 < n) : ∀ j, j < n → (if j = n - 1 - K then f K else if j = K then f (n - 1 - K) else rv f n K j) = rv f n (K + 1) j := fun j hj => by
  unfold rv
  by_cases e1 : j = n - 1 - K
  · rw [if_pos e1, if_pos (by omega), e1]; congr 1; omega
  · rw [if_neg e1]
    by_cases e2 : j = K
    · rw [if_pos e2, if_pos (by omega), e2]
    · rw [if_neg e2]
      by_cases e3 : j < K ∨ n - K ≤ j
      · rw [if_pos e3, if_pos (by omega)]
      · rw [if_neg e3, if_neg (by omega)]
set_option maxHeartbeats 2000000 in
theorem reverse_any (g c lim : Nat) (L : List Nat) (w : World) (h : LAt w g L) (hl : L.length ≤ 1000000) (hlim : lim ≤ g) :
    Calls Try.prog 73 #[.slice (some ⟨g, 0, none⟩) L.length c] w fun e w' => e = .returned (.tuple #[]) ∧ LAt w' g L.reverse ∧ Below lim w w' ∧ ∀ p, p ≠ g → w'.heap[p]? = w.heap[p]? := by
  obtain ⟨S, F, h1, h2, h3⟩ := h
  obtain ⟨n, hn⟩ : ∃ n, L.length = n := ⟨_, rfl⟩
  obtain ⟨f, hf⟩ : ∃ f : Nat → Nat, f = fun k => L.getD k 0 := ⟨_, rfl⟩
  have h4 : ∀ k, k < n → F k = .int .i64 (f k : Nat) := fun k hk => by
    rw [h3 k (by omega), hf]
    show _ = Value.int .i64 ((L.getD k 0 : Nat) : Int)
    rw [List.getD_eq_getElem?_getD, List.getElem?_eq_getElem (by omega)]; rfl
  have hrow : w.rowIs g 3 S (fun j => if j < n then .int .i64 (rv f n 0 j : Nat) else F j) := h1.congr fun j _ => by
    by_cases hj : j < n
    · rw [if_pos hj, h4 j hj]; unfold rv; rw [if_neg (by omega)]
    · rw [if_neg hj]
  have hS : n ≤ S := by omega
  have HFIN : Hid (∀ (K : Nat) (w' : World), K ≤ n / 2 → n ≤ 2 * K + 1 → w'.rowIs g 3 S (fun j => if j < n then .int .i64 (rv f n K j : Nat) else F j) → LAt w' g L.reverse) := fun K w' hK1 hK2 hw => by
    refine ⟨S, _, hw, by simp; omega, fun k hk => ?_⟩
    have hk' : k < n := by simp at hk; omega
    rw [if_pos hk', List.getElem_reverse]
    have e : rv f n K k = f (n - 1 - k) := by
      unfold rv
      by_cases e3 : k < K ∨ n - K ≤ k
      · rw [if_pos e3]
      · rw [if_neg e3]; congr 1; omega
    rw [e, hf]
    show Value.int .i64 ((L.getD (n - 1 - k) 0 : Nat) : Int) = _
    rw [List.getD_eq_getElem?_getD, List.getElem?_eq_getElem (by omega)]
    simp [hn]
  rw [hn] at hl ⊢
  clear h1 h2 h3 h4 hn hf
  have hw0 : IntKind.i64.wrap ((n : Int) - 1) = (n : Int) - 1 := IntWalk.i64_in _ (by omega)
  go_enter Try.func73, Try.ntmps73
  go_wp2_with fail
  go_loopw [2, 3] (fun i j wr => ∃ K : Nat, K ≤ n / 2 ∧ i = .int .i64 K ∧ j = .int .i64 ((n : Int) - 1 - K) ∧ wr.rowIs g 3 S (fun j => if j < n then .int .i64 (rv f n K j : Nat) else F j) ∧ Below lim w wr ∧ ∀ p, p ≠ g → wr.heap[p]? = w.heap[p]?) (fun i _ _ => n - (intOf i).toNat)
  case atStart => exact ⟨0, by omega, rfl, by simp, hrow, Below.refl _ _, fun _ _ => rfl⟩
  case round =>
    clear hrow hw0
    obtain ⟨K, hK, rfl, rfl, hR, hB, hF⟩ := hrel
    by_cases hlt : 2 * K + 1 < n
    · have q1 : decide ((K : Int) < (n : Int) - 1 - K) = true := decide_eq_true (by omega)
      have hst := Lib.hid (rv_step f n K hlt)
      obtain ⟨J, hJ⟩ : ∃ J, J = n - 1 - K := ⟨_, rfl⟩
      have eJ : (n : Int) - 1 - K = (J : Int) := by omega
      have hKJ : K ≠ J := by omega
      have hJn : J < n := by omega
      have hKn : K < n := by omega
      have z0 := hR.cell (i := K) (by omega)
      have z1 := hR.cell (i := J) (by omega)
      rw [if_pos hKn] at z0
      rw [if_pos hJn] at z1
      have ez0 : rv f n K K = f K := by unfold rv; rw [if_neg (by omega)]
      have ez1 : rv f n K J = f J := by unfold rv; rw [if_neg (by omega)]
      rw [ez0] at z0
      rw [ez1] at z1
      have f0 := hR.frozen K
      have f1 := hR.frozen J
      have hw1 : IntKind.i64.wrap ((K : Int) + 1) = (K : Int) + 1 := IntWalk.i64_in _ (by omega)
      have hw2 : IntKind.i64.wrap ((J : Int) - 1) = (J : Int) - 1 := IntWalk.i64_in _ (by omega)
      have hR2 := ((hR.set K (.int .i64 (f J : Nat))).set J (.int .i64 (f K : Nat))).congr (g := fun j => if j < n then .int .i64 (rv f n (K + 1) j : Nat) else F j) (fun j hj => by
        have := hst.out j
        rw [← hJ] at this
        show (if j = J then Value.int .i64 (f K : Nat) else if j = K then .int .i64 (f J : Nat) else if j < n then .int .i64 (rv f n K j : Nat) else F j) = _
        by_cases hjn : j < n
        · rw [if_pos hjn, ← this hjn]
          by_cases e1 : j = J
          · rw [if_pos e1, if_pos e1, if_pos hjn]
          · rw [if_neg e1, if_neg e1]
            by_cases e2 : j = K
            · rw [if_pos e2, if_pos e2, if_pos hjn]
            · rw [if_neg e2, if_neg e2, if_pos hjn]
        · rw [if_neg (by omega), if_neg (by omega), if_neg hjn, if_neg hjn])
      have HR2 := Lib.hid hR2
      have hB2 := (hB.setCell (p := ⟨g, K, none⟩) (by exact hlim) (.int .i64 (f J : Nat))).setCell (p := ⟨g, J, none⟩) (by exact hlim) (.int .i64 (f K : Nat))
      have HF2 := Lib.hid (fun p (hp : p ≠ g) => (Below.heap_setCell (wr.setCell ⟨g, K, none⟩ (.int .i64 (f J : Nat))) ⟨g, J, none⟩ (.int .i64 (f K : Nat)) p (by exact hp)).trans ((Below.heap_setCell wr ⟨g, K, none⟩ (.int .i64 (f J : Nat)) p (by exact hp)).trans (hF p hp)))
      rw [eJ] at q1 ⊢
      have d0 : wr.drew.cell? ⟨g, K, none⟩ = _ := z0
      have d1 : wr.drew.cell? ⟨g, J, none⟩ = _ := z1
      have e0 : wr.drew.frozen? ⟨g, K, none⟩ = false := f0
      have e1 : wr.drew.frozen? ⟨g, J, none⟩ = false := f1
      have HJ := Lib.hid hJ
      have hk2 : K + 1 ≤ n / 2 := by omega
      have q2 : decide (K < J) = true := decide_eq_true (by omega)
      clear hF hR2 hR hB ez0 ez1 eJ hJ hlt q1
      go_wp2_with fail
      go_region
      go_wp2_with fail
      have hj2 : (J : Int) - 1 = (n : Int) - 1 - ((K + 1 : Nat) : Int) := by have := HJ.out; omega
      have hj3 := Lib.hid hj2
      clear hj2
      go_roundw
      case rel => exact ⟨K + 1, hk2, by go_num, by rw [hj3.out], HR2.out, hB2.drew, HF2.out⟩
      case measure => have := HJ.out; simp [intOf]; omega
    · have q1 : decide ((K : Int) < (n : Int) - 1 - K) = false := decide_eq_false (by omega)
      go_wp2_with fail
      go_end0
      exact ⟨rfl, HFIN.out K _ hK (by omega) hR, hB, hF⟩
end Go.Proofs.Ytjdceafkcakbjaa
