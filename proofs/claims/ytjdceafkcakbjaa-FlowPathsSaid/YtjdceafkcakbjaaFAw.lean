/- slices.Equal; the examples of the chapter hold. -/
import Derived.Test.YtjdceafkcakbjaaFClK
namespace Go.Proofs.Ytjdceafkcakbjaa
open Go.RowKit
theorem equal_ints (A B : Option Addr) (n c d : Nat) (z : Nat → Int) (w : World) (ha : Ints w A n z) (hb : Ints w B n z) (hn : n ≤ 1000000) :
    Calls Try.prog 36 #[.slice A n c, .slice B n d] w fun e w' => e = .returned (.bool true) ∧ Below w.heap.size w w' := by
  have HA := Lib.hid ha; clear ha
  have HB := Lib.hid hb; clear hb
  have hne : ((n : Int) != (n : Int)) = false := by simp
  go_enter Try.func36, Try.ntmps36
  go_wp2_with fail
  go_loopw [5, 13] (fun _ i wr => ∃ K : Nat, K ≤ n ∧ i = .int .i64 K ∧ Below w.heap.size w wr) (fun _ i _ => n - (intOf i).toNat)
  case atStart => exact ⟨0, by omega, rfl, Below.refl _ _⟩
  case round =>
    obtain ⟨K, hK, rfl, hW⟩ := hrel
    by_cases hlt : K < n
    · obtain ⟨b1, o1, rfl, _, h1⟩ := HA.out.below hW (by omega)
      obtain ⟨b2, o2, rfl, _, h2⟩ := HB.out.below hW (by omega)
      have x1 := h1 K hlt
      have x2 := h2 K hlt
      have hz : (z K != z K) = false := by simp
      clear h1 h2
      go_wp2_with fail
      go_quiet (fail)
      go_wp2_with fail
      go_roundw
      case rel => exact ⟨K + 1, by omega, by go_num, below_drewN hW _⟩
      case measure => simp [intOf]; omega
    · go_wp2_with fail
      go_ret
      exact ⟨rfl, hW⟩
theorem equal_words (A B : Option Addr) (n c d : Nat) (z : Nat → Nat) (w : World) (ha : Wds w A n z) (hb : Wds w B n z) (hn : n ≤ 1000000) :
    Calls Try.prog 37 #[.slice A n c, .slice B n d] w fun e w' => e = .returned (.bool true) ∧ Below w.heap.size w w' := by
  have HA := Lib.hid ha; clear ha
  have HB := Lib.hid hb; clear hb
  have hne : ((n : Int) != (n : Int)) = false := by simp
  go_enter Try.func37, Try.ntmps37
  go_wp2_with fail
  go_loopw [5, 13] (fun _ i wr => ∃ K : Nat, K ≤ n ∧ i = .int .i64 K ∧ Below w.heap.size w wr) (fun _ i _ => n - (intOf i).toNat)
  case atStart => exact ⟨0, by omega, rfl, Below.refl _ _⟩
  case round =>
    obtain ⟨K, hK, rfl, hW⟩ := hrel
    by_cases hlt : K < n
    · obtain ⟨b1, o1, rfl, _, h1⟩ := (HA.out.below hW).2 (by omega)
      obtain ⟨b2, o2, rfl, _, h2⟩ := (HB.out.below hW).2 (by omega)
      have x1 := h1 K hlt
      have x2 := h2 K hlt
      have hz : (((z K : Nat) : Int) != ((z K : Nat) : Int)) = false := by simp
      clear h1 h2
      go_wp2_with fail
      go_quiet (fail)
      go_wp2_with fail
      go_roundw
      case rel => exact ⟨K + 1, by omega, by go_num, below_drewN hW _⟩
      case measure => simp [intOf]; omega
    · go_wp2_with fail
      go_ret
      exact ⟨rfl, hW⟩

def exN : List EdgeD := [⟨0, 1, 3⟩, ⟨1, 2, 2⟩, ⟨0, 2, 1⟩]
theorem exN_ok : VNet ((3 : Nat) : Int) 3 (eE exN) := by
  refine ⟨by decide, by decide, by decide, fun k hk => ?_⟩
  match k, hk with
  | 0, _ => exact ⟨⟨by decide, by decide, by decide⟩, by decide, by decide⟩
  | 1, _ => exact ⟨⟨by decide, by decide, by decide⟩, by decide, by decide⟩
  | 2, _ => exact ⟨⟨by decide, by decide, by decide⟩, by decide, by decide⟩
theorem ex_bal (g : Nat → Int) (v : Nat) : (netOf 3 3 (eE exN)).bal g v = ((0 + ((if 0 = v then g 0 else 0) - (if 1 = v then g 0 else 0))) + ((if 1 = v then g 1 else 0) - (if 2 = v then g 1 else 0))) + ((if 0 = v then g 2 else 0) - (if 2 = v then g 2 else 0)) := rfl
theorem ex_cap (S : Nat → Bool) : (netOf 3 3 (eE exN)).capS S = ((0 + (if S 0 = true ∧ S 1 = false then 3 else 0)) + (if S 1 = true ∧ S 2 = false then 2 else 0)) + (if S 0 = true ∧ S 2 = false then 1 else 0) := rfl
theorem ex_done {R : Nat → Int} (h : (netOf 3 3 (eE exN)).Done 0 2 R) : (netOf 3 3 (eE exN)).bal (flowOf R) 0 = 3 ∧ flowOf R 0 = 2 ∧ flowOf R 1 = 2 ∧ flowOf R 2 = 1 ∧ (netOf 3 3 (eE exN)).Reach R 0 1 := by
  have ok : (netOf 3 3 (eE exN)).Ok := VNet.ok exN_ok
  have hf := h.flow
  have a0 := hf.r1 1 (by decide)
  have a1 := hf.r1 2 (by decide)
  have b1 := hf.b 1 (by decide) (by decide) (by decide)
  replace a0 : flowOf R 1 ≤ 2 := a0
  replace a1 : flowOf R 2 ≤ 1 := a1
  rw [ex_bal] at b1
  simp at b1
  classical
  obtain ⟨S, hS⟩ : ∃ S : Nat → Bool, ∀ v, S v = true ↔ (netOf 3 3 (eE exN)).Reach R 0 v := ⟨fun v => decide ((netOf 3 3 (eE exN)).Reach R 0 v), fun v => by simp⟩
  have s0 : S 0 = true := (hS 0).2 .here
  have s2 : S 2 = false := by
    cases e : S 2
    · rfl
    · exact absurd ((hS 2).1 e) h.no
  have hc := h.cap ok (by decide) hS
  rw [ex_cap, ex_bal, s0, s2] at hc
  rw [ex_bal]
  cases s1 : S 1
  · rw [s1] at hc
    simp at hc
    omega
  · rw [s1] at hc
    simp at hc ⊢
    exact ⟨by omega, by omega, by omega, by omega, (hS 1).1 s1⟩
theorem word3 {f : Nat → Nat} (hu : U64 f 1) (h0 : bt f 0 = true) (h1 : bt f 1 = true) (h2 : ∀ i, 2 ≤ i → i < 64 → bt f i = false) : f 0 = 3 := by
  have := bt_ext (f := f) (g := fun _ => 3) (m := 1) hu (fun k hk => by show 3 < _; decide) (fun i hi => by
    by_cases e0 : i = 0
    · subst e0; rw [h0]; rfl
    · by_cases e1 : i = 1
      · subst e1; rw [h1]; rfl
      · rw [h2 i (by omega) (by omega)]
        unfold bt
        rw [show i / 64 = 0 by omega, show i % 64 = i by omega]
        refine (Nat.testBit_lt_two_pow ?_).symm
        exact Nat.lt_of_lt_of_le (by decide : 3 < 2 ^ 2) (Nat.pow_le_pow_right (by decide) (by omega))) 0 (by decide)
  exact this
theorem set3 {l : List Nat} (h0 : 0 ∈ l) (h1 : 1 ∈ l) (h2 : ∀ v, v ∈ l → v < 2) : setF l 0 = 3 :=
  word3 (setF_u64 l 1) ((setF_bt l 0).2 h0) ((setF_bt l 1).2 h1) (fun i hi _ => by
    cases e : bt (setF l) i
    · rfl
    · have := h2 i ((setF_bt l i).1 e); omega)
theorem ex_cut {R : Nat → Int} (h : (netOf 3 3 (eE exN)).Done 0 2 R) {l : List Nat} (hl : ∀ v, v ∈ l ↔ v < 3 ∧ (netOf 3 3 (eE exN)).Reach R 0 v) : setF l 0 = 3 ∧ (netOf 3 3 (eE exN)).capS (bt (setF l)) = 3 := by
  have hr := (ex_done h).2.2.2.2
  have h0 : 0 ∈ l := (hl 0).2 ⟨by decide, .here⟩
  have h1 : 1 ∈ l := (hl 1).2 ⟨by decide, hr⟩
  have h2 : ¬ 2 ∈ l := fun hm => h.no ((hl 2).1 hm).2
  have h3 : ∀ v, v ∈ l → v < 2 := fun v hv => by
    have := ((hl v).1 hv).1
    by_cases e : v = 2
    · subst e; exact absurd hv h2
    · omega
  refine ⟨set3 h0 h1 h3, ?_⟩
  have e2 : bt (setF l) 2 = false := by
    cases e : bt (setF l) 2
    · rfl
    · exact absurd ((setF_bt l 2).1 e) h2
  rw [ex_cap, (setF_bt l 0).2 h0, (setF_bt l 1).2 h1, e2]; decide
def exZ : Nat → Int := fun k => [5, -3, -4].getD k 0
def exY : Nat → Int × Int := fun k => [(0, 1)].getD k (0, 0)
theorem ex_args : CArgs 3 1 exZ exY := by
  refine ⟨by decide, by decide, fun i hi => ?_, fun i hi => ?_⟩
  · match i, hi with
    | 0, _ => exact ⟨by decide, by decide⟩
    | 1, _ => exact ⟨by decide, by decide⟩
    | 2, _ => exact ⟨by decide, by decide⟩
  · match i, hi with
    | 0, _ => exact ⟨⟨by decide, by decide⟩, by decide, by decide⟩
theorem ex_wgt (S : Nat → Bool) : wgt exZ S 3 = ((0 + (if S 0 = true then 5 else 0)) + (if S 1 = true then -3 else 0)) + (if S 2 = true then -4 else 0) := rfl
theorem ex_best {l : List Nat} (hl : ∀ v, v ∈ l → v < 3) (h : Best 3 1 exZ exY (bt (setF l))) : setF l 0 = 3 ∧ wgt exZ (bt (setF l)) 3 = 2 := by
  have h1 := h.cl 0 (by decide)
  replace h1 : bt (setF l) 0 = true → bt (setF l) 1 = true := h1
  have h2 := (h.best (fun v => decide (v < 2)) (fun j hj _ => by
    obtain rfl : j = 0 := by omega
    rfl)).1
  rw [ex_wgt, ex_wgt] at h2
  have key : bt (setF l) 0 = true ∧ bt (setF l) 1 = true ∧ bt (setF l) 2 = false := by
    cases e0 : bt (setF l) 0 <;> cases e1 : bt (setF l) 1 <;> cases e2 : bt (setF l) 2 <;> simp_all
  refine ⟨set3 ((setF_bt l 0).1 key.1) ((setF_bt l 1).1 key.2.1) (fun v hv => ?_), ?_⟩
  · have := hl v hv
    by_cases e : v = 2
    · subst e; rw [(setF_bt l 2).2 hv] at key; cases key.2.2
    · omega
  · rw [ex_wgt, key.1, key.2.1, key.2.2]; decide
end Go.Proofs.Ytjdceafkcakbjaa
